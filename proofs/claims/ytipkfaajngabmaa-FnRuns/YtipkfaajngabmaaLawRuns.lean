/- The law on runs, walked. -/
import Derived.Test.YtipkfaajngabmaaDmr
import Derived.Test.YtipkfaajngabmaaRnt
import Derived.Test.YtipkfaajngabmaaSm8
import Derived.Test.YtipkfaajngabmaaFru
import Derived.Test.YtipkfaajngabmaaJru
import Derived.Test.YtipkfaajngabmaaErt
import Derived.Test.YtipkfaajngabmaaUpm
import Derived.Deep.RegionHeld3
import Derived.Deep.AppendLies
import Derived.Deep.RegionHeld
namespace Go.Proofs.Ytipkfaajngabmaa
open Go.RowKit

/-- the first k numbers of h, then those of f -/
def mixF (h f : Nat → Int) (k : Nat) (q : Nat) : Int := if q < k then h q else f q
theorem mixF_step (h f : Nat → Int) (k : Nat) : updN (mixF h f k) k (h k) = mixF h f (k + 1) := by
  funext q
  unfold updN mixF
  by_cases e : q = k
  · subst e; simp
  · by_cases e2 : q < k
    · rw [if_neg e, if_pos e2, if_pos (by omega)]
    · rw [if_neg e, if_neg e2, if_neg (by omega)]
theorem alW_bits {g : Nat → Int} {n : Nat} (hg : bit1 g n) : alW g 0 1 n = true := by
  induction n with
  | zero => rfl
  | succ n ih =>
    simp only [alW]
    rw [ih (fun k hk => hg k (by omega))]
    rcases hg n (by omega) with e | e <;> rw [e] <;> rfl
theorem allB_bits {g : Nat → Int} {n : Nat} (hg : bit1 g n) : allB g n = true := by
  induction n with
  | zero => rfl
  | succ n ih =>
    simp only [allB]
    rw [ih (fun k hk => hg k (by omega))]
    rcases hg n (by omega) with e | e <;> rw [e] <;> rfl
theorem mask_bits {W H : Int} {n : Nat} {f g : Nat → Int} (h : maskB W H n f = true) (hg : bit1 g n) : maskB W H n g = true := by
  obtain ⟨hok, hW, hH, hn, hn1, hn2, hb⟩ := maskB_ok h
  have hal : alW g 0 1 n = true := alW_bits hg
  unfold maskB okB
  rw [hal, show inB W 1 64 = true by simp [inB]; omega, show inB H 1 64 = true by simp [inB]; omega, decide_eq_true hn, allB_bits hg]
  rfl
theorem addr_add (b j : Nat) : (⟨b, 0, none⟩ : Addr).add j = ⟨b, j, none⟩ := by unfold Addr.add; split <;> simp_all
theorem bx_block {b : Nat} {vs : List Value} {w w' : World} (hx : Bx b vs w) (e : w'.heap[b]? = w.heap[b]?) : Bx b vs w' := fun j v hv => by
  have q := hx j v hv
  refine ⟨?_, ?_⟩
  · rw [World.cell?_of_block (w := w) (a := ⟨b, j, none⟩) e]; exact q.1
  · rw [World.frozen?_of_block (w := w) (a := ⟨b, j, none⟩) e]; exact q.2
theorem px_own {w : World} {B n g cp : Nat} {f : Nat → Int} (h : w.ownsRow B 2 1 (.slice (some ⟨g, 0, none⟩) n cp) n (ints (fl f n))) : Px (some ⟨g, 0, none⟩) n f w := by
  obtain ⟨a, c, b, hv, ho, -⟩ := ow_fl h
  cases hv
  exact ho.px
/-- one box more, wherever it lies -/
theorem St.boxAt {w0 : World} {L : List BoxT} {O : List OwnT} {w : World} (h : St w0 L O w) {c : Nat} {vs : List Value} (hx : Bx c vs w) (h0 : w0.heap.size ≤ c) (hc : c < w.heap.size) (hn : c ∉ blocks L O) : St w0 ((c, vs) :: L) O w := by
  refine ⟨h.below, ?_, h.ow, ?_, ?_⟩
  · intro x hx'
    rcases List.mem_cons.1 hx' with rfl | hx'
    · exact hx
    · exact h.bx x hx'
  · intro b hb
    rcases List.mem_cons.1 hb with rfl | hb
    · exact ⟨h0, hc⟩
    · exact h.lt b hb
  · exact List.nodup_cons.2 ⟨hn, h.nd⟩
theorem boxNew {w0 : World} {L : List BoxT} {O : List OwnT} {w : World} (h : St w0 L O w) {c b9 n : Nat} {a : Option Addr} {f : Nat → Value} (hc : w.heap.size ≤ c) (hb : ¬ c = b9) : c ∉ blocks L ((a, b9, n, f) :: O) := by
  intro hm
  unfold blocks at hm
  rcases List.mem_append.1 hm with h1 | h1
  · have := (h.lt c (by unfold blocks; exact List.mem_append.2 (.inl h1))).2
    omega
  · obtain ⟨y, hy, rfl⟩ := List.mem_map.1 h1
    obtain ⟨hy1, hy2⟩ := List.mem_filter.1 hy
    rcases List.mem_cons.1 hy1 with rfl | hy1
    · exact hb rfl
    · have := (h.lt y.2.1 (by unfold blocks; exact List.mem_append.2 (.inr (List.mem_map.2 ⟨y, List.mem_filter.2 ⟨hy1, hy2⟩, rfl⟩)))).2
      omega
theorem fromRuns_back (W H : Int) (n : Nat) (f : Nat → Int) (hm : maskB W H n f = true) (a : Option Addr) (R cap : Nat) (hR : rcnt f n = R) (w : World) (h : Px a R (rval f n) w) :
    Calls Try.prog 11 #[.int .i64 W, .int .i64 H, .slice a R cap] w (ImRB W H n (rbit (rval f n) R) true w) := by
  obtain ⟨-, hW, hH, hn, hn1, hn2, hb⟩ := maskB_ok hm
  have hbd := rcnt_bd f n
  have c := implFromRuns_any W H a R cap (rval f n) (by omega) w h
  have hB : fruB W H R (rval f n) = true := by
    unfold fruB
    rw [← hn, ← hR, runs_right hb, show inB W 1 64 = true by simp [inB]; omega, show inB H 1 64 = true by simp [inB]; omega]
    rfl
  have e1 : fruW W H R (rval f n) = W := by unfold fruW; rw [hB]; rfl
  have e2 : fruH W H R (rval f n) = H := by unfold fruH; rw [hB]; rfl
  have e3 : fruN W H R (rval f n) = n := by unfold fruN; rw [hB]; simp; omega
  rw [e1, e2, e3, hB] at c
  exact c
theorem px_congr {a : Option Addr} {n : Nat} {f g : Nat → Int} {w : World} (h : Px a n f w) (e : ∀ j, j < n → f j = g j) : Px a n g w := by
  rcases h with h | ⟨b, off, ha, hc⟩
  · exact .inl h
  · exact .inr ⟨b, off, ha, fun k hk => by rw [← e k hk]; exact hc k hk⟩
/-- the joined runs -/
theorem joinRuns_back (W H : Int) (n : Nat) (f h : Nat → Int) (hm : maskB W H n f = true) (hh : bit1 h n) (op : Int) (ho : op = 1 ∨ op = 2 ∨ op = 3) (a a' : Option Addr) (R cap R' cap' : Nat) (hR : rcnt f n = R) (hR' : rcnt h n = R') (w : World) (h1 : Px a R (rval f n) w) (h2 : Px a' R' (rval h n) w) :
    Calls Try.prog 13 #[.int .i64 n, .slice a R cap, .slice a' R' cap', .int .i64 op] w (LsR (rcnt (jruF op R (rval f n) R' (rval h n)) n) (rval (jruF op R (rval f n) R' (rval h n)) n) w) := by
  obtain ⟨-, hW, hH, hn, hn1, hn2, hb⟩ := maskB_ok hm
  have hbd := rcnt_bd f n
  have hbd' := rcnt_bd h n
  have c := implJoinRuns_any n a R cap (rval f n) (by omega) a' R' cap' (rval h n) (by omega) op w h1 h2
  have hB : jruB n R (rval f n) R' (rval h n) op = true := by
    unfold jruB
    rw [← hR, ← hR', runs_right hb, runs_right hh, show inB op 1 3 = true by rcases ho with rfl | rfl | rfl <;> rfl, show inB (n : Int) 1 4096 = true by simp [inB]; omega]
    rfl
  have e3 : jruN n R (rval f n) R' (rval h n) op = rcnt (jruF op R (rval f n) R' (rval h n)) n := by unfold jruN; rw [hB]; simp
  rw [e3, Int.toNat_natCast] at c
  exact c
/-- the other mask's pixels -/
def othF (m2 : Nat) (g : Nat → Int) (q : Nat) : Int := if q < m2 ∧ g q = 1 then 1 else 0

set_option maxRecDepth 100000 in
set_option maxHeartbeats 40000000 in
theorem fnRuns_walk (a : Option Addr) (len cap : Nat) (a' : Option Addr) (len' cap' : Nat) (w : World) (h : Bytes a len w) (h' : Bytes a' len' w) :
    Calls Try.prog 3 #[.slice a len cap, .slice a' len' cap'] w fun e w' => e = .returned (.bool true) ∧ Below w.heap.size w w' := by
  have cB := big_any a len cap w
  have cB' := big_any a' len' cap' w
  have HBY := hide h
  have HBY' := hide h'
  clear h h'
  by_cases hbig : 1048576 < len
  · rw [decide_eq_true hbig] at cB
    go_enter Try.func3, Try.ntmps3
    go_wp2_with fail
    refine cB.mono ?_
    rintro e w1 ⟨rfl, rfl⟩
    clear cB
    go_wp2_with fail
    go_ret
    exact ⟨rfl, Below.refl _ _⟩
  rw [decide_eq_false hbig] at cB
  clear hbig
  by_cases hbig : 1048576 < len'
  · rw [decide_eq_true hbig] at cB'
    go_enter Try.func3, Try.ntmps3
    go_wp2_with fail
    refine cB.mono ?_
    rintro e w1 ⟨rfl, rfl⟩
    clear cB
    go_wp2_with fail
    refine cB'.mono ?_
    rintro e w1 ⟨rfl, rfl⟩
    clear cB'
    go_wp2_with fail
    go_ret
    exact ⟨rfl, Below.refl _ _⟩
  rw [decide_eq_false hbig] at cB'
  clear hbig
  go_enter Try.func3, Try.ntmps3
  go_wp2_with fail
  refine cB.mono ?_
  rintro e w0 ⟨rfl, rfl⟩
  clear cB
  go_wp2_with fail
  refine cB'.mono ?_
  rintro e w0 ⟨rfl, rfl⟩
  clear cB'
  have cD := drawRunsOf_any a len cap w0 HBY.out
  go_wp2_with fail
  refine cD.mono ?_
  rintro e w1 ⟨W, H, x, b, m, c, f, rfl, hm, ho, hb1, hbl⟩
  have HS1 := hide ((St.start w0).own hbl ho.v hb1)
  have HS2 := hide (HS1.out.box [.int .i64 W, .int .i64 H, .slice x m c] 26)
  clear cD ho hb1 hbl HS1
  go_upto_region 4 with fail
  generalize hw2 : w1.alloc (.cells #[.int .i64 W, .int .i64 H, .slice x m c] 26) = w2 at *
  have HS3 : Hid (St w0 [(w1.heap.size, [.int .i64 W, .int .i64 H, .slice x m c])] [(x, b, m, fun k => .int .i64 (f k))] w2) := HS2.out
  clear HS2 hw2
  generalize hX : w1.heap.size = X at *
  clear hX
  have cD := drawRunsOf_any a' len' cap' w2 (HBY'.out.below HS3.out.below)
  go_wp2_with fail
  refine cD.mono ?_
  rintro e w3 ⟨W2, H2, x2, bb, m2, c2, g, rfl, hm2, ho, hb1, hbl⟩
  have HS1 := hide (HS3.out.own hbl ho.v hb1)
  have HS2 := hide (HS1.out.box [.int .i64 W2, .int .i64 H2, .slice x2 m2 c2] 26)
  clear cD ho hb1 hbl HS1 HS3 HBY HBY'
  go_upto_region 5 with fail
  generalize hw2 : w3.alloc (.cells #[.int .i64 W2, .int .i64 H2, .slice x2 m2 c2] 26) = w4 at *
  have HS3 : Hid (St w0 [(w3.heap.size, [.int .i64 W2, .int .i64 H2, .slice x2 m2 c2]), (X, [.int .i64 W, .int .i64 H, .slice x m c])] [(x2, bb, m2, fun k => .int .i64 (g k)), (x, b, m, fun k => .int .i64 (f k))] w4) := HS2.out
  clear HS2 hw2
  generalize hX : w3.heap.size = X2 at *
  clear hX
  obtain ⟨i0, i1, i2⟩ := HS3.out.im3 1 rfl
  have cR := specRunsOf_any W H x m c f (by omega) _ (HS3.out.nthO 1 rfl).px
  cases hmb : maskB W H m f with
  | false =>
    have hr : rofN W H m f = 0 := by unfold rofN; rw [hmb]; rfl
    rw [hr] at cR
    go_wp2_with fail
    refine cR.mono ?_
    rintro e w5 ⟨a3, c3, b3, rfl, -, -, hb3⟩
    have HB := hide (HS3.out.next hb3).below
    clear cR hb3 HS3 i0 i1 i2 hmb hr
    go_wp2_with fail
    go_ret
    exact ⟨rfl, HB.out⟩
  | true =>
    obtain ⟨-, hW, hH, hn, hn1, hn2, hbit⟩ := maskB_ok hmb
    have hr : rofN W H m f = rcnt f m := by unfold rofN; rw [hmb]; rfl
    rw [hr] at cR
    have hrb := rcnt_bd f m
    have HMB := hide hmb
    have HBIT := hide hbit
    have HN := hide hn
    clear hr hmb hbit hn
    generalize hR : rcnt f m = R at *
    have HR := hide hR
    clear hR
    have hr2 : (((R : Nat) : Int) == 0) = false := by simp; omega
    go_wp2_with fail
    refine cR.mono ?_
    rintro e w5 ⟨a3, c3, b3, rfl, -, -, hb3⟩
    have HS4 := hide (HS3.out.next hb3)
    clear cR hb3 HS3 i0 i1 i2
    obtain ⟨i0, i1, i2⟩ := HS4.out.im3 1 rfl
    have cC := copyImage_any W H x m c f (by omega) hn1 _ (HS4.out.nthO 1 rfl).px
    go_wp2_with fail
    refine cC.mono ?_
    rintro e w6 ⟨b4, c4, rfl, hr4, h4, hb4⟩
    have HS5 := hide (HS4.out.own hb4 (Ow.of_row hr4).v (.inr h4))
    have HS6 := hide (HS5.out.box [.int .i64 W, .int .i64 H, .slice (some ⟨b4, 0, none⟩) m c4] 26)
    clear cC hr4 h4 hb4 HS4 HS5 i0 i1 i2
    go_upto_region 8 with fail
    generalize hw2 : w6.alloc (.cells #[.int .i64 W, .int .i64 H, .slice (some ⟨b4, 0, none⟩) m c4] 26) = w7 at *
    have HS7 : Hid (St w0 [(w6.heap.size, [.int .i64 W, .int .i64 H, .slice (some ⟨b4, 0, none⟩) m c4]), (X2, [.int .i64 W2, .int .i64 H2, .slice x2 m2 c2]), (X, [.int .i64 W, .int .i64 H, .slice x m c])] [(some ⟨b4, 0, none⟩, b4, m, fun k => .int .i64 (mixF (othF m2 g) f 0 k)), (x2, bb, m2, fun k => .int .i64 (g k)), (x, b, m, fun k => .int .i64 (f k))] w7) := HS6.out
    clear HS6 hw2
    generalize hX : w6.heap.size = X3 at *
    clear hX
    go_wp2_with fail
    go_loopw [8] (fun i wr => ∃ k : Nat, k ≤ m ∧ i = .int .i64 k ∧ St w0 [(X3, [.int .i64 W, .int .i64 H, .slice (some ⟨b4, 0, none⟩) m c4]), (X2, [.int .i64 W2, .int .i64 H2, .slice x2 m2 c2]), (X, [.int .i64 W, .int .i64 H, .slice x m c])] [(some ⟨b4, 0, none⟩, b4, m, fun q => .int .i64 (mixF (othF m2 g) f k q)), (x2, bb, m2, fun q => .int .i64 (g q)), (x, b, m, fun q => .int .i64 (f q))] wr) (fun i _ => m - (intOf i).toNat)
    case atStart => exact ⟨0, by omega, rfl, HS7.out⟩
    case round =>
      obtain ⟨k, hk, rfl, hS⟩ := hrel
      have HS := hide hS
      clear hS HS7
      obtain ⟨i0, i1, i2⟩ := HS.out.im3 0 rfl
      by_cases hlt : k < m
      · have hU := HS.out.upd hlt 0
        have HU := hide hU
        obtain ⟨r1, r2⟩ := HS.out.atO hlt
        obtain ⟨s1, s2⟩ := HU.out.atO hlt
        obtain ⟨j0, j1, j2⟩ := HU.out.im3 0 rfl
        obtain ⟨l0, l1, l2⟩ := HU.out.im3 1 rfl
        by_cases hk2 : k < m2
        · obtain ⟨rfl, hg⟩ : x2 = some ⟨bb, 0, none⟩ ∧ World.cell? _ ⟨bb, k, none⟩ = some (.int .i64 (g k)) := by
            rcases HU.out.nthO 1 rfl with h0 | ⟨ha, hr⟩
            · omega
            · exact ⟨ha, (hr k hk2).1⟩
          by_cases hg1 : g k = 1
          · have HV := hide (HU.out.upd hlt 1)
            have HE : Hid (updN (updN (mixF (othF m2 g) f k) k 0) k 1 = mixF (othF m2 g) f (k + 1)) := by
              show _ = _
              rw [updN_upd, ← mixF_step]
              unfold othF
              rw [if_pos ⟨hk2, hg1⟩]
            rw [HE.out] at HV
            rw [hg1] at hg
            clear HS HU hU hg1 HE
            go_wp2_with fail
            go_roundw
            case rel => exact ⟨k + 1, by omega, by go_num, HV.out⟩
            case measure => simp [intOf]; omega
          · have HE : Hid (updN (mixF (othF m2 g) f k) k 0 = mixF (othF m2 g) f (k + 1)) := by
              show _ = _
              rw [← mixF_step]
              unfold othF
              rw [if_neg (fun h => hg1 h.2)]
            rw [HE.out] at HU
            have hg2 : (g k == 1) = false := by simpa using hg1
            clear HS hU hg1 HE
            generalize g k = gk at *
            go_wp2_with fail
            go_roundw
            case rel => exact ⟨k + 1, by omega, by go_num, HU.out⟩
            case measure => simp [intOf]; omega
        · have HE : Hid (updN (mixF (othF m2 g) f k) k 0 = mixF (othF m2 g) f (k + 1)) := by
            show _ = _
            rw [← mixF_step]
            unfold othF
            rw [if_neg (fun h => hk2 h.1)]
          rw [HE.out] at HU
          clear HS hU HE
          go_wp2_with fail
          go_roundw
          case rel => exact ⟨k + 1, by omega, by go_num, HU.out⟩
          case measure => simp [intOf]; omega
      · obtain rfl : k = m := by omega
        have hcb : bit1 (mixF (othF m2 g) f k) k := fun j hj => by
          unfold mixF othF
          rw [if_pos hj]
          split
          · exact .inr rfl
          · exact .inl rfl
        have hcm := mask_bits HMB.out hcb
        have HOP : Hid (∀ j, j < k → mixF (othF m2 g) f k j = 0 ∨ mixF (othF m2 g) f k j = 1) := hcb
        generalize mixF (othF m2 g) f k = hc at *
        have hrr : rofN W H k f = R := by unfold rofN; rw [HMB.out, HR.out]; rfl
        have hrr2 : rofN W H k hc = rcnt hc k := by unfold rofN; rw [hcm]; rfl
        obtain ⟨l0, l1, l2⟩ := HS.out.im3 2 rfl
        have cC := copyImage_any W H x k c f (by omega) hn1 _ (HS.out.nthO 2 rfl).px
        go_wp2_with fail
        refine cC.mono ?_
        rintro e w8 ⟨b5, c5, rfl, hr5, h5, hb5⟩
        have HS8 := hide (HS.out.own hb5 (Ow.of_row hr5).v (.inr h5))
        clear cC hr5 h5 hb5 HS l0 l1 l2 i0 i1 i2
        have cI := implRunsOf_any W H (some ⟨b5, 0, none⟩) k c5 f (by omega) _ (HS8.out.nthO 0 rfl).px
        rw [hrr] at cI
        go_wp2_with fail
        refine cI.mono ?_
        rintro e w9 ⟨a6, c6, b6, rfl, ho6, h6, hb6⟩
        have HS9 := hide ((HS8.out.own hb6 ho6.v h6).sub (List.Sublist.refl _) (List.Sublist.cons_cons _ (List.Sublist.cons _ (List.Sublist.refl _))))
        clear cI ho6 h6 hb6 HS8
        obtain ⟨l0, l1, l2⟩ := HS9.out.im3 0 rfl
        have cC := copyImage_any W H (some ⟨b4, 0, none⟩) k c4 hc (by omega) hn1 _ (HS9.out.nthO 1 rfl).px
        go_wp2_with fail
        refine cC.mono ?_
        rintro e w8 ⟨b5, c5, rfl, hr5, h5, hb5⟩
        have HS8 := hide (HS9.out.own hb5 (Ow.of_row hr5).v (.inr h5))
        clear cC hr5 h5 hb5 HS9 l0 l1 l2
        have cI := implRunsOf_any W H (some ⟨b5, 0, none⟩) k c5 hc (by omega) _ (HS8.out.nthO 0 rfl).px
        rw [hrr2] at cI
        go_wp2_with fail
        refine cI.mono ?_
        rintro e wr ⟨a7, c7, b7, rfl, ho7, h7, hb7⟩
        have HSr := hide ((HS8.out.own hb7 ho7.v h7).sub (List.Sublist.refl _) (List.Sublist.cons_cons _ (List.Sublist.cons _ (List.Sublist.refl _))))
        clear cI ho7 h7 hb7 HS8
        go_upto_region 16 with fail
        have HSr' : Hid (St w0 [(X3, [.int .i64 W, .int .i64 H, .slice (some ⟨b4, 0, none⟩) k c4]), (X2, [.int .i64 W2, .int .i64 H2, .slice x2 m2 c2]), (X, [.int .i64 W, .int .i64 H, .slice x k c])] [(a7, b7, rcnt hc k, fun q => .int .i64 (rval hc k q)), (a6, b6, R, fun q => .int .i64 (rval f k q)), (some ⟨b4, 0, none⟩, b4, k, fun q => .int .i64 (hc q)), (x2, bb, m2, fun q => .int .i64 (g q)), (x, b, k, fun q => .int .i64 (f q))] wr) := HSr.out
        clear HSr
        obtain ⟨rfl, hrow6⟩ : a6 = some ⟨b6, 0, none⟩ ∧ RowV b6 R (fun q => .int .i64 (rval f k q)) wr := by
          rcases HSr'.out.nthO 1 rfl with h | h
          · omega
          · exact h
        obtain ⟨ti, hi1, hi2, hi3, hi4⟩ := info2
        have HI1 := hide hi1
        clear hi1
        have hR1 : 0 < R := by omega
        have HLN : Hid ((ints (fl (rval f k) R)).length = R * 1) := by show _ = _; rw [ints_length, fl_len]; omega
        have HN1 : Hid (∀ u ∈ ints (fl (rval f k) R), u.oneCell' = true) := ints_one _
        have HM2 : Hid (0 + R ≤ maxLen) := by show _ ≤ _; unfold maxLen; omega
        have HM3 : Hid ((0 + R) * 8 ≤ 140737488355328) := by show _ ≤ _; omega
        have cF := fun g' cp' w' h => fromRuns_back W H k f HMB.out (some ⟨g', 0, none⟩) R cp' HR.out w' h
        go_cut [11, 12] (fun s1 s2 wc => ∃ (c8 : Nat) (a9 : Option Addr) (c9 b9 : Nat), s1 = .pointer (some ⟨c8, 0, none⟩) ∧ s2 = .bool true ∧ St w0 ((c8, [.int .i64 W, .int .i64 H, .slice a9 k c9]) :: [(X3, [.int .i64 W, .int .i64 H, .slice (some ⟨b4, 0, none⟩) k c4]), (X2, [.int .i64 W2, .int .i64 H2, .slice x2 m2 c2]), (X, [.int .i64 W, .int .i64 H, .slice x k c])]) ((a9, b9, k, fun q => .int .i64 (rbit (rval f k) R q)) :: [(a7, b7, rcnt hc k, fun q => .int .i64 (rval hc k q)), (some ⟨b6, 0, none⟩, b6, R, fun q => .int .i64 (rval f k q)), (some ⟨b4, 0, none⟩, b4, k, fun q => .int .i64 (hc q)), (x2, bb, m2, fun q => .int .i64 (g q)), (x, b, k, fun q => .int .i64 (f q))]) wc)
        case first =>
          have HSd := hide HSr'.out.drew
          have SK0 : Hid (wr.drew.cell? ⟨X, 0, none⟩ = some (.int .i64 W) ∧ wr.drew.cell? ⟨X, 1, none⟩ = some (.int .i64 H)) := by
            obtain ⟨l0, l1, l2⟩ := HSd.out.im3 2 rfl
            exact ⟨l0, l1⟩
          refine wp_region_held_drew (S := fun (w' : World) => w'.cell? ⟨X, 0, none⟩ = some (.int .i64 W) ∧ w'.cell? ⟨X, 1, none⟩ = some (.int .i64 H)) (by kernel_rfl) SK0.out (fun hHeld => ?_)
          have hrd : RowV b6 R (fun q => .int .i64 (rval f k q)) wr.drew := hrow6
          generalize wr.drew = wd at *
          have SKof : Hid (∀ w', Below wd.heap.size wd w' → w'.cell? ⟨X, 0, none⟩ = some (.int .i64 W) ∧ w'.cell? ⟨X, 1, none⟩ = some (.int .i64 H)) := fun w' hb => by
            obtain ⟨l0, l1, l2⟩ := (HSd.out.next hb).im3 2 rfl
            exact ⟨l0, l1⟩
          have HNW : Hid (∀ w', Below wd.heap.size wd w' → ∀ j u, (ints (fl (rval f k) R))[j]? = some u → w'.cell? ((⟨b6, 0, none⟩ : Addr).add j) = some u) := fun w' hb j u hu => by
            have hj : j < R := by have := (List.getElem?_eq_some_iff.1 hu).1; rw [ints_length, fl_len] at this; exact this
            rw [addr_add, hb.cell (p := ⟨b6, j, none⟩) (hrd.lt (by omega)), (hrd j hj).1, ← hu]
            show some (Value.int .i64 (rval f k j)) = _
            rw [ints_at _ _ (by rw [fl_len]; exact hj), fl_at _ _ _ hj]
          have HB0 : Hid (Below wd.heap.size wd wd) := Below.refl _ _
          clear hrd hrow6
          refine wpAnyH_take (i := 0) (oi := { dst := some 72, op := Op.fieldAddr 26 (Operand.tmp 5) 0, type := 0, pos := "laws.go:625", after := #[], guard := none }) (v := ?_) rfl (by kernel_rfl) (by kernel_rfl) (by kernel_rfl) (fun _ _ _ h => h) (Or.inl ⟨by rfl, ?hy1⟩) (by assumption) ?rest1
          case hy1 => (intro w' hSw; (try dsimp only at hSw); go_simp; try with_reducible rfl)
          (try simp only [Act.put, List.setIfInBounds_toArray, List.set_cons_zero, List.set_cons_succ])
          refine wpAnyH_take (i := 1) (oi := { dst := some 73, op := Op.load 2 (Operand.tmp 72), type := 2, pos := "laws.go:625", after := #[{ on := 0, ground := Ground.data }], guard := none }) (v := ?_) rfl (by kernel_rfl) (by kernel_rfl) (by kernel_rfl) (fun _ _ _ h => h) (Or.inl ⟨by rfl, ?hy2⟩) (by assumption) ?rest2
          case hy2 => (intro w' hSw; (try dsimp only at hSw); go_simp; try with_reducible rfl)
          (try simp only [Act.put, List.setIfInBounds_toArray, List.set_cons_zero, List.set_cons_succ])
          refine wpAnyH_take (i := 2) (oi := { dst := some 74, op := Op.fieldAddr 26 (Operand.tmp 5) 1, type := 0, pos := "laws.go:625", after := #[], guard := none }) (v := ?_) rfl (by kernel_rfl) (by kernel_rfl) (by kernel_rfl) (fun _ _ _ h => h) (Or.inl ⟨by rfl, ?hy3⟩) (by assumption) ?rest3
          case hy3 => (intro w' hSw; (try dsimp only at hSw); go_simp; try with_reducible rfl)
          (try simp only [Act.put, List.setIfInBounds_toArray, List.set_cons_zero, List.set_cons_succ])
          refine wpAnyH_take (i := 3) (oi := { dst := some 75, op := Op.load 2 (Operand.tmp 74), type := 2, pos := "laws.go:625", after := #[{ on := 2, ground := Ground.data }], guard := none }) (v := ?_) rfl (by kernel_rfl) (by kernel_rfl) (by kernel_rfl) (fun _ _ _ h => h) (Or.inl ⟨by rfl, ?hy4⟩) (by assumption) ?rest4
          case hy4 => (intro w' hSw; (try dsimp only at hSw); go_simp; try with_reducible rfl)
          (try simp only [Act.put, List.setIfInBounds_toArray, List.set_cons_zero, List.set_cons_succ])
          refine wpAnyH_take (i := 5) (oi := { dst := some 77, op := Op.move (Operand.tmp 9), type := 24, pos := "laws.go:625", after := #[], guard := none }) (v := ?_) rfl (by kernel_rfl) (by kernel_rfl) (by kernel_rfl) (fun _ _ _ h => h) (Or.inl ⟨by rfl, ?hy5⟩) (by assumption) ?rest5
          case hy5 => (intro w' hSw; (try dsimp only at hSw); go_simp; try with_reducible rfl)
          (try simp only [Act.put, List.setIfInBounds_toArray, List.set_cons_zero, List.set_cons_succ])
          refine wpAnyH_ready (rs := [4, 11]) (by kernel_rfl) (by simp) ?_
          refine AllReadyH.cons (o := { dst := some 76, op := Op.buildSlice 24 0 #[], type := 24, pos := "laws.go:625", after := #[], guard := none }) rfl (fun K hK => ?_) (AllReadyH.cons (o := { dst := some 11, op := Op.alloc 26, type := 0, pos := "laws.go:625", after := #[], guard := none }) rfl (fun K hK => ?_) AllReadyH.nil)
          · go_simp
            have HB1 : Hid (Below wd.heap.size wd (wd.alloc (.cells #[] 2))) := HB0.out.alloc HB0.out.size _
            have HL1 : Hid ((wd.alloc (.cells #[] 2)).ownsRow wd.heap.size 2 1 (.slice (some ⟨wd.heap.size, 0, none⟩) 0 0) 0 (ints [])) := World.ownsRow_lit wd #[] 0 HB0.out.size (by unfold maxLen; omega) rfl
            refine hK.out _ (wd.alloc (.cells #[] 2)) (SKof.out _ HB1.out) (fun hHeld => ?_)
            clear hK K
            (try simp only [Act.put, List.setIfInBounds_toArray, List.set_cons_zero, List.set_cons_succ])
            generalize hg1 : wd.alloc (.cells #[] 2) = w1 at *
            clear hg1
            refine wpAnyH_ready (rs := [6, 11]) (by kernel_rfl) (by simp) ?_
            refine AllReadyH.cons (o := { dst := some 78, op := Op.call { callee := Callee.builtin Builtin.append, args := #[Operand.tmp 76, Operand.tmp 77], argTypes := #[24, 24] }, type := 24, pos := "laws.go:625", after := #[{ on := 4, ground := Ground.data }, { on := 5, ground := Ground.data }], guard := none }) rfl (fun K hK => ?_) (AllReadyH.cons (o := { dst := some 11, op := Op.alloc 26, type := 0, pos := "laws.go:625", after := #[], guard := none }) rfl (fun K hK => ?_) AllReadyH.nil)
            · refine step_append_lies w1 (by rfl) (.tmp 76) (.tmp 77) 24 (by rfl) wd.heap.size 2 ti (.int .i64 0) 1 8 Try.underlying24 HI1.out hi2 hi3 hi4 rfl (by omega) (.slice (some ⟨wd.heap.size, 0, none⟩) 0 0) 0 (ints []) (by rfl) HL1.out ⟨b6, 0, none⟩ R c6 (ints (fl (rval f k) R)) (by rfl) HLN.out (HNW.out _ HB1.out) HN1.out hR1 HM2.out HM3.out HB1.out.size _ rfl ?_
              intro g2 cp2 w2 hw1 hw2 hw3 hw4
              have HB2 : Hid (Below wd.heap.size wd w2) := HB1.out.trans ((Below.refl _ _).grown hw2 HB1.out.size (fun q hq => (HL1.out.lt q hq).1))
              have HL2 : Hid (w2.ownsRow wd.heap.size 2 1 (.slice (some ⟨g2, 0, none⟩) R cp2) R (ints (fl (rval f k) R))) := by
                show World.ownsRow _ _ _ _ _ _ _
                have h7 := hw1
                simp only [Nat.zero_add] at h7
                exact h7
              clear hw1 hw2 hw3 hw4
              refine hK.out _ w2 (SKof.out _ HB2.out) (fun hHeld => ?_)
              clear hK K
              (try simp only [Act.put, List.setIfInBounds_toArray, List.set_cons_zero, List.set_cons_succ])
              (try simp only [Nat.zero_add])
              refine wpAnyH_ready (rs := [7, 11]) (by kernel_rfl) (by simp) ?_
              refine AllReadyH.cons (o := { dst := some 79, op := Op.call { callee := Callee.value (Operand.func 11), args := #[Operand.tmp 73, Operand.tmp 75, Operand.tmp 78], argTypes := #[2, 2, 24] }, type := 30, pos := "laws.go:625", after := #[{ on := 1, ground := Ground.data }, { on := 3, ground := Ground.data }, { on := 6, ground := Ground.data }, { on := 6, ground := Ground.chain }], guard := none }) rfl (fun K hK => ?_) (AllReadyH.cons (o := { dst := some 11, op := Op.alloc 26, type := 0, pos := "laws.go:625", after := #[], guard := none }) rfl (fun K hK => ?_) AllReadyH.nil)
              · go_simp
                (with_reducible refine (cF g2 cp2 w2 (px_own HL2.out)).mono ?_)
                rintro e w3 ⟨a9, c9, b9, rfl, ho9, h9, hb9⟩
                dsimp only
                have HB3 : Hid (Below wd.heap.size wd w3) := bnext HB2.out (Nat.le_refl _) hb9
                have HO3 := hide ho9
                have HG9 : Hid (w2.heap.size ≤ b9) := h9.elim (fun h => absurd h (by omega)) id
                have HG8 : Hid (wd.heap.size ≤ b9) := Nat.le_trans HB2.out.size HG9.out
                clear ho9 h9 hb9
                refine hK.out _ w3 (SKof.out _ HB3.out) (fun hHeld => ?_)
                clear hK K
                (try simp only [Act.put, List.setIfInBounds_toArray, List.set_cons_zero, List.set_cons_succ])
                refine wpAnyH_take (i := 8) (oi := { dst := some 71, op := Op.move (Operand.tmp 79), type := 30, pos := "laws.go:625", after := #[{ on := 7, ground := Ground.data }], guard := none }) (v := ?_) rfl (by kernel_rfl) (by kernel_rfl) (by kernel_rfl) (fun _ _ _ h => h) (Or.inl ⟨by rfl, ?hy6⟩) (by assumption) ?rest6
                case hy6 => (intro w' hSw; (try dsimp only at hSw); go_simp; try with_reducible rfl)
                (try simp only [Act.put, List.setIfInBounds_toArray, List.set_cons_zero, List.set_cons_succ])
                refine wpAnyH_take (i := 9) (oi := { dst := some 80, op := Op.extract (Operand.tmp 71) 0, type := 26, pos := "laws.go:625", after := #[{ on := 8, ground := Ground.data }], guard := none }) (v := ?_) rfl (by kernel_rfl) (by kernel_rfl) (by kernel_rfl) (fun _ _ _ h => h) (Or.inl ⟨by rfl, ?hy7⟩) (by assumption) ?rest7
                case hy7 => (intro w' hSw; (try dsimp only at hSw); go_simp; try with_reducible rfl)
                (try simp only [Act.put, List.setIfInBounds_toArray, List.set_cons_zero, List.set_cons_succ])
                refine wpAnyH_take (i := 10) (oi := { dst := some 81, op := Op.extract (Operand.tmp 71) 1, type := 4, pos := "laws.go:625", after := #[{ on := 8, ground := Ground.data }, { on := 12, ground := Ground.gcOnly Departure.lateStores }], guard := none }) (v := ?_) rfl (by kernel_rfl) (by kernel_rfl) (by kernel_rfl) (fun _ _ _ h => h) (Or.inl ⟨by rfl, ?hy8⟩) (by assumption) ?rest8
                case hy8 => (intro w' hSw; (try dsimp only at hSw); go_simp; try with_reducible rfl)
                (try simp only [Act.put, List.setIfInBounds_toArray, List.set_cons_zero, List.set_cons_succ])
                refine wpAnyH_ready (rs := [11]) (by kernel_rfl) (by simp) ?_
                refine AllReadyH.cons (o := { dst := some 11, op := Op.alloc 26, type := 0, pos := "laws.go:625", after := #[], guard := none }) rfl (fun K hK => ?_) AllReadyH.nil
                go_simp
                have HB4 : Hid (Below wd.heap.size wd (w3.alloc (.cells #[.int .i64 0, .int .i64 0, .slice none 0 0] 26))) := HB3.out.alloc HB3.out.size _
                have HE4 := hide (Bx.new [.int .i64 0, .int .i64 0, .slice none 0 0] 26 w3)
                have HT4 : Hid (w3.heap.size < (w3.alloc (.cells #[.int .i64 0, .int .i64 0, .slice none 0 0] 26)).heap.size) := by show _ < _; simp
                have HC4 : Hid (wd.heap.size ≤ w3.heap.size) := HB3.out.size
                have HO4 := hide (HO3.out.below' (bnew w3 (.cells #[.int .i64 0, .int .i64 0, .slice none 0 0] 26)))
                have HN4 : Hid (¬ w3.heap.size = b9) := Nat.ne_of_gt (OwV.lt HO3.out (by omega))
                refine hK.out _ (w3.alloc (.cells #[.int .i64 0, .int .i64 0, .slice none 0 0] 26)) (SKof.out _ HB4.out) (fun hHeld => ?_)
                clear hK K
                (try simp only [Act.put, List.setIfInBounds_toArray, List.set_cons_zero, List.set_cons_succ])
                generalize hg4 : w3.alloc (.cells #[.int .i64 0, .int .i64 0, .slice none 0 0] 26) = w4 at *
                clear hg4
                refine wpAnyH_ready (rs := [12]) (by kernel_rfl) (by simp) ?_
                refine AllReadyH.cons (o := { dst := none, op := Op.store 26 (Operand.tmp 11) (Operand.tmp 80), type := 0, pos := "laws.go:625", after := #[{ on := 11, ground := Ground.data }, { on := 9, ground := Ground.data }, { on := 7, ground := Ground.chain }, { on := 0, ground := Ground.phase }, { on := 1, ground := Ground.phase }, { on := 2, ground := Ground.phase }, { on := 3, ground := Ground.phase }, { on := 4, ground := Ground.phase }, { on := 5, ground := Ground.phase }, { on := 6, ground := Ground.phase }, { on := 7, ground := Ground.phase }, { on := 8, ground := Ground.phase }, { on := 9, ground := Ground.phase }, { on := 10, ground := Ground.textOnly Departure.lateStores }, { on := 11, ground := Ground.phase }], guard := none }) rfl (fun K hK => ?_) AllReadyH.nil
                have HB5 : Hid (Below wd.heap.size wd (((w4.setCell ⟨w3.heap.size, 0, none⟩ (.int .i64 W)).setCell ⟨w3.heap.size, 1, none⟩ (.int .i64 H)).setCell ⟨w3.heap.size, 2, none⟩ (.slice a9 k c9))) := below_set3' HB4.out HC4.out
                have HX5 : Hid (Bx w3.heap.size [.int .i64 W, .int .i64 H, .slice a9 k c9] (((w4.setCell ⟨w3.heap.size, 0, none⟩ (.int .i64 W)).setCell ⟨w3.heap.size, 1, none⟩ (.int .i64 H)).setCell ⟨w3.heap.size, 2, none⟩ (.slice a9 k c9))) := (((HE4.out.set 0 (.int .i64 W)).set 1 (.int .i64 H)).set 2 (.slice a9 k c9))
                have HO5 := hide (HO4.out.set3 (X := w3.heap.size) (.inr HN4.out) (.int .i64 W) (.int .i64 H) (.slice a9 k c9))
                have HT5 : Hid (w3.heap.size < (((w4.setCell ⟨w3.heap.size, 0, none⟩ (.int .i64 W)).setCell ⟨w3.heap.size, 1, none⟩ (.int .i64 H)).setCell ⟨w3.heap.size, 2, none⟩ (.slice a9 k c9)).heap.size) := by show _ < _; simpa using HT4.out
                obtain ⟨z0, y0⟩ := HE4.out 0 _ rfl
                obtain ⟨z1, y1⟩ := HE4.out 1 _ rfl
                obtain ⟨z2, y2⟩ := HE4.out 2 _ rfl
                go_simp
                refine hK.out _ (((w4.setCell ⟨w3.heap.size, 0, none⟩ (.int .i64 W)).setCell ⟨w3.heap.size, 1, none⟩ (.int .i64 H)).setCell ⟨w3.heap.size, 2, none⟩ (.slice a9 k c9)) (SKof.out _ HB5.out) (fun hHeld => ?_)
                clear hK K
                (try simp only [Act.put, List.setIfInBounds_toArray, List.set_cons_zero, List.set_cons_succ])
                clear z0 y0 z1 y1 z2 y2
                refine wpAnyH_take (i := 13) (oi := { dst := some 12, op := Op.assign (Operand.tmp 81), type := 4, pos := "laws.go:625", after := #[{ on := 10, ground := Ground.data }, { on := 12, ground := Ground.chain }, { on := 0, ground := Ground.phase }, { on := 1, ground := Ground.phase }, { on := 2, ground := Ground.phase }, { on := 3, ground := Ground.phase }, { on := 4, ground := Ground.phase }, { on := 5, ground := Ground.phase }, { on := 6, ground := Ground.phase }, { on := 7, ground := Ground.phase }, { on := 8, ground := Ground.phase }, { on := 9, ground := Ground.phase }, { on := 10, ground := Ground.phase }, { on := 11, ground := Ground.phase }, { on := 12, ground := Ground.phase }], guard := none }) (v := ?_) rfl (by kernel_rfl) (by kernel_rfl) (by kernel_rfl) (fun _ _ _ h => h) (Or.inl ⟨by rfl, ?hy9⟩) (by assumption) ?rest9
                case hy9 => (intro w' hSw; (try dsimp only at hSw); go_simp; try with_reducible rfl)
                (try simp only [Act.put, List.setIfInBounds_toArray, List.set_cons_zero, List.set_cons_succ])
                refine wpAnyH_done (by kernel_rfl) ?_ _
                have HSf := hide (((HSd.out.own HB5.out HO5.out.v (.inr HG8.out)).boxAt HX5.out (Nat.le_trans HSd.out.below.size HC4.out) HT5.out (by
                  have hge := HC4.out
                  have hnb := HN4.out
                  exact boxNew HSd.out hge hnb)))
                go_wp2_with fail
                go_meet
                exact ⟨_, a9, c9, b9, rfl, rfl, HSf.out⟩
              · go_simp
                have HB6 : Hid (Below wd.heap.size wd (w2.alloc (.cells #[.int .i64 0, .int .i64 0, .slice none 0 0] 26))) := HB2.out.alloc HB2.out.size _
                have HE6 := hide (Bx.new [.int .i64 0, .int .i64 0, .slice none 0 0] 26 w2)
                have HT6 : Hid (w2.heap.size < (w2.alloc (.cells #[.int .i64 0, .int .i64 0, .slice none 0 0] 26)).heap.size) := by show _ < _; simp
                have HC6 : Hid (wd.heap.size ≤ w2.heap.size) := HB2.out.size
                have HL6 := hide (HL2.out.alloc (.cells #[.int .i64 0, .int .i64 0, .slice none 0 0] 26))
                have HQ6 : Hid (¬ w2.heap.size = g2) := Nat.ne_of_gt (HL2.out.lt _ rfl).2
                refine hK.out _ (w2.alloc (.cells #[.int .i64 0, .int .i64 0, .slice none 0 0] 26)) (SKof.out _ HB6.out) (fun hHeld => ?_)
                clear hK K
                (try simp only [Act.put, List.setIfInBounds_toArray, List.set_cons_zero, List.set_cons_succ])
                generalize hg6 : w2.alloc (.cells #[.int .i64 0, .int .i64 0, .slice none 0 0] 26) = w6 at *
                clear hg6
                refine wpAnyH_ready (rs := [7]) (by kernel_rfl) (by simp) ?_
                refine AllReadyH.cons (o := { dst := some 79, op := Op.call { callee := Callee.value (Operand.func 11), args := #[Operand.tmp 73, Operand.tmp 75, Operand.tmp 78], argTypes := #[2, 2, 24] }, type := 30, pos := "laws.go:625", after := #[{ on := 1, ground := Ground.data }, { on := 3, ground := Ground.data }, { on := 6, ground := Ground.data }, { on := 6, ground := Ground.chain }], guard := none }) rfl (fun K hK => ?_) AllReadyH.nil
                go_simp
                (with_reducible refine (cF g2 cp2 w6 (px_own HL6.out)).mono ?_)
                rintro e w7 ⟨a9, c9, b9, rfl, ho9, h9, hb9⟩
                dsimp only
                have HB7 : Hid (Below wd.heap.size wd w7) := bnext HB6.out (Nat.le_refl _) hb9
                have HO7 := hide ho9
                have HG9 : Hid (w6.heap.size ≤ b9) := h9.elim (fun h => absurd h (by omega)) id
                have HG8 : Hid (wd.heap.size ≤ b9) := Nat.le_trans HB6.out.size HG9.out
                have HE7 := hide (HE6.out.below hb9 HT6.out)
                have HT7 : Hid (w2.heap.size < w7.heap.size) := Nat.lt_of_lt_of_le HT6.out hb9.size
                have HN7 : Hid (¬ w2.heap.size = b9) := Nat.ne_of_lt (Nat.lt_of_lt_of_le HT6.out HG9.out)
                clear ho9 h9 hb9
                refine hK.out _ w7 (SKof.out _ HB7.out) (fun hHeld => ?_)
                clear hK K
                (try simp only [Act.put, List.setIfInBounds_toArray, List.set_cons_zero, List.set_cons_succ])
                refine wpAnyH_take (i := 8) (oi := { dst := some 71, op := Op.move (Operand.tmp 79), type := 30, pos := "laws.go:625", after := #[{ on := 7, ground := Ground.data }], guard := none }) (v := ?_) rfl (by kernel_rfl) (by kernel_rfl) (by kernel_rfl) (fun _ _ _ h => h) (Or.inl ⟨by rfl, ?hy10⟩) (by assumption) ?rest10
                case hy10 => (intro w' hSw; (try dsimp only at hSw); go_simp; try with_reducible rfl)
                (try simp only [Act.put, List.setIfInBounds_toArray, List.set_cons_zero, List.set_cons_succ])
                refine wpAnyH_take (i := 9) (oi := { dst := some 80, op := Op.extract (Operand.tmp 71) 0, type := 26, pos := "laws.go:625", after := #[{ on := 8, ground := Ground.data }], guard := none }) (v := ?_) rfl (by kernel_rfl) (by kernel_rfl) (by kernel_rfl) (fun _ _ _ h => h) (Or.inl ⟨by rfl, ?hy11⟩) (by assumption) ?rest11
                case hy11 => (intro w' hSw; (try dsimp only at hSw); go_simp; try with_reducible rfl)
                (try simp only [Act.put, List.setIfInBounds_toArray, List.set_cons_zero, List.set_cons_succ])
                refine wpAnyH_take (i := 10) (oi := { dst := some 81, op := Op.extract (Operand.tmp 71) 1, type := 4, pos := "laws.go:625", after := #[{ on := 8, ground := Ground.data }, { on := 12, ground := Ground.gcOnly Departure.lateStores }], guard := none }) (v := ?_) rfl (by kernel_rfl) (by kernel_rfl) (by kernel_rfl) (fun _ _ _ h => h) (Or.inl ⟨by rfl, ?hy12⟩) (by assumption) ?rest12
                case hy12 => (intro w' hSw; (try dsimp only at hSw); go_simp; try with_reducible rfl)
                (try simp only [Act.put, List.setIfInBounds_toArray, List.set_cons_zero, List.set_cons_succ])
                refine wpAnyH_ready (rs := [12]) (by kernel_rfl) (by simp) ?_
                refine AllReadyH.cons (o := { dst := none, op := Op.store 26 (Operand.tmp 11) (Operand.tmp 80), type := 0, pos := "laws.go:625", after := #[{ on := 11, ground := Ground.data }, { on := 9, ground := Ground.data }, { on := 7, ground := Ground.chain }, { on := 0, ground := Ground.phase }, { on := 1, ground := Ground.phase }, { on := 2, ground := Ground.phase }, { on := 3, ground := Ground.phase }, { on := 4, ground := Ground.phase }, { on := 5, ground := Ground.phase }, { on := 6, ground := Ground.phase }, { on := 7, ground := Ground.phase }, { on := 8, ground := Ground.phase }, { on := 9, ground := Ground.phase }, { on := 10, ground := Ground.textOnly Departure.lateStores }, { on := 11, ground := Ground.phase }], guard := none }) rfl (fun K hK => ?_) AllReadyH.nil
                have HB8 : Hid (Below wd.heap.size wd (((w7.setCell ⟨w2.heap.size, 0, none⟩ (.int .i64 W)).setCell ⟨w2.heap.size, 1, none⟩ (.int .i64 H)).setCell ⟨w2.heap.size, 2, none⟩ (.slice a9 k c9))) := below_set3' HB7.out HC6.out
                have HX8 : Hid (Bx w2.heap.size [.int .i64 W, .int .i64 H, .slice a9 k c9] (((w7.setCell ⟨w2.heap.size, 0, none⟩ (.int .i64 W)).setCell ⟨w2.heap.size, 1, none⟩ (.int .i64 H)).setCell ⟨w2.heap.size, 2, none⟩ (.slice a9 k c9))) := (((HE7.out.set 0 (.int .i64 W)).set 1 (.int .i64 H)).set 2 (.slice a9 k c9))
                have HO8 := hide (HO7.out.set3 (X := w2.heap.size) (.inr HN7.out) (.int .i64 W) (.int .i64 H) (.slice a9 k c9))
                have HT8 : Hid (w2.heap.size < (((w7.setCell ⟨w2.heap.size, 0, none⟩ (.int .i64 W)).setCell ⟨w2.heap.size, 1, none⟩ (.int .i64 H)).setCell ⟨w2.heap.size, 2, none⟩ (.slice a9 k c9)).heap.size) := by show _ < _; simpa using HT7.out
                obtain ⟨z0, y0⟩ := HE7.out 0 _ rfl
                obtain ⟨z1, y1⟩ := HE7.out 1 _ rfl
                obtain ⟨z2, y2⟩ := HE7.out 2 _ rfl
                go_simp
                refine hK.out _ (((w7.setCell ⟨w2.heap.size, 0, none⟩ (.int .i64 W)).setCell ⟨w2.heap.size, 1, none⟩ (.int .i64 H)).setCell ⟨w2.heap.size, 2, none⟩ (.slice a9 k c9)) (SKof.out _ HB8.out) (fun hHeld => ?_)
                clear hK K
                (try simp only [Act.put, List.setIfInBounds_toArray, List.set_cons_zero, List.set_cons_succ])
                clear z0 y0 z1 y1 z2 y2
                refine wpAnyH_take (i := 13) (oi := { dst := some 12, op := Op.assign (Operand.tmp 81), type := 4, pos := "laws.go:625", after := #[{ on := 10, ground := Ground.data }, { on := 12, ground := Ground.chain }, { on := 0, ground := Ground.phase }, { on := 1, ground := Ground.phase }, { on := 2, ground := Ground.phase }, { on := 3, ground := Ground.phase }, { on := 4, ground := Ground.phase }, { on := 5, ground := Ground.phase }, { on := 6, ground := Ground.phase }, { on := 7, ground := Ground.phase }, { on := 8, ground := Ground.phase }, { on := 9, ground := Ground.phase }, { on := 10, ground := Ground.phase }, { on := 11, ground := Ground.phase }, { on := 12, ground := Ground.phase }], guard := none }) (v := ?_) rfl (by kernel_rfl) (by kernel_rfl) (by kernel_rfl) (fun _ _ _ h => h) (Or.inl ⟨by rfl, ?hy13⟩) (by assumption) ?rest13
                case hy13 => (intro w' hSw; (try dsimp only at hSw); go_simp; try with_reducible rfl)
                (try simp only [Act.put, List.setIfInBounds_toArray, List.set_cons_zero, List.set_cons_succ])
                refine wpAnyH_done (by kernel_rfl) ?_ _
                have HSf := hide (((HSd.out.own HB8.out HO8.out.v (.inr HG8.out)).boxAt HX8.out (Nat.le_trans HSd.out.below.size HC6.out) HT8.out (by
                  have hge := HC6.out
                  have hnb := HN7.out
                  exact boxNew HSd.out hge hnb)))
                go_wp2_with fail
                go_meet
                exact ⟨_, a9, c9, b9, rfl, rfl, HSf.out⟩
            · go_simp
              have HB9 : Hid (Below wd.heap.size wd (w1.alloc (.cells #[.int .i64 0, .int .i64 0, .slice none 0 0] 26))) := HB1.out.alloc HB1.out.size _
              have HE9 := hide (Bx.new [.int .i64 0, .int .i64 0, .slice none 0 0] 26 w1)
              have HT9 : Hid (w1.heap.size < (w1.alloc (.cells #[.int .i64 0, .int .i64 0, .slice none 0 0] 26)).heap.size) := by show _ < _; simp
              have HC9 : Hid (wd.heap.size ≤ w1.heap.size) := HB1.out.size
              have HL9 := hide (HL1.out.alloc (.cells #[.int .i64 0, .int .i64 0, .slice none 0 0] 26))
              have HQ9 : Hid (¬ w1.heap.size = wd.heap.size) := Nat.ne_of_gt (HL1.out.lt _ rfl).2
              refine hK.out _ (w1.alloc (.cells #[.int .i64 0, .int .i64 0, .slice none 0 0] 26)) (SKof.out _ HB9.out) (fun hHeld => ?_)
              clear hK K
              (try simp only [Act.put, List.setIfInBounds_toArray, List.set_cons_zero, List.set_cons_succ])
              generalize hg9 : w1.alloc (.cells #[.int .i64 0, .int .i64 0, .slice none 0 0] 26) = w9 at *
              clear hg9
              refine wpAnyH_ready (rs := [6]) (by kernel_rfl) (by simp) ?_
              refine AllReadyH.cons (o := { dst := some 78, op := Op.call { callee := Callee.builtin Builtin.append, args := #[Operand.tmp 76, Operand.tmp 77], argTypes := #[24, 24] }, type := 24, pos := "laws.go:625", after := #[{ on := 4, ground := Ground.data }, { on := 5, ground := Ground.data }], guard := none }) rfl (fun K hK => ?_) AllReadyH.nil
              refine step_append_lies w9 (by rfl) (.tmp 76) (.tmp 77) 24 (by rfl) wd.heap.size 2 ti (.int .i64 0) 1 8 Try.underlying24 HI1.out hi2 hi3 hi4 rfl (by omega) (.slice (some ⟨wd.heap.size, 0, none⟩) 0 0) 0 (ints []) (by rfl) HL9.out ⟨b6, 0, none⟩ R c6 (ints (fl (rval f k) R)) (by rfl) HLN.out (HNW.out _ HB9.out) HN1.out hR1 HM2.out HM3.out HB9.out.size _ rfl ?_
              intro g10 cp10 w10 hw1 hw2 hw3 hw4
              have HB10 : Hid (Below wd.heap.size wd w10) := HB9.out.trans ((Below.refl _ _).grown hw2 HB9.out.size (fun q hq => (HL9.out.lt q hq).1))
              have HL10 : Hid (w10.ownsRow wd.heap.size 2 1 (.slice (some ⟨g10, 0, none⟩) R cp10) R (ints (fl (rval f k) R))) := by
                show World.ownsRow _ _ _ _ _ _ _
                have h7 := hw1
                simp only [Nat.zero_add] at h7
                exact h7
              have HE10 : Hid (Bx w1.heap.size [.int .i64 0, .int .i64 0, .slice none 0 0] w10) := bx_block HE9.out (hw2.block _ HT9.out (by intro h9; exact HQ9.out (by simpa [Value.ownBlock] using h9)))
              have HT10 : Hid (w1.heap.size < w10.heap.size) := Nat.lt_of_lt_of_le HT9.out hw2.size
              clear hw1 hw2 hw3 hw4
              refine hK.out _ w10 (SKof.out _ HB10.out) (fun hHeld => ?_)
              clear hK K
              (try simp only [Act.put, List.setIfInBounds_toArray, List.set_cons_zero, List.set_cons_succ])
              (try simp only [Nat.zero_add])
              refine wpAnyH_ready (rs := [7]) (by kernel_rfl) (by simp) ?_
              refine AllReadyH.cons (o := { dst := some 79, op := Op.call { callee := Callee.value (Operand.func 11), args := #[Operand.tmp 73, Operand.tmp 75, Operand.tmp 78], argTypes := #[2, 2, 24] }, type := 30, pos := "laws.go:625", after := #[{ on := 1, ground := Ground.data }, { on := 3, ground := Ground.data }, { on := 6, ground := Ground.data }, { on := 6, ground := Ground.chain }], guard := none }) rfl (fun K hK => ?_) AllReadyH.nil
              go_simp
              (with_reducible refine (cF g10 cp10 w10 (px_own HL10.out)).mono ?_)
              rintro e w11 ⟨a9, c9, b9, rfl, ho9, h9, hb9⟩
              dsimp only
              have HB11 : Hid (Below wd.heap.size wd w11) := bnext HB10.out (Nat.le_refl _) hb9
              have HO11 := hide ho9
              have HG9 : Hid (w10.heap.size ≤ b9) := h9.elim (fun h => absurd h (by omega)) id
              have HG8 : Hid (wd.heap.size ≤ b9) := Nat.le_trans HB10.out.size HG9.out
              have HE11 := hide (HE10.out.below hb9 HT10.out)
              have HT11 : Hid (w1.heap.size < w11.heap.size) := Nat.lt_of_lt_of_le HT10.out hb9.size
              have HN11 : Hid (¬ w1.heap.size = b9) := Nat.ne_of_lt (Nat.lt_of_lt_of_le HT10.out HG9.out)
              clear ho9 h9 hb9
              refine hK.out _ w11 (SKof.out _ HB11.out) (fun hHeld => ?_)
              clear hK K
              (try simp only [Act.put, List.setIfInBounds_toArray, List.set_cons_zero, List.set_cons_succ])
              refine wpAnyH_take (i := 8) (oi := { dst := some 71, op := Op.move (Operand.tmp 79), type := 30, pos := "laws.go:625", after := #[{ on := 7, ground := Ground.data }], guard := none }) (v := ?_) rfl (by kernel_rfl) (by kernel_rfl) (by kernel_rfl) (fun _ _ _ h => h) (Or.inl ⟨by rfl, ?hy14⟩) (by assumption) ?rest14
              case hy14 => (intro w' hSw; (try dsimp only at hSw); go_simp; try with_reducible rfl)
              (try simp only [Act.put, List.setIfInBounds_toArray, List.set_cons_zero, List.set_cons_succ])
              refine wpAnyH_take (i := 9) (oi := { dst := some 80, op := Op.extract (Operand.tmp 71) 0, type := 26, pos := "laws.go:625", after := #[{ on := 8, ground := Ground.data }], guard := none }) (v := ?_) rfl (by kernel_rfl) (by kernel_rfl) (by kernel_rfl) (fun _ _ _ h => h) (Or.inl ⟨by rfl, ?hy15⟩) (by assumption) ?rest15
              case hy15 => (intro w' hSw; (try dsimp only at hSw); go_simp; try with_reducible rfl)
              (try simp only [Act.put, List.setIfInBounds_toArray, List.set_cons_zero, List.set_cons_succ])
              refine wpAnyH_take (i := 10) (oi := { dst := some 81, op := Op.extract (Operand.tmp 71) 1, type := 4, pos := "laws.go:625", after := #[{ on := 8, ground := Ground.data }, { on := 12, ground := Ground.gcOnly Departure.lateStores }], guard := none }) (v := ?_) rfl (by kernel_rfl) (by kernel_rfl) (by kernel_rfl) (fun _ _ _ h => h) (Or.inl ⟨by rfl, ?hy16⟩) (by assumption) ?rest16
              case hy16 => (intro w' hSw; (try dsimp only at hSw); go_simp; try with_reducible rfl)
              (try simp only [Act.put, List.setIfInBounds_toArray, List.set_cons_zero, List.set_cons_succ])
              refine wpAnyH_ready (rs := [12]) (by kernel_rfl) (by simp) ?_
              refine AllReadyH.cons (o := { dst := none, op := Op.store 26 (Operand.tmp 11) (Operand.tmp 80), type := 0, pos := "laws.go:625", after := #[{ on := 11, ground := Ground.data }, { on := 9, ground := Ground.data }, { on := 7, ground := Ground.chain }, { on := 0, ground := Ground.phase }, { on := 1, ground := Ground.phase }, { on := 2, ground := Ground.phase }, { on := 3, ground := Ground.phase }, { on := 4, ground := Ground.phase }, { on := 5, ground := Ground.phase }, { on := 6, ground := Ground.phase }, { on := 7, ground := Ground.phase }, { on := 8, ground := Ground.phase }, { on := 9, ground := Ground.phase }, { on := 10, ground := Ground.textOnly Departure.lateStores }, { on := 11, ground := Ground.phase }], guard := none }) rfl (fun K hK => ?_) AllReadyH.nil
              have HB12 : Hid (Below wd.heap.size wd (((w11.setCell ⟨w1.heap.size, 0, none⟩ (.int .i64 W)).setCell ⟨w1.heap.size, 1, none⟩ (.int .i64 H)).setCell ⟨w1.heap.size, 2, none⟩ (.slice a9 k c9))) := below_set3' HB11.out HC9.out
              have HX12 : Hid (Bx w1.heap.size [.int .i64 W, .int .i64 H, .slice a9 k c9] (((w11.setCell ⟨w1.heap.size, 0, none⟩ (.int .i64 W)).setCell ⟨w1.heap.size, 1, none⟩ (.int .i64 H)).setCell ⟨w1.heap.size, 2, none⟩ (.slice a9 k c9))) := (((HE11.out.set 0 (.int .i64 W)).set 1 (.int .i64 H)).set 2 (.slice a9 k c9))
              have HO12 := hide (HO11.out.set3 (X := w1.heap.size) (.inr HN11.out) (.int .i64 W) (.int .i64 H) (.slice a9 k c9))
              have HT12 : Hid (w1.heap.size < (((w11.setCell ⟨w1.heap.size, 0, none⟩ (.int .i64 W)).setCell ⟨w1.heap.size, 1, none⟩ (.int .i64 H)).setCell ⟨w1.heap.size, 2, none⟩ (.slice a9 k c9)).heap.size) := by show _ < _; simpa using HT11.out
              obtain ⟨z0, y0⟩ := HE11.out 0 _ rfl
              obtain ⟨z1, y1⟩ := HE11.out 1 _ rfl
              obtain ⟨z2, y2⟩ := HE11.out 2 _ rfl
              go_simp
              refine hK.out _ (((w11.setCell ⟨w1.heap.size, 0, none⟩ (.int .i64 W)).setCell ⟨w1.heap.size, 1, none⟩ (.int .i64 H)).setCell ⟨w1.heap.size, 2, none⟩ (.slice a9 k c9)) (SKof.out _ HB12.out) (fun hHeld => ?_)
              clear hK K
              (try simp only [Act.put, List.setIfInBounds_toArray, List.set_cons_zero, List.set_cons_succ])
              clear z0 y0 z1 y1 z2 y2
              refine wpAnyH_take (i := 13) (oi := { dst := some 12, op := Op.assign (Operand.tmp 81), type := 4, pos := "laws.go:625", after := #[{ on := 10, ground := Ground.data }, { on := 12, ground := Ground.chain }, { on := 0, ground := Ground.phase }, { on := 1, ground := Ground.phase }, { on := 2, ground := Ground.phase }, { on := 3, ground := Ground.phase }, { on := 4, ground := Ground.phase }, { on := 5, ground := Ground.phase }, { on := 6, ground := Ground.phase }, { on := 7, ground := Ground.phase }, { on := 8, ground := Ground.phase }, { on := 9, ground := Ground.phase }, { on := 10, ground := Ground.phase }, { on := 11, ground := Ground.phase }, { on := 12, ground := Ground.phase }], guard := none }) (v := ?_) rfl (by kernel_rfl) (by kernel_rfl) (by kernel_rfl) (fun _ _ _ h => h) (Or.inl ⟨by rfl, ?hy17⟩) (by assumption) ?rest17
              case hy17 => (intro w' hSw; (try dsimp only at hSw); go_simp; try with_reducible rfl)
              (try simp only [Act.put, List.setIfInBounds_toArray, List.set_cons_zero, List.set_cons_succ])
              refine wpAnyH_done (by kernel_rfl) ?_ _
              have HSf := hide (((HSd.out.own HB12.out HO12.out.v (.inr HG8.out)).boxAt HX12.out (Nat.le_trans HSd.out.below.size HC9.out) HT12.out (by
                have hge := HC9.out
                have hnb := HN11.out
                exact boxNew HSd.out hge hnb)))
              go_wp2_with fail
              go_meet
              exact ⟨_, a9, c9, b9, rfl, rfl, HSf.out⟩
          · go_simp
            have HB13 : Hid (Below wd.heap.size wd (wd.alloc (.cells #[.int .i64 0, .int .i64 0, .slice none 0 0] 26))) := HB0.out.alloc HB0.out.size _
            have HE13 := hide (Bx.new [.int .i64 0, .int .i64 0, .slice none 0 0] 26 wd)
            have HT13 : Hid (wd.heap.size < (wd.alloc (.cells #[.int .i64 0, .int .i64 0, .slice none 0 0] 26)).heap.size) := by show _ < _; simp
            have HC13 : Hid (wd.heap.size ≤ wd.heap.size) := HB0.out.size
            refine hK.out _ (wd.alloc (.cells #[.int .i64 0, .int .i64 0, .slice none 0 0] 26)) (SKof.out _ HB13.out) (fun hHeld => ?_)
            clear hK K
            (try simp only [Act.put, List.setIfInBounds_toArray, List.set_cons_zero, List.set_cons_succ])
            generalize hg13 : wd.alloc (.cells #[.int .i64 0, .int .i64 0, .slice none 0 0] 26) = w13 at *
            clear hg13
            refine wpAnyH_ready (rs := [4]) (by kernel_rfl) (by simp) ?_
            refine AllReadyH.cons (o := { dst := some 76, op := Op.buildSlice 24 0 #[], type := 24, pos := "laws.go:625", after := #[], guard := none }) rfl (fun K hK => ?_) AllReadyH.nil
            go_simp
            have HB14 : Hid (Below wd.heap.size wd (w13.alloc (.cells #[] 2))) := HB13.out.alloc HB13.out.size _
            have HL14 : Hid ((w13.alloc (.cells #[] 2)).ownsRow wd.heap.size 2 1 (.slice (some ⟨w13.heap.size, 0, none⟩) 0 0) 0 (ints [])) := World.ownsRow_lit w13 #[] 0 HB13.out.size (by unfold maxLen; omega) rfl
            have HE14 := hide (HE13.out.below (bnew w13 (.cells #[] 2)) HT13.out)
            have HT14 : Hid (wd.heap.size < (w13.alloc (.cells #[] 2)).heap.size) := Nat.lt_of_lt_of_le HT13.out (bnew w13 (.cells #[] 2)).size
            have HQ14 : Hid (¬ wd.heap.size = w13.heap.size) := Nat.ne_of_lt HT13.out
            refine hK.out _ (w13.alloc (.cells #[] 2)) (SKof.out _ HB14.out) (fun hHeld => ?_)
            clear hK K
            (try simp only [Act.put, List.setIfInBounds_toArray, List.set_cons_zero, List.set_cons_succ])
            generalize hg14 : w13.alloc (.cells #[] 2) = w14 at *
            clear hg14
            refine wpAnyH_ready (rs := [6]) (by kernel_rfl) (by simp) ?_
            refine AllReadyH.cons (o := { dst := some 78, op := Op.call { callee := Callee.builtin Builtin.append, args := #[Operand.tmp 76, Operand.tmp 77], argTypes := #[24, 24] }, type := 24, pos := "laws.go:625", after := #[{ on := 4, ground := Ground.data }, { on := 5, ground := Ground.data }], guard := none }) rfl (fun K hK => ?_) AllReadyH.nil
            refine step_append_lies w14 (by rfl) (.tmp 76) (.tmp 77) 24 (by rfl) wd.heap.size 2 ti (.int .i64 0) 1 8 Try.underlying24 HI1.out hi2 hi3 hi4 rfl (by omega) (.slice (some ⟨w13.heap.size, 0, none⟩) 0 0) 0 (ints []) (by rfl) HL14.out ⟨b6, 0, none⟩ R c6 (ints (fl (rval f k) R)) (by rfl) HLN.out (HNW.out _ HB14.out) HN1.out hR1 HM2.out HM3.out HB14.out.size _ rfl ?_
            intro g15 cp15 w15 hw1 hw2 hw3 hw4
            have HB15 : Hid (Below wd.heap.size wd w15) := HB14.out.trans ((Below.refl _ _).grown hw2 HB14.out.size (fun q hq => (HL14.out.lt q hq).1))
            have HL15 : Hid (w15.ownsRow wd.heap.size 2 1 (.slice (some ⟨g15, 0, none⟩) R cp15) R (ints (fl (rval f k) R))) := by
              show World.ownsRow _ _ _ _ _ _ _
              have h7 := hw1
              simp only [Nat.zero_add] at h7
              exact h7
            have HE15 : Hid (Bx wd.heap.size [.int .i64 0, .int .i64 0, .slice none 0 0] w15) := bx_block HE14.out (hw2.block _ HT14.out (by intro h9; exact HQ14.out (by simpa [Value.ownBlock] using h9)))
            have HT15 : Hid (wd.heap.size < w15.heap.size) := Nat.lt_of_lt_of_le HT14.out hw2.size
            clear hw1 hw2 hw3 hw4
            refine hK.out _ w15 (SKof.out _ HB15.out) (fun hHeld => ?_)
            clear hK K
            (try simp only [Act.put, List.setIfInBounds_toArray, List.set_cons_zero, List.set_cons_succ])
            (try simp only [Nat.zero_add])
            refine wpAnyH_ready (rs := [7]) (by kernel_rfl) (by simp) ?_
            refine AllReadyH.cons (o := { dst := some 79, op := Op.call { callee := Callee.value (Operand.func 11), args := #[Operand.tmp 73, Operand.tmp 75, Operand.tmp 78], argTypes := #[2, 2, 24] }, type := 30, pos := "laws.go:625", after := #[{ on := 1, ground := Ground.data }, { on := 3, ground := Ground.data }, { on := 6, ground := Ground.data }, { on := 6, ground := Ground.chain }], guard := none }) rfl (fun K hK => ?_) AllReadyH.nil
            go_simp
            (with_reducible refine (cF g15 cp15 w15 (px_own HL15.out)).mono ?_)
            rintro e w16 ⟨a9, c9, b9, rfl, ho9, h9, hb9⟩
            dsimp only
            have HB16 : Hid (Below wd.heap.size wd w16) := bnext HB15.out (Nat.le_refl _) hb9
            have HO16 := hide ho9
            have HG9 : Hid (w15.heap.size ≤ b9) := h9.elim (fun h => absurd h (by omega)) id
            have HG8 : Hid (wd.heap.size ≤ b9) := Nat.le_trans HB15.out.size HG9.out
            have HE16 := hide (HE15.out.below hb9 HT15.out)
            have HT16 : Hid (wd.heap.size < w16.heap.size) := Nat.lt_of_lt_of_le HT15.out hb9.size
            have HN16 : Hid (¬ wd.heap.size = b9) := Nat.ne_of_lt (Nat.lt_of_lt_of_le HT15.out HG9.out)
            clear ho9 h9 hb9
            refine hK.out _ w16 (SKof.out _ HB16.out) (fun hHeld => ?_)
            clear hK K
            (try simp only [Act.put, List.setIfInBounds_toArray, List.set_cons_zero, List.set_cons_succ])
            refine wpAnyH_take (i := 8) (oi := { dst := some 71, op := Op.move (Operand.tmp 79), type := 30, pos := "laws.go:625", after := #[{ on := 7, ground := Ground.data }], guard := none }) (v := ?_) rfl (by kernel_rfl) (by kernel_rfl) (by kernel_rfl) (fun _ _ _ h => h) (Or.inl ⟨by rfl, ?hy18⟩) (by assumption) ?rest18
            case hy18 => (intro w' hSw; (try dsimp only at hSw); go_simp; try with_reducible rfl)
            (try simp only [Act.put, List.setIfInBounds_toArray, List.set_cons_zero, List.set_cons_succ])
            refine wpAnyH_take (i := 9) (oi := { dst := some 80, op := Op.extract (Operand.tmp 71) 0, type := 26, pos := "laws.go:625", after := #[{ on := 8, ground := Ground.data }], guard := none }) (v := ?_) rfl (by kernel_rfl) (by kernel_rfl) (by kernel_rfl) (fun _ _ _ h => h) (Or.inl ⟨by rfl, ?hy19⟩) (by assumption) ?rest19
            case hy19 => (intro w' hSw; (try dsimp only at hSw); go_simp; try with_reducible rfl)
            (try simp only [Act.put, List.setIfInBounds_toArray, List.set_cons_zero, List.set_cons_succ])
            refine wpAnyH_take (i := 10) (oi := { dst := some 81, op := Op.extract (Operand.tmp 71) 1, type := 4, pos := "laws.go:625", after := #[{ on := 8, ground := Ground.data }, { on := 12, ground := Ground.gcOnly Departure.lateStores }], guard := none }) (v := ?_) rfl (by kernel_rfl) (by kernel_rfl) (by kernel_rfl) (fun _ _ _ h => h) (Or.inl ⟨by rfl, ?hy20⟩) (by assumption) ?rest20
            case hy20 => (intro w' hSw; (try dsimp only at hSw); go_simp; try with_reducible rfl)
            (try simp only [Act.put, List.setIfInBounds_toArray, List.set_cons_zero, List.set_cons_succ])
            refine wpAnyH_ready (rs := [12]) (by kernel_rfl) (by simp) ?_
            refine AllReadyH.cons (o := { dst := none, op := Op.store 26 (Operand.tmp 11) (Operand.tmp 80), type := 0, pos := "laws.go:625", after := #[{ on := 11, ground := Ground.data }, { on := 9, ground := Ground.data }, { on := 7, ground := Ground.chain }, { on := 0, ground := Ground.phase }, { on := 1, ground := Ground.phase }, { on := 2, ground := Ground.phase }, { on := 3, ground := Ground.phase }, { on := 4, ground := Ground.phase }, { on := 5, ground := Ground.phase }, { on := 6, ground := Ground.phase }, { on := 7, ground := Ground.phase }, { on := 8, ground := Ground.phase }, { on := 9, ground := Ground.phase }, { on := 10, ground := Ground.textOnly Departure.lateStores }, { on := 11, ground := Ground.phase }], guard := none }) rfl (fun K hK => ?_) AllReadyH.nil
            have HB17 : Hid (Below wd.heap.size wd (((w16.setCell ⟨wd.heap.size, 0, none⟩ (.int .i64 W)).setCell ⟨wd.heap.size, 1, none⟩ (.int .i64 H)).setCell ⟨wd.heap.size, 2, none⟩ (.slice a9 k c9))) := below_set3' HB16.out HC13.out
            have HX17 : Hid (Bx wd.heap.size [.int .i64 W, .int .i64 H, .slice a9 k c9] (((w16.setCell ⟨wd.heap.size, 0, none⟩ (.int .i64 W)).setCell ⟨wd.heap.size, 1, none⟩ (.int .i64 H)).setCell ⟨wd.heap.size, 2, none⟩ (.slice a9 k c9))) := (((HE16.out.set 0 (.int .i64 W)).set 1 (.int .i64 H)).set 2 (.slice a9 k c9))
            have HO17 := hide (HO16.out.set3 (X := wd.heap.size) (.inr HN16.out) (.int .i64 W) (.int .i64 H) (.slice a9 k c9))
            have HT17 : Hid (wd.heap.size < (((w16.setCell ⟨wd.heap.size, 0, none⟩ (.int .i64 W)).setCell ⟨wd.heap.size, 1, none⟩ (.int .i64 H)).setCell ⟨wd.heap.size, 2, none⟩ (.slice a9 k c9)).heap.size) := by show _ < _; simpa using HT16.out
            obtain ⟨z0, y0⟩ := HE16.out 0 _ rfl
            obtain ⟨z1, y1⟩ := HE16.out 1 _ rfl
            obtain ⟨z2, y2⟩ := HE16.out 2 _ rfl
            go_simp
            refine hK.out _ (((w16.setCell ⟨wd.heap.size, 0, none⟩ (.int .i64 W)).setCell ⟨wd.heap.size, 1, none⟩ (.int .i64 H)).setCell ⟨wd.heap.size, 2, none⟩ (.slice a9 k c9)) (SKof.out _ HB17.out) (fun hHeld => ?_)
            clear hK K
            (try simp only [Act.put, List.setIfInBounds_toArray, List.set_cons_zero, List.set_cons_succ])
            clear z0 y0 z1 y1 z2 y2
            refine wpAnyH_take (i := 13) (oi := { dst := some 12, op := Op.assign (Operand.tmp 81), type := 4, pos := "laws.go:625", after := #[{ on := 10, ground := Ground.data }, { on := 12, ground := Ground.chain }, { on := 0, ground := Ground.phase }, { on := 1, ground := Ground.phase }, { on := 2, ground := Ground.phase }, { on := 3, ground := Ground.phase }, { on := 4, ground := Ground.phase }, { on := 5, ground := Ground.phase }, { on := 6, ground := Ground.phase }, { on := 7, ground := Ground.phase }, { on := 8, ground := Ground.phase }, { on := 9, ground := Ground.phase }, { on := 10, ground := Ground.phase }, { on := 11, ground := Ground.phase }, { on := 12, ground := Ground.phase }], guard := none }) (v := ?_) rfl (by kernel_rfl) (by kernel_rfl) (by kernel_rfl) (fun _ _ _ h => h) (Or.inl ⟨by rfl, ?hy21⟩) (by assumption) ?rest21
            case hy21 => (intro w' hSw; (try dsimp only at hSw); go_simp; try with_reducible rfl)
            (try simp only [Act.put, List.setIfInBounds_toArray, List.set_cons_zero, List.set_cons_succ])
            refine wpAnyH_done (by kernel_rfl) ?_ _
            have HSf := hide (((HSd.out.own HB17.out HO17.out.v (.inr HG8.out)).boxAt HX17.out (Nat.le_trans HSd.out.below.size HC13.out) HT17.out (by
              have hge := HC13.out
              have hnb := HN16.out
              exact boxNew HSd.out hge hnb)))
            go_wp2_with fail
            go_meet
            exact ⟨_, a9, c9, b9, rfl, rfl, HSf.out⟩
        case rest =>
          obtain ⟨c8, a9, c9, b9, rfl, rfl, hS⟩ := hcut
          have HS := hide hS
          clear hS HSr'
          obtain ⟨i0, i1, i2⟩ := HS.out.im3 0 rfl
          obtain ⟨l0, l1, l2⟩ := HS.out.im3 3 rfl
          have HRA := hide (runs_are HBIT.out)
          have cS := sameImage_any W H a9 x k c9 c f (by omega) _ (px_congr (HS.out.nthO 0 rfl).px (fun j hj => by have := HRA.out.bit j hj; rw [HR.out] at this; exact this)) (HS.out.nthO 5 rfl).px
          go_wp2_with fail
          refine cS.mono ?_
          rintro e w11 ⟨rfl, hb11⟩
          have HS11 := hide ((HS.out.next hb11).sub (L' := [(X3, [.int .i64 W, .int .i64 H, .slice (some ⟨b4, 0, none⟩) k c4]), (X2, [.int .i64 W2, .int .i64 H2, .slice x2 m2 c2]), (X, [.int .i64 W, .int .i64 H, .slice x k c])]) (O' := [(a7, b7, rcnt hc k, fun q => .int .i64 (rval hc k q)), (some ⟨b6, 0, none⟩, b6, R, fun q => .int .i64 (rval f k q)), (some ⟨b4, 0, none⟩, b4, k, fun q => .int .i64 (hc q)), (x2, bb, m2, fun q => .int .i64 (g q)), (x, b, k, fun q => .int .i64 (f q))]) (List.Sublist.cons _ (List.Sublist.refl _)) (List.Sublist.cons _ (List.Sublist.refl _)))
          clear cS hb11 HS i0 i1 i2 l0 l1 l2
          go_wp2_with fail
          go_loopw [13, 14, 15, 16, 17, 18, 19, 20] (fun i _ _ _ _ _ _ _ wr => ∃ o : Nat, 1 ≤ o ∧ o ≤ 4 ∧ i = .int .i64 o ∧ St w0 [(X3, [.int .i64 W, .int .i64 H, .slice (some ⟨b4, 0, none⟩) k c4]), (X2, [.int .i64 W2, .int .i64 H2, .slice x2 m2 c2]), (X, [.int .i64 W, .int .i64 H, .slice x k c])] [(a7, b7, rcnt hc k, fun q => .int .i64 (rval hc k q)), (some ⟨b6, 0, none⟩, b6, R, fun q => .int .i64 (rval f k q)), (some ⟨b4, 0, none⟩, b4, k, fun q => .int .i64 (hc q)), (x2, bb, m2, fun q => .int .i64 (g q)), (x, b, k, fun q => .int .i64 (f q))] wr) (fun i _ _ _ _ _ _ _ _ => 4 - (intOf i).toNat)
          case atStart => exact ⟨1, by omega, by omega, rfl, HS11.out⟩
          case round =>
            obtain ⟨o, ho1, ho4, rfl, hS⟩ := hrel
            have HS := hide hS
            clear hS HS11
            by_cases ho3 : o ≤ 3
            · obtain ⟨l0, l1, l2⟩ := HS.out.im3 2 rfl
              have cC := copyImage_any W H x k c f (by omega) hn1 _ (HS.out.nthO 4 rfl).px
              go_wp2_with fail
              refine cC.mono ?_
              rintro e w12 ⟨b10, c10, rfl, hr10, h10, hb10⟩
              have HS12 := hide (HS.out.own hb10 (Ow.of_row hr10).v (.inr h10))
              have HS13 := hide (HS12.out.box [.int .i64 W, .int .i64 H, .slice (some ⟨b10, 0, none⟩) k c10] 26)
              clear cC hr10 h10 hb10 HS HS12 l0 l1 l2
              go_upto_region 23 with fail
              generalize hw13 : w12.alloc (.cells #[.int .i64 W, .int .i64 H, .slice (some ⟨b10, 0, none⟩) k c10] 26) = w13 at *
              have HS14 : Hid (St w0 ((w12.heap.size, [.int .i64 W, .int .i64 H, .slice (some ⟨b10, 0, none⟩) k c10]) :: [(X3, [.int .i64 W, .int .i64 H, .slice (some ⟨b4, 0, none⟩) k c4]), (X2, [.int .i64 W2, .int .i64 H2, .slice x2 m2 c2]), (X, [.int .i64 W, .int .i64 H, .slice x k c])]) ((some ⟨b10, 0, none⟩, b10, k, fun q => .int .i64 (mixF (fun j => jpx o (f j) (hc j)) f 0 q)) :: [(a7, b7, rcnt hc k, fun q => .int .i64 (rval hc k q)), (some ⟨b6, 0, none⟩, b6, R, fun q => .int .i64 (rval f k q)), (some ⟨b4, 0, none⟩, b4, k, fun q => .int .i64 (hc q)), (x2, bb, m2, fun q => .int .i64 (g q)), (x, b, k, fun q => .int .i64 (f q))]) w13) := HS13.out
              clear HS13 hw13
              generalize hX : w12.heap.size = X9 at *
              clear hX
              go_wp2_with fail
              go_loopw [15, 16, 17, 18] (fun i _ _ _ wr => ∃ j : Nat, j ≤ k ∧ i = .int .i64 j ∧ St w0 ((X9, [.int .i64 W, .int .i64 H, .slice (some ⟨b10, 0, none⟩) k c10]) :: [(X3, [.int .i64 W, .int .i64 H, .slice (some ⟨b4, 0, none⟩) k c4]), (X2, [.int .i64 W2, .int .i64 H2, .slice x2 m2 c2]), (X, [.int .i64 W, .int .i64 H, .slice x k c])]) ((some ⟨b10, 0, none⟩, b10, k, fun q => .int .i64 (mixF (fun j => jpx o (f j) (hc j)) f j q)) :: [(a7, b7, rcnt hc k, fun q => .int .i64 (rval hc k q)), (some ⟨b6, 0, none⟩, b6, R, fun q => .int .i64 (rval f k q)), (some ⟨b4, 0, none⟩, b4, k, fun q => .int .i64 (hc q)), (x2, bb, m2, fun q => .int .i64 (g q)), (x, b, k, fun q => .int .i64 (f q))]) wr) (fun i _ _ _ _ => k - (intOf i).toNat)
              case atStart => exact ⟨0, by omega, rfl, HS14.out⟩
              case round =>
                obtain ⟨j, hj, rfl, hS⟩ := hrel
                have HS := hide hS
                clear hS HS14
                by_cases hlj : j < k
                · obtain ⟨r1, r2⟩ := HS.out.atO hlj
                  have HU := hide (HS.out.upd hlj 0)
                  have HV := hide (HU.out.upd hlj 1)
                  obtain ⟨s1, s2⟩ := HU.out.atO hlj
                  obtain ⟨i0, i1, i2⟩ := HS.out.im3 0 rfl
                  obtain ⟨j0, j1, j2⟩ := HS.out.im3 1 rfl
                  obtain ⟨l0, l1, l2⟩ := HS.out.im3 3 rfl
                  obtain ⟨u0, u1, u2⟩ := HU.out.im3 0 rfl
                  obtain ⟨rfl, hfx⟩ : x = some ⟨b, 0, none⟩ ∧ wr.cell? ⟨b, j, none⟩ = some (.int .i64 (f j)) := by
                    rcases HS.out.nthO 5 rfl with h | h
                    · omega
                    · exact ⟨h.1, (h.2 j hlj).1⟩
                  have hcx : wr.cell? ⟨b4, j, none⟩ = some (.int .i64 (hc j)) := by
                    rcases HS.out.nthO 3 rfl with h | h
                    · omega
                    · exact (h.2 j hlj).1
                  have HE0 : Hid (jpx o (f j) (hc j) = 0 → updN (mixF (fun j => jpx o (f j) (hc j)) f j) j 0 = mixF (fun j => jpx o (f j) (hc j)) f (j + 1)) := fun h => by rw [← mixF_step]; show updN _ _ 0 = updN _ _ (jpx o (f j) (hc j)); rw [h]
                  have HE1 : Hid (jpx o (f j) (hc j) = 1 → updN (updN (mixF (fun j => jpx o (f j) (hc j)) f j) j 0) j 1 = mixF (fun j => jpx o (f j) (hc j)) f (j + 1)) := fun h => by rw [updN_upd, ← mixF_step]; show updN _ _ 1 = updN _ _ (jpx o (f j) (hc j)); rw [h]
                  clear HS
                  have ho : o = 1 ∨ o = 2 ∨ o = 3 := by omega
                  rcases ho with rfl | rfl | rfl <;> rcases HBIT.out j hlj with hf | hf <;> rcases HOP.out j hlj with hh | hh
                  all_goals
                    rw [hf] at hfx HE0 HE1
                    rw [hh] at hcx HE0 HE1
                    have HF : Hid ((∃ wz, True) ∧ True) := ⟨⟨wr, trivial⟩, trivial⟩
                    go_wp2_with fail
                    go_roundw
                    case rel =>
                      refine ⟨j + 1, by omega, by go_num, ?_⟩
                      first
                        | (have h9 := HE0.out (by rfl); rw [h9] at HU; exact HU.out)
                        | (have h9 := HE1.out (by rfl); rw [h9] at HV; exact HV.out)
                        | (have h9 := HE0.out (by decide); rw [h9] at HU; exact HU.out)
                        | (have h9 := HE1.out (by decide); rw [h9] at HV; exact HV.out)
                    case measure => simp [intOf]; omega
                · obtain rfl : k = j := by omega
                  have HSm := hide HS.out
                  clear HS
                  obtain ⟨i0, i1, i2⟩ := HSm.out.im3 0 rfl
                  go_upto_region 36 with fail
                  clear i0 i1 i2
                  have ho123 : (o : Int) = 1 ∨ (o : Int) = 2 ∨ (o : Int) = 3 := by omega
                  obtain ⟨JF, hJF⟩ : ∃ JF, JF = jruF (o : Int) R (rval f k) (rcnt hc k) (rval hc k) := ⟨_, rfl⟩
                  have hmJ : maskB W H k JF = true := by rw [hJF]; exact mask_bits HMB.out (jruF_bit _ _ _ _ _ _)
                  have cJ := fun w' h1 h2 => joinRuns_back W H k f hc HMB.out HOP.out (o : Int) ho123 (some ⟨b6, 0, none⟩) a7 R c6 (rcnt hc k) c7 HR.out rfl w' h1 h2
                  rw [← hJF] at cJ
                  have cF := fun a' cp' w' h => fromRuns_back W H k JF hmJ a' (rcnt JF k) cp' rfl w' h
                  have HRJ := hide (runs_are (maskB_ok hmJ).2.2.2.2.2.2)
                  have HJF := hide hJF
                  have wWH : IntKind.i64.wrap (W * H) = (k : Int) := by rw [← HN.out, IntKind.wrap_i64]; omega
                  have wWH2 : wrap64 (W * H) = (k : Int) := by rw [← HN.out]; unfold wrap64; omega
                  clear hJF hmJ
                  generalize hRJ : rcnt JF k = RJ at *
                  have HRR := hide hRJ
                  clear hRJ
                  go_cut [19, 20] (fun s1 s2 wc => ∃ (c8 : Nat) (a9 : Option Addr) (c9 b9 : Nat), s1 = .pointer (some ⟨c8, 0, none⟩) ∧ s2 = .bool true ∧ St w0 ((c8, [.int .i64 W, .int .i64 H, .slice a9 k c9]) :: (X9, [.int .i64 W, .int .i64 H, .slice (some ⟨b10, 0, none⟩) k c10]) :: [(X3, [.int .i64 W, .int .i64 H, .slice (some ⟨b4, 0, none⟩) k c4]), (X2, [.int .i64 W2, .int .i64 H2, .slice x2 m2 c2]), (X, [.int .i64 W, .int .i64 H, .slice x k c])]) ((a9, b9, k, fun q => .int .i64 (rbit (rval JF k) RJ q)) :: (some ⟨b10, 0, none⟩, b10, k, fun q => .int .i64 (mixF (fun j => jpx o (f j) (hc j)) f k q)) :: [(a7, b7, rcnt hc k, fun q => .int .i64 (rval hc k q)), (some ⟨b6, 0, none⟩, b6, R, fun q => .int .i64 (rval f k q)), (some ⟨b4, 0, none⟩, b4, k, fun q => .int .i64 (hc q)), (x2, bb, m2, fun q => .int .i64 (g q)), (x, b, k, fun q => .int .i64 (f q))]) wc)
                  case first =>
                    have HSd := hide HSm.out.drew
                    have SK0 : Hid (wr.drew.cell? ⟨X, 0, none⟩ = some (.int .i64 W) ∧ wr.drew.cell? ⟨X, 1, none⟩ = some (.int .i64 H)) := by
                      obtain ⟨l0, l1, l2⟩ := HSd.out.im3 3 rfl
                      exact ⟨l0, l1⟩
                    clear HSm
                    refine wp_region_held_drew (S := fun (w' : World) => w'.cell? ⟨X, 0, none⟩ = some (.int .i64 W) ∧ w'.cell? ⟨X, 1, none⟩ = some (.int .i64 H)) (by kernel_rfl) SK0.out (fun hHeld => ?_)
                    generalize wr.drew = wd at *
                    have SKof : Hid (∀ w', Below wd.heap.size wd w' → w'.cell? ⟨X, 0, none⟩ = some (.int .i64 W) ∧ w'.cell? ⟨X, 1, none⟩ = some (.int .i64 H)) := fun w' hb => by
                      obtain ⟨l0, l1, l2⟩ := (HSd.out.next hb).im3 3 rfl
                      exact ⟨l0, l1⟩
                    have HB0 : Hid (Below wd.heap.size wd wd) := Below.refl _ _
                    refine wpAnyH_take (i := 0) (oi := { dst := some 142, op := Op.fieldAddr 26 (Operand.tmp 5) 0, type := 0, pos := "laws.go:646", after := #[], guard := none }) (v := ?_) rfl (by kernel_rfl) (by kernel_rfl) (by kernel_rfl) (fun _ _ _ h => h) (Or.inl ⟨by rfl, ?hy22⟩) (by assumption) ?rest22
                    case hy22 => (intro w' hSw; (try dsimp only at hSw); go_simp; try with_reducible rfl)
                    (try simp only [Act.put, List.setIfInBounds_toArray, List.set_cons_zero, List.set_cons_succ])
                    refine wpAnyH_take (i := 1) (oi := { dst := some 143, op := Op.load 2 (Operand.tmp 142), type := 2, pos := "laws.go:646", after := #[{ on := 0, ground := Ground.data }], guard := none }) (v := ?_) rfl (by kernel_rfl) (by kernel_rfl) (by kernel_rfl) (fun _ _ _ h => h) (Or.inl ⟨by rfl, ?hy23⟩) (by assumption) ?rest23
                    case hy23 => (intro w' hSw; (try dsimp only at hSw); go_simp; try with_reducible rfl)
                    (try simp only [Act.put, List.setIfInBounds_toArray, List.set_cons_zero, List.set_cons_succ])
                    refine wpAnyH_take (i := 2) (oi := { dst := some 144, op := Op.fieldAddr 26 (Operand.tmp 5) 1, type := 0, pos := "laws.go:646", after := #[], guard := none }) (v := ?_) rfl (by kernel_rfl) (by kernel_rfl) (by kernel_rfl) (fun _ _ _ h => h) (Or.inl ⟨by rfl, ?hy24⟩) (by assumption) ?rest24
                    case hy24 => (intro w' hSw; (try dsimp only at hSw); go_simp; try with_reducible rfl)
                    (try simp only [Act.put, List.setIfInBounds_toArray, List.set_cons_zero, List.set_cons_succ])
                    refine wpAnyH_take (i := 3) (oi := { dst := some 145, op := Op.load 2 (Operand.tmp 144), type := 2, pos := "laws.go:646", after := #[{ on := 2, ground := Ground.data }], guard := none }) (v := ?_) rfl (by kernel_rfl) (by kernel_rfl) (by kernel_rfl) (fun _ _ _ h => h) (Or.inl ⟨by rfl, ?hy25⟩) (by assumption) ?rest25
                    case hy25 => (intro w' hSw; (try dsimp only at hSw); go_simp; try with_reducible rfl)
                    (try simp only [Act.put, List.setIfInBounds_toArray, List.set_cons_zero, List.set_cons_succ])
                    refine wpAnyH_take (i := 4) (oi := { dst := some 146, op := Op.fieldAddr 26 (Operand.tmp 5) 0, type := 0, pos := "laws.go:646", after := #[], guard := none }) (v := ?_) rfl (by kernel_rfl) (by kernel_rfl) (by kernel_rfl) (fun _ _ _ h => h) (Or.inl ⟨by rfl, ?hy26⟩) (by assumption) ?rest26
                    case hy26 => (intro w' hSw; (try dsimp only at hSw); go_simp; try with_reducible rfl)
                    (try simp only [Act.put, List.setIfInBounds_toArray, List.set_cons_zero, List.set_cons_succ])
                    refine wpAnyH_take (i := 5) (oi := { dst := some 147, op := Op.load 2 (Operand.tmp 146), type := 2, pos := "laws.go:646", after := #[{ on := 4, ground := Ground.data }], guard := none }) (v := ?_) rfl (by kernel_rfl) (by kernel_rfl) (by kernel_rfl) (fun _ _ _ h => h) (Or.inl ⟨by rfl, ?hy27⟩) (by assumption) ?rest27
                    case hy27 => (intro w' hSw; (try dsimp only at hSw); go_simp; try with_reducible rfl)
                    (try simp only [Act.put, List.setIfInBounds_toArray, List.set_cons_zero, List.set_cons_succ])
                    refine wpAnyH_take (i := 6) (oi := { dst := some 148, op := Op.fieldAddr 26 (Operand.tmp 5) 1, type := 0, pos := "laws.go:646", after := #[], guard := none }) (v := ?_) rfl (by kernel_rfl) (by kernel_rfl) (by kernel_rfl) (fun _ _ _ h => h) (Or.inl ⟨by rfl, ?hy28⟩) (by assumption) ?rest28
                    case hy28 => (intro w' hSw; (try dsimp only at hSw); go_simp; try with_reducible rfl)
                    (try simp only [Act.put, List.setIfInBounds_toArray, List.set_cons_zero, List.set_cons_succ])
                    refine wpAnyH_take (i := 7) (oi := { dst := some 149, op := Op.load 2 (Operand.tmp 148), type := 2, pos := "laws.go:646", after := #[{ on := 6, ground := Ground.data }], guard := none }) (v := ?_) rfl (by kernel_rfl) (by kernel_rfl) (by kernel_rfl) (fun _ _ _ h => h) (Or.inl ⟨by rfl, ?hy29⟩) (by assumption) ?rest29
                    case hy29 => (intro w' hSw; (try dsimp only at hSw); go_simp; try with_reducible rfl)
                    (try simp only [Act.put, List.setIfInBounds_toArray, List.set_cons_zero, List.set_cons_succ])
                    refine wpAnyH_take (i := 8) (oi := { dst := some 150, op := Op.binOp BinOp.mul 2 (Operand.tmp 147) (Operand.tmp 149) 2, type := 2, pos := "laws.go:646", after := #[{ on := 5, ground := Ground.data }, { on := 7, ground := Ground.data }], guard := none }) (v := ?_) rfl (by kernel_rfl) (by kernel_rfl) (by kernel_rfl) (fun _ _ _ h => h) (Or.inl ⟨by rfl, ?hy30⟩) (by assumption) ?rest30
                    case hy30 => (intro w' hSw; (try dsimp only at hSw); go_simp; try with_reducible rfl)
                    (try simp only [Act.put, List.setIfInBounds_toArray, List.set_cons_zero, List.set_cons_succ])
                    refine wpAnyH_take (i := 9) (oi := { dst := some 151, op := Op.move (Operand.tmp 9), type := 24, pos := "laws.go:646", after := #[], guard := none }) (v := ?_) rfl (by kernel_rfl) (by kernel_rfl) (by kernel_rfl) (fun _ _ _ h => h) (Or.inl ⟨by rfl, ?hy31⟩) (by assumption) ?rest31
                    case hy31 => (intro w' hSw; (try dsimp only at hSw); go_simp; try with_reducible rfl)
                    (try simp only [Act.put, List.setIfInBounds_toArray, List.set_cons_zero, List.set_cons_succ])
                    refine wpAnyH_take (i := 10) (oi := { dst := some 152, op := Op.move (Operand.tmp 10), type := 24, pos := "laws.go:646", after := #[], guard := none }) (v := ?_) rfl (by kernel_rfl) (by kernel_rfl) (by kernel_rfl) (fun _ _ _ h => h) (Or.inl ⟨by rfl, ?hy32⟩) (by assumption) ?rest32
                    case hy32 => (intro w' hSw; (try dsimp only at hSw); go_simp; try with_reducible rfl)
                    (try simp only [Act.put, List.setIfInBounds_toArray, List.set_cons_zero, List.set_cons_succ])
                    refine wpAnyH_take (i := 11) (oi := { dst := some 153, op := Op.move (Operand.tmp 13), type := 2, pos := "laws.go:646", after := #[], guard := none }) (v := ?_) rfl (by kernel_rfl) (by kernel_rfl) (by kernel_rfl) (fun _ _ _ h => h) (Or.inl ⟨by rfl, ?hy33⟩) (by assumption) ?rest33
                    case hy33 => (intro w' hSw; (try dsimp only at hSw); go_simp; try with_reducible rfl)
                    (try simp only [Act.put, List.setIfInBounds_toArray, List.set_cons_zero, List.set_cons_succ])
                    refine wpAnyH_ready (rs := [12, 17]) (by kernel_rfl) (by simp) ?_
                    refine AllReadyH.cons (o := { dst := some 154, op := Op.call { callee := Callee.value (Operand.func 13), args := #[Operand.tmp 150, Operand.tmp 151, Operand.tmp 152, Operand.tmp 153], argTypes := #[2, 24, 24, 2] }, type := 24, pos := "laws.go:646", after := #[{ on := 8, ground := Ground.data }, { on := 9, ground := Ground.data }, { on := 10, ground := Ground.data }, { on := 11, ground := Ground.data }], guard := none }) rfl (fun K hK => ?_) (AllReadyH.cons (o := { dst := some 19, op := Op.alloc 26, type := 0, pos := "laws.go:646", after := #[], guard := none }) rfl (fun K hK => ?_) AllReadyH.nil)
                    · go_simp
                      (with_reducible refine (cJ wd ((HSd.out.next HB0.out).nthO 2 rfl).px ((HSd.out.next HB0.out).nthO 1 rfl).px).mono ?_)
                      rintro e w18 ⟨aj, cj, bj, rfl, hoj, -, hbj⟩
                      dsimp only
                      have HB18 : Hid (Below wd.heap.size wd w18) := bnext HB0.out (Nat.le_refl _) hbj
                      have HJ18 := hide hoj.px
                      clear hoj hbj
                      refine hK.out _ w18 (SKof.out _ HB18.out) (fun hHeld => ?_)
                      clear hK K
                      (try simp only [Act.put, List.setIfInBounds_toArray, List.set_cons_zero, List.set_cons_succ])
                      refine wpAnyH_ready (rs := [13, 17]) (by kernel_rfl) (by simp) ?_
                      refine AllReadyH.cons (o := { dst := some 155, op := Op.call { callee := Callee.value (Operand.func 11), args := #[Operand.tmp 143, Operand.tmp 145, Operand.tmp 154], argTypes := #[2, 2, 24] }, type := 30, pos := "laws.go:646", after := #[{ on := 1, ground := Ground.data }, { on := 3, ground := Ground.data }, { on := 12, ground := Ground.data }, { on := 12, ground := Ground.chain }], guard := none }) rfl (fun K hK => ?_) (AllReadyH.cons (o := { dst := some 19, op := Op.alloc 26, type := 0, pos := "laws.go:646", after := #[], guard := none }) rfl (fun K hK => ?_) AllReadyH.nil)
                      · go_simp
                        (with_reducible refine (cF aj cj w18 HJ18.out).mono ?_)
                        rintro e w19 ⟨a9, c9, b9, rfl, ho9, h9, hb9⟩
                        dsimp only
                        have HB19 : Hid (Below wd.heap.size wd w19) := bnext HB18.out (Nat.le_refl _) hb9
                        have HO19 := hide ho9
                        have HG9 : Hid (w18.heap.size ≤ b9) := h9.elim (fun h => absurd h (by omega)) id
                        have HG8 : Hid (wd.heap.size ≤ b9) := Nat.le_trans HB18.out.size HG9.out
                        clear ho9 h9 hb9
                        refine hK.out _ w19 (SKof.out _ HB19.out) (fun hHeld => ?_)
                        clear hK K
                        (try simp only [Act.put, List.setIfInBounds_toArray, List.set_cons_zero, List.set_cons_succ])
                        refine wpAnyH_take (i := 14) (oi := { dst := some 141, op := Op.move (Operand.tmp 155), type := 30, pos := "laws.go:646", after := #[{ on := 13, ground := Ground.data }], guard := none }) (v := ?_) rfl (by kernel_rfl) (by kernel_rfl) (by kernel_rfl) (fun _ _ _ h => h) (Or.inl ⟨by rfl, ?hy34⟩) (by assumption) ?rest34
                        case hy34 => (intro w' hSw; (try dsimp only at hSw); go_simp; try with_reducible rfl)
                        (try simp only [Act.put, List.setIfInBounds_toArray, List.set_cons_zero, List.set_cons_succ])
                        refine wpAnyH_take (i := 15) (oi := { dst := some 156, op := Op.extract (Operand.tmp 141) 0, type := 26, pos := "laws.go:646", after := #[{ on := 14, ground := Ground.data }], guard := none }) (v := ?_) rfl (by kernel_rfl) (by kernel_rfl) (by kernel_rfl) (fun _ _ _ h => h) (Or.inl ⟨by rfl, ?hy35⟩) (by assumption) ?rest35
                        case hy35 => (intro w' hSw; (try dsimp only at hSw); go_simp; try with_reducible rfl)
                        (try simp only [Act.put, List.setIfInBounds_toArray, List.set_cons_zero, List.set_cons_succ])
                        refine wpAnyH_take (i := 16) (oi := { dst := some 157, op := Op.extract (Operand.tmp 141) 1, type := 4, pos := "laws.go:646", after := #[{ on := 14, ground := Ground.data }, { on := 18, ground := Ground.gcOnly Departure.lateStores }], guard := none }) (v := ?_) rfl (by kernel_rfl) (by kernel_rfl) (by kernel_rfl) (fun _ _ _ h => h) (Or.inl ⟨by rfl, ?hy36⟩) (by assumption) ?rest36
                        case hy36 => (intro w' hSw; (try dsimp only at hSw); go_simp; try with_reducible rfl)
                        (try simp only [Act.put, List.setIfInBounds_toArray, List.set_cons_zero, List.set_cons_succ])
                        refine wpAnyH_ready (rs := [17]) (by kernel_rfl) (by simp) ?_
                        refine AllReadyH.cons (o := { dst := some 19, op := Op.alloc 26, type := 0, pos := "laws.go:646", after := #[], guard := none }) rfl (fun K hK => ?_) AllReadyH.nil
                        go_simp
                        have HB20 : Hid (Below wd.heap.size wd (w19.alloc (.cells #[.int .i64 0, .int .i64 0, .slice none 0 0] 26))) := HB19.out.alloc HB19.out.size _
                        have HE20 := hide (Bx.new [.int .i64 0, .int .i64 0, .slice none 0 0] 26 w19)
                        have HT20 : Hid (w19.heap.size < (w19.alloc (.cells #[.int .i64 0, .int .i64 0, .slice none 0 0] 26)).heap.size) := by show _ < _; simp
                        have HC20 : Hid (wd.heap.size ≤ w19.heap.size) := HB19.out.size
                        have HO20 := hide (HO19.out.below' (bnew w19 (.cells #[.int .i64 0, .int .i64 0, .slice none 0 0] 26)))
                        have HN20 : Hid (¬ w19.heap.size = b9) := Nat.ne_of_gt (OwV.lt HO19.out (by omega))
                        refine hK.out _ (w19.alloc (.cells #[.int .i64 0, .int .i64 0, .slice none 0 0] 26)) (SKof.out _ HB20.out) (fun hHeld => ?_)
                        clear hK K
                        (try simp only [Act.put, List.setIfInBounds_toArray, List.set_cons_zero, List.set_cons_succ])
                        generalize hg20 : w19.alloc (.cells #[.int .i64 0, .int .i64 0, .slice none 0 0] 26) = w20 at *
                        clear hg20
                        refine wpAnyH_ready (rs := [18]) (by kernel_rfl) (by simp) ?_
                        refine AllReadyH.cons (o := { dst := none, op := Op.store 26 (Operand.tmp 19) (Operand.tmp 156), type := 0, pos := "laws.go:646", after := #[{ on := 17, ground := Ground.data }, { on := 15, ground := Ground.data }, { on := 13, ground := Ground.chain }, { on := 0, ground := Ground.phase }, { on := 1, ground := Ground.phase }, { on := 2, ground := Ground.phase }, { on := 3, ground := Ground.phase }, { on := 4, ground := Ground.phase }, { on := 5, ground := Ground.phase }, { on := 6, ground := Ground.phase }, { on := 7, ground := Ground.phase }, { on := 8, ground := Ground.phase }, { on := 9, ground := Ground.phase }, { on := 10, ground := Ground.phase }, { on := 11, ground := Ground.phase }, { on := 12, ground := Ground.phase }, { on := 13, ground := Ground.phase }, { on := 14, ground := Ground.phase }, { on := 15, ground := Ground.phase }, { on := 16, ground := Ground.textOnly Departure.lateStores }, { on := 17, ground := Ground.phase }], guard := none }) rfl (fun K hK => ?_) AllReadyH.nil
                        have HB21 : Hid (Below wd.heap.size wd (((w20.setCell ⟨w19.heap.size, 0, none⟩ (.int .i64 W)).setCell ⟨w19.heap.size, 1, none⟩ (.int .i64 H)).setCell ⟨w19.heap.size, 2, none⟩ (.slice a9 k c9))) := below_set3' HB20.out HC20.out
                        have HX21 : Hid (Bx w19.heap.size [.int .i64 W, .int .i64 H, .slice a9 k c9] (((w20.setCell ⟨w19.heap.size, 0, none⟩ (.int .i64 W)).setCell ⟨w19.heap.size, 1, none⟩ (.int .i64 H)).setCell ⟨w19.heap.size, 2, none⟩ (.slice a9 k c9))) := (((HE20.out.set 0 (.int .i64 W)).set 1 (.int .i64 H)).set 2 (.slice a9 k c9))
                        have HO21 := hide (HO20.out.set3 (X := w19.heap.size) (.inr HN20.out) (.int .i64 W) (.int .i64 H) (.slice a9 k c9))
                        have HT21 : Hid (w19.heap.size < (((w20.setCell ⟨w19.heap.size, 0, none⟩ (.int .i64 W)).setCell ⟨w19.heap.size, 1, none⟩ (.int .i64 H)).setCell ⟨w19.heap.size, 2, none⟩ (.slice a9 k c9)).heap.size) := by show _ < _; simpa using HT20.out
                        obtain ⟨z0, y0⟩ := HE20.out 0 _ rfl
                        obtain ⟨z1, y1⟩ := HE20.out 1 _ rfl
                        obtain ⟨z2, y2⟩ := HE20.out 2 _ rfl
                        go_simp
                        refine hK.out _ (((w20.setCell ⟨w19.heap.size, 0, none⟩ (.int .i64 W)).setCell ⟨w19.heap.size, 1, none⟩ (.int .i64 H)).setCell ⟨w19.heap.size, 2, none⟩ (.slice a9 k c9)) (SKof.out _ HB21.out) (fun hHeld => ?_)
                        clear hK K
                        (try simp only [Act.put, List.setIfInBounds_toArray, List.set_cons_zero, List.set_cons_succ])
                        clear z0 y0 z1 y1 z2 y2
                        refine wpAnyH_take (i := 19) (oi := { dst := some 20, op := Op.assign (Operand.tmp 157), type := 4, pos := "laws.go:646", after := #[{ on := 16, ground := Ground.data }, { on := 18, ground := Ground.chain }, { on := 0, ground := Ground.phase }, { on := 1, ground := Ground.phase }, { on := 2, ground := Ground.phase }, { on := 3, ground := Ground.phase }, { on := 4, ground := Ground.phase }, { on := 5, ground := Ground.phase }, { on := 6, ground := Ground.phase }, { on := 7, ground := Ground.phase }, { on := 8, ground := Ground.phase }, { on := 9, ground := Ground.phase }, { on := 10, ground := Ground.phase }, { on := 11, ground := Ground.phase }, { on := 12, ground := Ground.phase }, { on := 13, ground := Ground.phase }, { on := 14, ground := Ground.phase }, { on := 15, ground := Ground.phase }, { on := 16, ground := Ground.phase }, { on := 17, ground := Ground.phase }, { on := 18, ground := Ground.phase }], guard := none }) (v := ?_) rfl (by kernel_rfl) (by kernel_rfl) (by kernel_rfl) (fun _ _ _ h => h) (Or.inl ⟨by rfl, ?hy37⟩) (by assumption) ?rest37
                        case hy37 => (intro w' hSw; (try dsimp only at hSw); go_simp; try with_reducible rfl)
                        (try simp only [Act.put, List.setIfInBounds_toArray, List.set_cons_zero, List.set_cons_succ])
                        refine wpAnyH_done (by kernel_rfl) ?_ _
                        have HSf := hide (((HSd.out.own HB21.out HO21.out.v (.inr HG8.out)).boxAt HX21.out (Nat.le_trans HSd.out.below.size HC20.out) HT21.out (by
                          have hge := HC20.out
                          have hnb := HN20.out
                          exact boxNew HSd.out hge hnb)))
                        go_wp2_with fail
                        go_meet
                        exact ⟨_, a9, c9, b9, rfl, rfl, HSf.out⟩
                      · go_simp
                        have HB22 : Hid (Below wd.heap.size wd (w18.alloc (.cells #[.int .i64 0, .int .i64 0, .slice none 0 0] 26))) := HB18.out.alloc HB18.out.size _
                        have HE22 := hide (Bx.new [.int .i64 0, .int .i64 0, .slice none 0 0] 26 w18)
                        have HT22 : Hid (w18.heap.size < (w18.alloc (.cells #[.int .i64 0, .int .i64 0, .slice none 0 0] 26)).heap.size) := by show _ < _; simp
                        have HC22 : Hid (wd.heap.size ≤ w18.heap.size) := HB18.out.size
                        have HJ22 := hide (HJ18.out.below (bnew w18 (.cells #[.int .i64 0, .int .i64 0, .slice none 0 0] 26)))
                        refine hK.out _ (w18.alloc (.cells #[.int .i64 0, .int .i64 0, .slice none 0 0] 26)) (SKof.out _ HB22.out) (fun hHeld => ?_)
                        clear hK K
                        (try simp only [Act.put, List.setIfInBounds_toArray, List.set_cons_zero, List.set_cons_succ])
                        generalize hg22 : w18.alloc (.cells #[.int .i64 0, .int .i64 0, .slice none 0 0] 26) = w22 at *
                        clear hg22
                        refine wpAnyH_ready (rs := [13]) (by kernel_rfl) (by simp) ?_
                        refine AllReadyH.cons (o := { dst := some 155, op := Op.call { callee := Callee.value (Operand.func 11), args := #[Operand.tmp 143, Operand.tmp 145, Operand.tmp 154], argTypes := #[2, 2, 24] }, type := 30, pos := "laws.go:646", after := #[{ on := 1, ground := Ground.data }, { on := 3, ground := Ground.data }, { on := 12, ground := Ground.data }, { on := 12, ground := Ground.chain }], guard := none }) rfl (fun K hK => ?_) AllReadyH.nil
                        go_simp
                        (with_reducible refine (cF aj cj w22 HJ22.out).mono ?_)
                        rintro e w23 ⟨a9, c9, b9, rfl, ho9, h9, hb9⟩
                        dsimp only
                        have HB23 : Hid (Below wd.heap.size wd w23) := bnext HB22.out (Nat.le_refl _) hb9
                        have HO23 := hide ho9
                        have HG9 : Hid (w22.heap.size ≤ b9) := h9.elim (fun h => absurd h (by omega)) id
                        have HG8 : Hid (wd.heap.size ≤ b9) := Nat.le_trans HB22.out.size HG9.out
                        have HE23 := hide (HE22.out.below hb9 HT22.out)
                        have HT23 : Hid (w18.heap.size < w23.heap.size) := Nat.lt_of_lt_of_le HT22.out hb9.size
                        have HN23 : Hid (¬ w18.heap.size = b9) := Nat.ne_of_lt (Nat.lt_of_lt_of_le HT22.out HG9.out)
                        clear ho9 h9 hb9
                        refine hK.out _ w23 (SKof.out _ HB23.out) (fun hHeld => ?_)
                        clear hK K
                        (try simp only [Act.put, List.setIfInBounds_toArray, List.set_cons_zero, List.set_cons_succ])
                        refine wpAnyH_take (i := 14) (oi := { dst := some 141, op := Op.move (Operand.tmp 155), type := 30, pos := "laws.go:646", after := #[{ on := 13, ground := Ground.data }], guard := none }) (v := ?_) rfl (by kernel_rfl) (by kernel_rfl) (by kernel_rfl) (fun _ _ _ h => h) (Or.inl ⟨by rfl, ?hy38⟩) (by assumption) ?rest38
                        case hy38 => (intro w' hSw; (try dsimp only at hSw); go_simp; try with_reducible rfl)
                        (try simp only [Act.put, List.setIfInBounds_toArray, List.set_cons_zero, List.set_cons_succ])
                        refine wpAnyH_take (i := 15) (oi := { dst := some 156, op := Op.extract (Operand.tmp 141) 0, type := 26, pos := "laws.go:646", after := #[{ on := 14, ground := Ground.data }], guard := none }) (v := ?_) rfl (by kernel_rfl) (by kernel_rfl) (by kernel_rfl) (fun _ _ _ h => h) (Or.inl ⟨by rfl, ?hy39⟩) (by assumption) ?rest39
                        case hy39 => (intro w' hSw; (try dsimp only at hSw); go_simp; try with_reducible rfl)
                        (try simp only [Act.put, List.setIfInBounds_toArray, List.set_cons_zero, List.set_cons_succ])
                        refine wpAnyH_take (i := 16) (oi := { dst := some 157, op := Op.extract (Operand.tmp 141) 1, type := 4, pos := "laws.go:646", after := #[{ on := 14, ground := Ground.data }, { on := 18, ground := Ground.gcOnly Departure.lateStores }], guard := none }) (v := ?_) rfl (by kernel_rfl) (by kernel_rfl) (by kernel_rfl) (fun _ _ _ h => h) (Or.inl ⟨by rfl, ?hy40⟩) (by assumption) ?rest40
                        case hy40 => (intro w' hSw; (try dsimp only at hSw); go_simp; try with_reducible rfl)
                        (try simp only [Act.put, List.setIfInBounds_toArray, List.set_cons_zero, List.set_cons_succ])
                        refine wpAnyH_ready (rs := [18]) (by kernel_rfl) (by simp) ?_
                        refine AllReadyH.cons (o := { dst := none, op := Op.store 26 (Operand.tmp 19) (Operand.tmp 156), type := 0, pos := "laws.go:646", after := #[{ on := 17, ground := Ground.data }, { on := 15, ground := Ground.data }, { on := 13, ground := Ground.chain }, { on := 0, ground := Ground.phase }, { on := 1, ground := Ground.phase }, { on := 2, ground := Ground.phase }, { on := 3, ground := Ground.phase }, { on := 4, ground := Ground.phase }, { on := 5, ground := Ground.phase }, { on := 6, ground := Ground.phase }, { on := 7, ground := Ground.phase }, { on := 8, ground := Ground.phase }, { on := 9, ground := Ground.phase }, { on := 10, ground := Ground.phase }, { on := 11, ground := Ground.phase }, { on := 12, ground := Ground.phase }, { on := 13, ground := Ground.phase }, { on := 14, ground := Ground.phase }, { on := 15, ground := Ground.phase }, { on := 16, ground := Ground.textOnly Departure.lateStores }, { on := 17, ground := Ground.phase }], guard := none }) rfl (fun K hK => ?_) AllReadyH.nil
                        have HB24 : Hid (Below wd.heap.size wd (((w23.setCell ⟨w18.heap.size, 0, none⟩ (.int .i64 W)).setCell ⟨w18.heap.size, 1, none⟩ (.int .i64 H)).setCell ⟨w18.heap.size, 2, none⟩ (.slice a9 k c9))) := below_set3' HB23.out HC22.out
                        have HX24 : Hid (Bx w18.heap.size [.int .i64 W, .int .i64 H, .slice a9 k c9] (((w23.setCell ⟨w18.heap.size, 0, none⟩ (.int .i64 W)).setCell ⟨w18.heap.size, 1, none⟩ (.int .i64 H)).setCell ⟨w18.heap.size, 2, none⟩ (.slice a9 k c9))) := (((HE23.out.set 0 (.int .i64 W)).set 1 (.int .i64 H)).set 2 (.slice a9 k c9))
                        have HO24 := hide (HO23.out.set3 (X := w18.heap.size) (.inr HN23.out) (.int .i64 W) (.int .i64 H) (.slice a9 k c9))
                        have HT24 : Hid (w18.heap.size < (((w23.setCell ⟨w18.heap.size, 0, none⟩ (.int .i64 W)).setCell ⟨w18.heap.size, 1, none⟩ (.int .i64 H)).setCell ⟨w18.heap.size, 2, none⟩ (.slice a9 k c9)).heap.size) := by show _ < _; simpa using HT23.out
                        obtain ⟨z0, y0⟩ := HE23.out 0 _ rfl
                        obtain ⟨z1, y1⟩ := HE23.out 1 _ rfl
                        obtain ⟨z2, y2⟩ := HE23.out 2 _ rfl
                        go_simp
                        refine hK.out _ (((w23.setCell ⟨w18.heap.size, 0, none⟩ (.int .i64 W)).setCell ⟨w18.heap.size, 1, none⟩ (.int .i64 H)).setCell ⟨w18.heap.size, 2, none⟩ (.slice a9 k c9)) (SKof.out _ HB24.out) (fun hHeld => ?_)
                        clear hK K
                        (try simp only [Act.put, List.setIfInBounds_toArray, List.set_cons_zero, List.set_cons_succ])
                        clear z0 y0 z1 y1 z2 y2
                        refine wpAnyH_take (i := 19) (oi := { dst := some 20, op := Op.assign (Operand.tmp 157), type := 4, pos := "laws.go:646", after := #[{ on := 16, ground := Ground.data }, { on := 18, ground := Ground.chain }, { on := 0, ground := Ground.phase }, { on := 1, ground := Ground.phase }, { on := 2, ground := Ground.phase }, { on := 3, ground := Ground.phase }, { on := 4, ground := Ground.phase }, { on := 5, ground := Ground.phase }, { on := 6, ground := Ground.phase }, { on := 7, ground := Ground.phase }, { on := 8, ground := Ground.phase }, { on := 9, ground := Ground.phase }, { on := 10, ground := Ground.phase }, { on := 11, ground := Ground.phase }, { on := 12, ground := Ground.phase }, { on := 13, ground := Ground.phase }, { on := 14, ground := Ground.phase }, { on := 15, ground := Ground.phase }, { on := 16, ground := Ground.phase }, { on := 17, ground := Ground.phase }, { on := 18, ground := Ground.phase }], guard := none }) (v := ?_) rfl (by kernel_rfl) (by kernel_rfl) (by kernel_rfl) (fun _ _ _ h => h) (Or.inl ⟨by rfl, ?hy41⟩) (by assumption) ?rest41
                        case hy41 => (intro w' hSw; (try dsimp only at hSw); go_simp; try with_reducible rfl)
                        (try simp only [Act.put, List.setIfInBounds_toArray, List.set_cons_zero, List.set_cons_succ])
                        refine wpAnyH_done (by kernel_rfl) ?_ _
                        have HSf := hide (((HSd.out.own HB24.out HO24.out.v (.inr HG8.out)).boxAt HX24.out (Nat.le_trans HSd.out.below.size HC22.out) HT24.out (by
                          have hge := HC22.out
                          have hnb := HN23.out
                          exact boxNew HSd.out hge hnb)))
                        go_wp2_with fail
                        go_meet
                        exact ⟨_, a9, c9, b9, rfl, rfl, HSf.out⟩
                    · go_simp
                      have HB25 : Hid (Below wd.heap.size wd (wd.alloc (.cells #[.int .i64 0, .int .i64 0, .slice none 0 0] 26))) := HB0.out.alloc HB0.out.size _
                      have HE25 := hide (Bx.new [.int .i64 0, .int .i64 0, .slice none 0 0] 26 wd)
                      have HT25 : Hid (wd.heap.size < (wd.alloc (.cells #[.int .i64 0, .int .i64 0, .slice none 0 0] 26)).heap.size) := by show _ < _; simp
                      have HC25 : Hid (wd.heap.size ≤ wd.heap.size) := HB0.out.size
                      refine hK.out _ (wd.alloc (.cells #[.int .i64 0, .int .i64 0, .slice none 0 0] 26)) (SKof.out _ HB25.out) (fun hHeld => ?_)
                      clear hK K
                      (try simp only [Act.put, List.setIfInBounds_toArray, List.set_cons_zero, List.set_cons_succ])
                      generalize hg25 : wd.alloc (.cells #[.int .i64 0, .int .i64 0, .slice none 0 0] 26) = w25 at *
                      clear hg25
                      refine wpAnyH_ready (rs := [12]) (by kernel_rfl) (by simp) ?_
                      refine AllReadyH.cons (o := { dst := some 154, op := Op.call { callee := Callee.value (Operand.func 13), args := #[Operand.tmp 150, Operand.tmp 151, Operand.tmp 152, Operand.tmp 153], argTypes := #[2, 24, 24, 2] }, type := 24, pos := "laws.go:646", after := #[{ on := 8, ground := Ground.data }, { on := 9, ground := Ground.data }, { on := 10, ground := Ground.data }, { on := 11, ground := Ground.data }], guard := none }) rfl (fun K hK => ?_) AllReadyH.nil
                      go_simp
                      (with_reducible refine (cJ w25 ((HSd.out.next HB25.out).nthO 2 rfl).px ((HSd.out.next HB25.out).nthO 1 rfl).px).mono ?_)
                      rintro e w26 ⟨aj, cj, bj, rfl, hoj, -, hbj⟩
                      dsimp only
                      have HB26 : Hid (Below wd.heap.size wd w26) := bnext HB25.out (Nat.le_refl _) hbj
                      have HJ26 := hide hoj.px
                      have HE26 := hide (HE25.out.below hbj HT25.out)
                      have HT26 : Hid (wd.heap.size < w26.heap.size) := Nat.lt_of_lt_of_le HT25.out hbj.size
                      clear hoj hbj
                      refine hK.out _ w26 (SKof.out _ HB26.out) (fun hHeld => ?_)
                      clear hK K
                      (try simp only [Act.put, List.setIfInBounds_toArray, List.set_cons_zero, List.set_cons_succ])
                      refine wpAnyH_ready (rs := [13]) (by kernel_rfl) (by simp) ?_
                      refine AllReadyH.cons (o := { dst := some 155, op := Op.call { callee := Callee.value (Operand.func 11), args := #[Operand.tmp 143, Operand.tmp 145, Operand.tmp 154], argTypes := #[2, 2, 24] }, type := 30, pos := "laws.go:646", after := #[{ on := 1, ground := Ground.data }, { on := 3, ground := Ground.data }, { on := 12, ground := Ground.data }, { on := 12, ground := Ground.chain }], guard := none }) rfl (fun K hK => ?_) AllReadyH.nil
                      go_simp
                      (with_reducible refine (cF aj cj w26 HJ26.out).mono ?_)
                      rintro e w27 ⟨a9, c9, b9, rfl, ho9, h9, hb9⟩
                      dsimp only
                      have HB27 : Hid (Below wd.heap.size wd w27) := bnext HB26.out (Nat.le_refl _) hb9
                      have HO27 := hide ho9
                      have HG9 : Hid (w26.heap.size ≤ b9) := h9.elim (fun h => absurd h (by omega)) id
                      have HG8 : Hid (wd.heap.size ≤ b9) := Nat.le_trans HB26.out.size HG9.out
                      have HE27 := hide (HE26.out.below hb9 HT26.out)
                      have HT27 : Hid (wd.heap.size < w27.heap.size) := Nat.lt_of_lt_of_le HT26.out hb9.size
                      have HN27 : Hid (¬ wd.heap.size = b9) := Nat.ne_of_lt (Nat.lt_of_lt_of_le HT26.out HG9.out)
                      clear ho9 h9 hb9
                      refine hK.out _ w27 (SKof.out _ HB27.out) (fun hHeld => ?_)
                      clear hK K
                      (try simp only [Act.put, List.setIfInBounds_toArray, List.set_cons_zero, List.set_cons_succ])
                      refine wpAnyH_take (i := 14) (oi := { dst := some 141, op := Op.move (Operand.tmp 155), type := 30, pos := "laws.go:646", after := #[{ on := 13, ground := Ground.data }], guard := none }) (v := ?_) rfl (by kernel_rfl) (by kernel_rfl) (by kernel_rfl) (fun _ _ _ h => h) (Or.inl ⟨by rfl, ?hy42⟩) (by assumption) ?rest42
                      case hy42 => (intro w' hSw; (try dsimp only at hSw); go_simp; try with_reducible rfl)
                      (try simp only [Act.put, List.setIfInBounds_toArray, List.set_cons_zero, List.set_cons_succ])
                      refine wpAnyH_take (i := 15) (oi := { dst := some 156, op := Op.extract (Operand.tmp 141) 0, type := 26, pos := "laws.go:646", after := #[{ on := 14, ground := Ground.data }], guard := none }) (v := ?_) rfl (by kernel_rfl) (by kernel_rfl) (by kernel_rfl) (fun _ _ _ h => h) (Or.inl ⟨by rfl, ?hy43⟩) (by assumption) ?rest43
                      case hy43 => (intro w' hSw; (try dsimp only at hSw); go_simp; try with_reducible rfl)
                      (try simp only [Act.put, List.setIfInBounds_toArray, List.set_cons_zero, List.set_cons_succ])
                      refine wpAnyH_take (i := 16) (oi := { dst := some 157, op := Op.extract (Operand.tmp 141) 1, type := 4, pos := "laws.go:646", after := #[{ on := 14, ground := Ground.data }, { on := 18, ground := Ground.gcOnly Departure.lateStores }], guard := none }) (v := ?_) rfl (by kernel_rfl) (by kernel_rfl) (by kernel_rfl) (fun _ _ _ h => h) (Or.inl ⟨by rfl, ?hy44⟩) (by assumption) ?rest44
                      case hy44 => (intro w' hSw; (try dsimp only at hSw); go_simp; try with_reducible rfl)
                      (try simp only [Act.put, List.setIfInBounds_toArray, List.set_cons_zero, List.set_cons_succ])
                      refine wpAnyH_ready (rs := [18]) (by kernel_rfl) (by simp) ?_
                      refine AllReadyH.cons (o := { dst := none, op := Op.store 26 (Operand.tmp 19) (Operand.tmp 156), type := 0, pos := "laws.go:646", after := #[{ on := 17, ground := Ground.data }, { on := 15, ground := Ground.data }, { on := 13, ground := Ground.chain }, { on := 0, ground := Ground.phase }, { on := 1, ground := Ground.phase }, { on := 2, ground := Ground.phase }, { on := 3, ground := Ground.phase }, { on := 4, ground := Ground.phase }, { on := 5, ground := Ground.phase }, { on := 6, ground := Ground.phase }, { on := 7, ground := Ground.phase }, { on := 8, ground := Ground.phase }, { on := 9, ground := Ground.phase }, { on := 10, ground := Ground.phase }, { on := 11, ground := Ground.phase }, { on := 12, ground := Ground.phase }, { on := 13, ground := Ground.phase }, { on := 14, ground := Ground.phase }, { on := 15, ground := Ground.phase }, { on := 16, ground := Ground.textOnly Departure.lateStores }, { on := 17, ground := Ground.phase }], guard := none }) rfl (fun K hK => ?_) AllReadyH.nil
                      have HB28 : Hid (Below wd.heap.size wd (((w27.setCell ⟨wd.heap.size, 0, none⟩ (.int .i64 W)).setCell ⟨wd.heap.size, 1, none⟩ (.int .i64 H)).setCell ⟨wd.heap.size, 2, none⟩ (.slice a9 k c9))) := below_set3' HB27.out HC25.out
                      have HX28 : Hid (Bx wd.heap.size [.int .i64 W, .int .i64 H, .slice a9 k c9] (((w27.setCell ⟨wd.heap.size, 0, none⟩ (.int .i64 W)).setCell ⟨wd.heap.size, 1, none⟩ (.int .i64 H)).setCell ⟨wd.heap.size, 2, none⟩ (.slice a9 k c9))) := (((HE27.out.set 0 (.int .i64 W)).set 1 (.int .i64 H)).set 2 (.slice a9 k c9))
                      have HO28 := hide (HO27.out.set3 (X := wd.heap.size) (.inr HN27.out) (.int .i64 W) (.int .i64 H) (.slice a9 k c9))
                      have HT28 : Hid (wd.heap.size < (((w27.setCell ⟨wd.heap.size, 0, none⟩ (.int .i64 W)).setCell ⟨wd.heap.size, 1, none⟩ (.int .i64 H)).setCell ⟨wd.heap.size, 2, none⟩ (.slice a9 k c9)).heap.size) := by show _ < _; simpa using HT27.out
                      obtain ⟨z0, y0⟩ := HE27.out 0 _ rfl
                      obtain ⟨z1, y1⟩ := HE27.out 1 _ rfl
                      obtain ⟨z2, y2⟩ := HE27.out 2 _ rfl
                      go_simp
                      refine hK.out _ (((w27.setCell ⟨wd.heap.size, 0, none⟩ (.int .i64 W)).setCell ⟨wd.heap.size, 1, none⟩ (.int .i64 H)).setCell ⟨wd.heap.size, 2, none⟩ (.slice a9 k c9)) (SKof.out _ HB28.out) (fun hHeld => ?_)
                      clear hK K
                      (try simp only [Act.put, List.setIfInBounds_toArray, List.set_cons_zero, List.set_cons_succ])
                      clear z0 y0 z1 y1 z2 y2
                      refine wpAnyH_take (i := 19) (oi := { dst := some 20, op := Op.assign (Operand.tmp 157), type := 4, pos := "laws.go:646", after := #[{ on := 16, ground := Ground.data }, { on := 18, ground := Ground.chain }, { on := 0, ground := Ground.phase }, { on := 1, ground := Ground.phase }, { on := 2, ground := Ground.phase }, { on := 3, ground := Ground.phase }, { on := 4, ground := Ground.phase }, { on := 5, ground := Ground.phase }, { on := 6, ground := Ground.phase }, { on := 7, ground := Ground.phase }, { on := 8, ground := Ground.phase }, { on := 9, ground := Ground.phase }, { on := 10, ground := Ground.phase }, { on := 11, ground := Ground.phase }, { on := 12, ground := Ground.phase }, { on := 13, ground := Ground.phase }, { on := 14, ground := Ground.phase }, { on := 15, ground := Ground.phase }, { on := 16, ground := Ground.phase }, { on := 17, ground := Ground.phase }, { on := 18, ground := Ground.phase }], guard := none }) (v := ?_) rfl (by kernel_rfl) (by kernel_rfl) (by kernel_rfl) (fun _ _ _ h => h) (Or.inl ⟨by rfl, ?hy45⟩) (by assumption) ?rest45
                      case hy45 => (intro w' hSw; (try dsimp only at hSw); go_simp; try with_reducible rfl)
                      (try simp only [Act.put, List.setIfInBounds_toArray, List.set_cons_zero, List.set_cons_succ])
                      refine wpAnyH_done (by kernel_rfl) ?_ _
                      have HSf := hide (((HSd.out.own HB28.out HO28.out.v (.inr HG8.out)).boxAt HX28.out (Nat.le_trans HSd.out.below.size HC25.out) HT28.out (by
                        have hge := HC25.out
                        have hnb := HN27.out
                        exact boxNew HSd.out hge hnb)))
                      go_wp2_with fail
                      go_meet
                      exact ⟨_, a9, c9, b9, rfl, rfl, HSf.out⟩
                  case rest =>
                    obtain ⟨c8, a9, c9, b9, rfl, rfl, hS⟩ := hcut
                    have HS := hide hS
                    clear hS HSm cJ cF
                    obtain ⟨i0, i1, i2⟩ := HS.out.im3 0 rfl
                    obtain ⟨l0, l1, l2⟩ := HS.out.im3 1 rfl
                    have hpx : Px a9 k (mixF (fun j => jpx o (f j) (hc j)) f k) wc := px_congr (HS.out.nthO 0 rfl).px (fun j hj => by
                      have h1 := HRJ.out.bit j hj
                      rw [HRR.out] at h1
                      rw [h1, HJF.out]
                      unfold jruF mixF
                      rw [if_pos hj]
                      have h2 := (runs_are HBIT.out).bit j hj
                      rw [HR.out] at h2
                      have h3 := (runs_are HOP.out).bit j hj
                      rw [h2, h3])
                    have cS := sameImage_any W H a9 (some ⟨b10, 0, none⟩) k c9 c10 _ (by omega) _ hpx (HS.out.nthO 1 rfl).px
                    clear hpx
                    go_wp2_with fail
                    refine cS.mono ?_
                    rintro e w21 ⟨rfl, hb21⟩
                    have HS21 := hide ((HS.out.next hb21).sub (L' := [(X3, [.int .i64 W, .int .i64 H, .slice (some ⟨b4, 0, none⟩) k c4]), (X2, [.int .i64 W2, .int .i64 H2, .slice x2 m2 c2]), (X, [.int .i64 W, .int .i64 H, .slice x k c])]) (O' := [(a7, b7, rcnt hc k, fun q => .int .i64 (rval hc k q)), (some ⟨b6, 0, none⟩, b6, R, fun q => .int .i64 (rval f k q)), (some ⟨b4, 0, none⟩, b4, k, fun q => .int .i64 (hc q)), (x2, bb, m2, fun q => .int .i64 (g q)), (x, b, k, fun q => .int .i64 (f q))]) (List.Sublist.cons _ (List.Sublist.cons _ (List.Sublist.refl _))) (List.Sublist.cons _ (List.Sublist.cons _ (List.Sublist.refl _))))
                    clear cS hb21 HS i0 i1 i2 l0 l1 l2
                    go_wp2_with fail
                    go_roundw
                    case rel => exact ⟨o + 1, by omega, by omega, by go_num, HS21.out⟩
                    case measure => simp [intOf]; omega
            · obtain rfl : o = 4 := by omega
              have HB := hide HS.out.below
              clear HS
              go_wp2_with fail
              go_ret
              exact ⟨rfl, HB.out⟩

end Go.Proofs.Ytipkfaajngabmaa

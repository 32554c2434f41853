/- FnLabels, walked. -/
import Derived.Test.YtfaponkmmiiehaaLbj
import Derived.Test.YtfaponkmmiiehaaRnl
import Derived.Test.YtfaponkmmiiehaaDml
import Derived.Test.YtfaponkmmiiehaaCpy
import Derived.Test.YtfaponkmmiiehaaRwb
import Derived.Deep.RegionLaw
import Derived.Deep.AppendLies
namespace Go.Proofs.Ytfaponkmmiiehaa
open Go.RowKit

/-- a label stays -/
theorem lb_same (n : Nat) (f : Nat → Int) (nb : Nat → List Int) (k q : Nat) (h : (lb n f nb k).1 q ≠ 0) : (lb n f nb (k + 1)).1 q = (lb n f nb k).1 q := by
  rw [lb]
  split
  · next hk =>
    simp only
    rw [if_neg (fun hr => h (hr.free hk).2.2)]
  · rfl
theorem lb_stay (n : Nat) (f : Nat → Int) (nb : Nat → List Int) (k q : Nat) (h : (lb n f nb k).1 q ≠ 0) : ∀ m, (lb n f nb (k + m)).1 q = (lb n f nb k).1 q
  | 0 => rfl
  | m + 1 => by
    have ih := lb_stay n f nb k q h m
    rw [← Nat.add_assoc, lb_same _ _ _ _ _ (by rw [ih]; exact h), ih]
theorem lb_own (n : Nat) (f : Nat → Int) (nb : Nat → List Int) (k : Nat) (h : Fre n f (lb n f nb k).1 k) : (lb n f nb (k + 1)).1 k = (lb n f nb k).2 + 1 := by
  rw [lb, if_pos h]
  simp only
  rw [if_pos Rch.base]
theorem labV_at {W H : Int} {n : Nat} {f : Nat → Int} {k q : Nat} (hk : k ≤ n) (h : (lb n f (nbs W H besF) k).1 q ≠ 0) : labV W H n f q = (lb n f (nbs W H besF) k).1 q := by
  have := lb_stay n f (nbs W H besF) k q h (n - k)
  rw [Nat.add_sub_cancel' hk] at this
  exact this
def besA' (W k : Int) : List Int := if 0 < k / W then [k - W] else []
theorem besA'_eq {W : Int} {k : Nat} (hW : 1 ≤ W) : besA' W k = besA W k := by
  have h5 : 1 ≤ (k : Int) / W ↔ W ≤ (k : Int) := by rw [Int.le_ediv_iff_mul_le (by omega)]; omega
  unfold besA' besA
  refine if_list ?_ (fun _ => rfl)
  rw [← h5]; omega
theorem besQ_len (W H k : Int) : (besB W k).length + (besC W k).length + (besA' W k).length + (besD W H k).length ≤ 4 := by
  unfold besB besC besA' besD
  repeat' split
  all_goals simp
theorem besQ_mem {W H : Int} {k : Nat} (hW : 1 ≤ W) (x : Int) : x ∈ besB W k ++ besC W k ++ besA' W k ++ besD W H k ↔ x ∈ besL W H k := by
  rw [besA'_eq hW]
  unfold besL
  simp only [List.mem_append]
  constructor <;> intro h <;> rcases h with ((h | h) | h) | h <;> simp [h]
theorem cell_up' {w w' : World} {x : Addr} {v : Value} (hb : Below w.heap.size w w') (h : w.cell? x = some v) : w'.cell? x = some v := (hb.cell (World.block_lt_of_cell? w x h)).trans h
theorem below_size {B : Nat} {w w' : World} (h : Below B w w') (hB : w.heap.size = B) : B ≤ w'.heap.size := by rw [← hB]; exact h.size
theorem blocks_fn2 {L : List BoxT} {O : List OwnT} {a : Option Addr} {b n x : Nat} {s s' : Nat → Value} (h : x ∈ blocks L ((a, b, n, s) :: O)) : x ∈ blocks L ((a, b, n, s') :: O) := by
  unfold blocks at h ⊢
  by_cases h0 : n = 0
  · simp [h0] at h ⊢; exact h
  · simp [h0] at h ⊢; exact h
theorem OwV.rowS {b n : Nat} {s : Nat → Int} {w : World} (h : OwV (some ⟨b, 0, none⟩) b n (fun q => .int .i64 (s q)) w) (hn : 0 < n) : Row b n s w := by
  rcases h with h0 | ⟨-, h0⟩
  · omega
  · exact h0

set_option maxRecDepth 100000 in
set_option maxHeartbeats 8000000 in
theorem fnLabels_walk (a : Option Addr) (len cap : Nat) (w : World) (h : Bytes a len w) :
    Calls Try.prog 3 #[.slice a len cap] w fun e w' => e = .returned (.bool true) ∧ Below w.heap.size w w' := by
  have cB := big_any a len cap w
  have cD := drawLabel_any a len cap w h
  clear h
  by_cases hbig : 1048576 < len
  · rw [decide_eq_true hbig] at cB
    clear cD
    go_enter Try.func3, Try.ntmps3
    go_wp2_with fail
    refine cB.mono ?_
    rintro e w1 ⟨rfl, rfl⟩
    clear cB
    go_wp2_with fail
    go_ret
    exact ⟨rfl, Below.refl _ _⟩
  rw [decide_eq_false hbig] at cB
  clear hbig
  go_enter Try.func3, Try.ntmps3
  go_wp2_with fail
  refine cB.mono ?_
  rintro e w0 ⟨rfl, rfl⟩
  clear cB
  go_wp2_with fail
  refine cD.mono ?_
  rintro e w1 ⟨W, H, x, b, n, c, f, rfl, hm, ho, hb1, hbl⟩
  have HS1 := hide ((St.start w0).own hbl ho.v hb1)
  have HS2 := hide (HS1.out.box [.int .i64 W, .int .i64 H, .slice x n c] 26)
  clear cD ho hb1 hbl HS1
  go_upto_region 4 with fail
  generalize hw2 : w1.alloc (.cells #[.int .i64 W, .int .i64 H, .slice x n c] 26) = w2 at *
  have HS2' : Hid (St w0 [(w1.heap.size, [.int .i64 W, .int .i64 H, .slice x n c])] [(x, b, n, fun k => .int .i64 (f k))] w2) := HS2.out
  clear HS2 hw2
  generalize hX : w1.heap.size = X at *
  clear hX
  obtain ⟨i0, i1, i2⟩ := HS2'.out.im3 0 rfl
  have cR := specRunsOf_any W H x n c f (by omega) _ (HS2'.out.nthO 0 rfl).px
  cases hmb : maskB W H n f with
  | false =>
    have hr : rofN W H n f = 0 := by unfold rofN; rw [hmb]; rfl
    rw [hr] at cR
    go_wp2_with fail
    refine cR.mono ?_
    rintro e w3 ⟨a3, c3, b3, rfl, -, -, hb3⟩
    have HB := hide (HS2'.out.next hb3).below
    clear cR hb3 HS2' i0 i1 i2 hmb hr
    go_wp2_with fail
    go_ret
    exact ⟨rfl, HB.out⟩
  | true =>
    obtain ⟨-, hWW, hHH, hn, hn1, hn4, hbit⟩ := maskB_okL hmb
    have hr : 0 < rofN W H n f := by unfold rofN; rw [hmb]; have := (rcnt_bd f n).1; rw [if_pos rfl]; omega
    generalize rofN W H n f = R at *
    have hr2 : (((R : Nat) : Int) == 0) = false := by simp; omega
    go_wp2_with fail
    refine cR.mono ?_
    rintro e w3 ⟨a3, c3, b3, rfl, -, -, hb3⟩
    have HS3 := hide (HS2'.out.next hb3)
    clear cR hb3 HS2' i0 i1 i2
    obtain ⟨i0, i1, i2⟩ := HS3.out.im3 0 rfl
    have cC := copyImage_any W H x n c f (by omega) hn1 _ (HS3.out.nthO 0 rfl).px
    go_wp2_with fail
    refine cC.mono ?_
    rintro e w4 ⟨b4, c4, rfl, hr4, h4, hb4⟩
    have HS4 := hide (HS3.out.own hb4 (Ow.of_row hr4).v (.inr h4))
    clear cC hr4 h4 hb4 HS3 i0 i1 i2
    have cI := implLabel_any W H (some ⟨b4, 0, none⟩) n c4 f (by omega) _ (HS4.out.nthO 0 rfl).px
    rw [hmb] at cI
    simp only [pickI_t, pickN_t] at cI
    go_wp2_with fail
    refine cI.mono ?_
    rintro e w5 ⟨a5, c5, b5, rfl, ho5, h5, hb5⟩
    have HS5 := hide (HS4.out.own hb5 ho5.v h5)
    have HS6 := hide (HS5.out.box [.int .i64 W, .int .i64 H, .slice a5 n c5] 26)
    clear cI ho5 h5 hb5 HS4 HS5
    go_upto_region 7 with fail
    generalize hw6 : w5.alloc (.cells #[.int .i64 W, .int .i64 H, .slice a5 n c5] 26) = w6 at *
    have HS7 : Hid (St w0 [(w5.heap.size, [.int .i64 W, .int .i64 H, .slice a5 n c5]), (X, [.int .i64 W, .int .i64 H, .slice x n c])] [(a5, b5, n, fun k => .int .i64 (labV W H n f k)), (some ⟨b4, 0, none⟩, b4, n, fun k => .int .i64 (f k)), (x, b, n, fun k => .int .i64 (f k))] w6) := HS6.out
    clear HS6 hw6
    generalize hY : w5.heap.size = Y at *
    clear hY
    have hx : x = some ⟨b, 0, none⟩ := by
      rcases HS7.out.nthO 2 rfl with h | ⟨h, -⟩
      · omega
      · exact h
    have ha5 : a5 = some ⟨b5, 0, none⟩ := by
      rcases HS7.out.nthO 0 rfl with h | ⟨h, -⟩
      · omega
      · exact h
    subst hx
    subst ha5
    obtain ⟨i0, i1, i2⟩ := HS7.out.im3 1 rfl
    obtain ⟨j0, j1, j2⟩ := HS7.out.im3 0 rfl
    have qW : (W != W) = false := by simp
    have qH : (H != H) = false := by simp
    have qm : (((n : Nat) : Int) != (n : Int)) = false := by simp
    have hmk := fun w' => make_px n (by omega) w'
    have HN := hide (And.intro hn (And.intro hWW hHH))
    have HBit := hide hbit
    have HBd : Hid (∀ k j, 0 ≤ (lb n f (nbs W H besF) k).1 j ∧ (lb n f (nbs W H besF) k).1 j ≤ k) := lb_bd n f (nbs W H besF)
    have HS8 : Hid (St w0 [(Y, [.int .i64 W, .int .i64 H, .slice (some ⟨b5, 0, none⟩) n c5]), (X, [.int .i64 W, .int .i64 H, .slice (some ⟨b, 0, none⟩) n c])] ((some ⟨w6.heap.size, 0, none⟩, w6.heap.size, n, fun z9 => .int .i64 ((lb n f (nbs W H besF) 0).1 z9)) :: [(some ⟨b5, 0, none⟩, b5, n, fun z9 => .int .i64 (labV W H n f z9)), (some ⟨b4, 0, none⟩, b4, n, fun z9 => .int .i64 (f z9)), (some ⟨b, 0, none⟩, b, n, fun z9 => .int .i64 (f z9))]) (w6.alloc (.cells (madeCells #[.int .i64 0] n) 2))) := HS7.out.own (bnew _ _) (Ow.of_row (row_new n w6)).v (.inr (Nat.le_refl _))
    have hn' : ¬ (n : Int) < 0 := by omega
    clear hn hWW hHH hbit hmb hr hr2
    go_wp2_with fail
    clear qW qH qm i0 i1 i2 j0 j1 j2 HS7 hmk
    generalize w6.alloc (.cells (madeCells #[.int .i64 0] n) 2) = w7 at *
    generalize w6.heap.size = BR at *
    go_loopw [5, 7, 8, 9, 10, 11, 12, 13] (fun cn i _ _ _ _ _ _ wr => ∃ k : Nat, k ≤ n ∧ i = .int .i64 k ∧ cn = .int .i64 (lb n f (nbs W H besF) k).2 ∧ St w0 [(Y, [.int .i64 W, .int .i64 H, .slice (some ⟨b5, 0, none⟩) n c5]), (X, [.int .i64 W, .int .i64 H, .slice (some ⟨b, 0, none⟩) n c])] ((some ⟨BR, 0, none⟩, BR, n, fun z9 => .int .i64 ((lb n f (nbs W H besF) k).1 z9)) :: [(some ⟨b5, 0, none⟩, b5, n, fun z9 => .int .i64 (labV W H n f z9)), (some ⟨b4, 0, none⟩, b4, n, fun z9 => .int .i64 (f z9)), (some ⟨b, 0, none⟩, b, n, fun z9 => .int .i64 (f z9))]) wr) (fun _ i _ _ _ _ _ _ _ => n - (intOf i).toNat)
    case atStart => exact ⟨0, by omega, rfl, rfl, HS8.out⟩
    case round =>
      obtain ⟨k, hk, rfl, rfl, hs⟩ := hrel
      clear HS8
      have HS := hide hs
      clear hs
      obtain ⟨i0, i1, i2⟩ := HS.out.im3 1 rfl
      obtain ⟨j0, j1, j2⟩ := HS.out.im3 0 rfl
      by_cases hlt : k < n
      · have hlt' : (k : Int) < (n : Int) := by omega
        have z0 := ((HS.out.nthO 3 rfl).rowS (by omega) k hlt).1
        have zF := ((HS.out.nthO 1 rfl).rowS (by omega) k hlt).1
        obtain ⟨y0, fr0⟩ := (HS.out.rowO (by omega)) k hlt
        have hcnt := lb_cnt n f (nbs W H besF) k
        have HN1 : Hid (∀ A, Fre n f (lb n f (nbs W H besF) k).1 k → Fd (Fre n f (lb n f (nbs W H besF) k).1) (nbs W H besF) k A [] → (lb n f (nbs W H besF) (k + 1)).1 = lbA (lb n f (nbs W H besF) k).1 ((lb n f (nbs W H besF) k).2 + 1) A ∧ (lb n f (nbs W H besF) (k + 1)).2 = (lb n f (nbs W H besF) k).2 + 1) := fun A h1 h2 => h2.done h1
        have HN0 : Hid (¬ Fre n f (lb n f (nbs W H besF) k).1 k → lb n f (nbs W H besF) (k + 1) = lb n f (nbs W H besF) k) := fun h => lb_pass h
        have hbd := HBd.out k
        have hF1 : (lb n f (nbs W H besF) k).1 k ≠ 0 → labV W H n f k = (lb n f (nbs W H besF) k).1 k := fun h => labV_at (by omega) h
        have hF2 : Fre n f (lb n f (nbs W H besF) k).1 k → labV W H n f k = (lb n f (nbs W H besF) k).2 + 1 := fun h => by
          have e := lb_own n f (nbs W H besF) k h
          rw [labV_at (k := k + 1) (by omega) (by rw [e]; omega), e]
        have hF0 : f k = 0 → labV W H n f k = 0 := fun h => lb_zero n f _ n k (by omega)
        have hF9 : f k = 1 → labV W H n f k ≠ 0 := fun h => lb_done n f _ n k hlt hlt h
        have hlz : f k = 0 → (lb n f (nbs W H besF) k).1 k = 0 := fun h => lb_zero n f _ k k (by omega)
        obtain ⟨⟨l, c0⟩, hlc⟩ : ∃ P, lb n f (nbs W H besF) k = P := ⟨_, rfl⟩
        rw [hlc] at HS y0 hcnt HN1 HN0 hbd hF1 hF2 hlz ⊢
        clear hlc
        dsimp only at *
        have hbk := HBit.out k hlt
        have HL0 : Hid (∀ q, 0 ≤ l q) := fun q => (hbd q).1
        have hl0 := hbd k
        obtain ⟨wo, hwo⟩ : ∃ wo, wo = wr := ⟨_, rfl⟩
        subst hwo
        have SK : Nonempty (Up wo) := up_ne wo
        have r1 := fun p : Up wo => p.cell i2
        have r2 := fun p : Up wo => p.cell j2
        have r3 := fun p : Up wo => p.cell z0
        have r4 := fun p : Up wo => p.cell zF
        have r5 := fun p : Up wo => p.cell y0
        by_cases hf0 : f k = 0
        · have e1 := hF0 hf0
          have HE := hide (HN0.out (fun h => by have := h.2.1; omega))
          rw [hf0] at r3
          rw [e1] at r4
          clear hF0 hF1 hF2 hF9 hbk hlz HN0 HN1 hcnt hbd
          go_upto_region 14 with fail
          refine region_up (by kernel_rfl) (by kernel_rfl) ?_
          repeat (go_big_quiet_step (exact rfl))
          refine wpQuiet_nil ?_
          intro _ hw2
          obtain ⟨pq, hw3⟩ := hw2
          subst hw3
          have HS2 := hide (HS.out.next pq.below)
          have z2 := pq.cell z0
          rw [hf0] at z2
          obtain ⟨i0, i1, i2⟩ := HS2.out.im3 1 rfl
          clear r1 r2 r3 r4 r5 SK j0 j1 j2
          generalize pq.w = w2 at *
          clear z0 zF y0 fr0
          go_upto_region 17 with fail
          have SK : Nonempty (Up w2) := up_ne w2
          have r1 := fun p : Up w2 => p.cell i2
          have r3 := fun p : Up w2 => p.cell z2
          refine region_up (by kernel_rfl) (by kernel_rfl) ?_
          repeat (go_big_quiet_step (exact rfl))
          refine wpQuiet_nil ?_
          intro _ hw2
          obtain ⟨pq, hw3⟩ := hw2
          subst hw3
          have HS3 := hide (HS2.out.next pq.below)
          clear r1 r3 SK i0 i1 i2 z2 HS2
          generalize pq.w = w3 at *
          go_wp2_with fail
          exact ⟨⟨k + 1, by omega, rfl, by rw [HE.out], by rw [HE.out]; exact HS3.out⟩, by simp [intOf]; omega⟩
        have hf1 : f k = 1 := by rcases hbk with h | h; (exact absurd h hf0); (exact h)
        have hFn := hF9 hf1
        have qF : (labV W H n f k == 0) = false := by simp [hFn]
        rw [hf1] at r3
        by_cases hl1 : l k = 0
        case neg =>
          have e1 := hF1 hl1
          have HE := hide (HN0.out (fun h => hl1 h.2.2))
          rw [e1] at r4 qF zF
          have ql : 0 < l k := by omega
          clear hF0 hF1 hF2 hF9 hbk hlz HN0 HN1 hcnt hbd hFn e1
          generalize l k = y at *
          go_upto_region 14 with fail
          refine region_up (by kernel_rfl) (by kernel_rfl) ?_
          repeat (go_big_quiet_step (exact rfl))
          refine wpQuiet_nil ?_
          intro _ hw2
          obtain ⟨pq, hw3⟩ := hw2
          subst hw3
          have HS2 := hide (HS.out.next pq.below)
          have z2 := pq.cell z0
          have zF2 := pq.cell zF
          have y2 := pq.cell y0
          rw [hf1] at z2
          obtain ⟨i0, i1, i2⟩ := HS2.out.im3 1 rfl
          obtain ⟨j0, j1, j2⟩ := HS2.out.im3 0 rfl
          clear r1 r2 r3 r4 r5 SK
          generalize pq.w = w2 at *
          clear z0 zF y0 fr0
          have SK : Nonempty (Up w2) := up_ne w2
          have r1 := fun p : Up w2 => p.cell i2
          have r2 := fun p : Up w2 => p.cell j2
          have r3 := fun p : Up w2 => p.cell z2
          have r4 := fun p : Up w2 => p.cell zF2
          have r5 := fun p : Up w2 => p.cell y2
          go_upto_region 17 with fail
          have qy : (y != y) = false := by simp
          refine region_up (by kernel_rfl) (by kernel_rfl) ?_
          repeat (go_big_quiet_step (exact rfl))
          refine wpQuiet_nil ?_
          intro _ hw2
          obtain ⟨pq, hw3⟩ := hw2
          subst hw3
          have HS3 := hide (HS2.out.next pq.below)
          clear r1 r2 r3 r4 r5 SK i0 i1 i2 j0 j1 j2 z2 zF2 y2 HS2
          generalize pq.w = w3 at *
          go_wp2_with fail
          exact ⟨⟨k + 1, by omega, rfl, by rw [HE.out], by rw [HE.out]; exact HS3.out⟩, by simp [intOf]; omega⟩
        have HK := hide (show Fre n f l k from ⟨hlt, hf1, hl1⟩)
        have eF := hF2 HK.out
        rw [eF] at r4 zF qF
        rw [hl1] at r5
        have hw1 : IntKind.i64.wrap (c0 + 1) = c0 + 1 := by rw [IntKind.wrap_i64]; omega
        have hc1 : 1 ≤ c0 + 1 := by omega
        have HC5 : Hid (c0 + 1 ≤ 5000) := by show _ ≤ _; omega
        have qcc : (c0 + 1 != c0 + 1) = false := by simp
        clear hF0 hF1 hF2 hF9 hbk hlz HN0 hbd hFn eF
        generalize hc : c0 + 1 = C at *
        have HCc := hide hc
        have hw2 : IntKind.i64.wrap (c0 + 1) = C := by rw [hc]; exact hw1
        clear hw1
        clear hc hcnt
        go_upto_region 14 with fail
        refine region_up (by kernel_rfl) (by kernel_rfl) ?_
        repeat (go_big_quiet_step (exact rfl))
        refine wpQuiet_nil ?_
        intro _ hw2
        obtain ⟨pq, hw3⟩ := hw2
        subst hw3
        have HSa := hide (HS.out.next pq.below)
        have z2 := pq.cell z0
        have zF2 := pq.cell zF
        have y2 := pq.cell y0
        have fr2 := (pq.below.frozen (p := ⟨BR, k, none⟩) (World.block_lt_of_cell? wo _ y0)).trans fr0
        rw [hf1] at z2
        rw [hl1] at y2
        clear r1 r2 r3 r4 r5 SK i0 i1 i2 j0 j1 j2 z0 zF y0 fr0 HS
        generalize pq.w = w2 at *
        obtain ⟨i0, i1, i2⟩ := HSa.out.im3 1 rfl
        obtain ⟨j0, j1, j2⟩ := HSa.out.im3 0 rfl
        have hB1 : BR < w2.heap.size := (HSa.out.rowO (by omega)).lt (by omega)
        have HO5 : Hid (((w2.setCell ⟨BR, k, none⟩ (.int .i64 C)).alloc (.cells #[.int .i64 k] 2)).ownsRow w2.heap.size 2 1 (.slice (some ⟨w2.heap.size, 0, none⟩) 1 1) 1 (ints (cs [k]))) := by
          have h := own_one (w2.setCell ⟨BR, k, none⟩ (.int .i64 C)) k
          rw [show (w2.setCell ⟨BR, k, none⟩ (.int .i64 C)).heap.size = w2.heap.size by simp] at h
          exact h
        have HS5 : Hid (St w0 [(Y, [.int .i64 W, .int .i64 H, .slice (some ⟨b5, 0, none⟩) n c5]), (X, [.int .i64 W, .int .i64 H, .slice (some ⟨b, 0, none⟩) n c])] ((some ⟨BR, 0, none⟩, BR, n, fun z9 => .int .i64 (lbA l C [k] z9)) :: [(some ⟨b5, 0, none⟩, b5, n, fun z9 => .int .i64 (labV W H n f z9)), (some ⟨b4, 0, none⟩, b4, n, fun z9 => .int .i64 (f z9)), (some ⟨b, 0, none⟩, b, n, fun z9 => .int .i64 (f z9))]) ((w2.setCell ⟨BR, k, none⟩ (.int .i64 C)).alloc (.cells #[.int .i64 k] 2))) := by
          have h := (HSa.out.upd hlt C).next (bnew (w2.setCell ⟨BR, k, none⟩ (.int .i64 C)) (.cells #[.int .i64 k] 2))
          have e := lbA_snoc l C [] k
          rw [lbA_nil] at e
          rw [e] at h
          exact h
        have HLt : Hid (∀ s : Nat → Value, ∀ b' ∈ blocks [(Y, [.int .i64 W, .int .i64 H, .slice (some ⟨b5, 0, none⟩) n c5]), (X, [.int .i64 W, .int .i64 H, .slice (some ⟨b, 0, none⟩) n c])] ((some ⟨BR, 0, none⟩, BR, n, s) :: [(some ⟨b5, 0, none⟩, b5, n, fun z9 => .int .i64 (labV W H n f z9)), (some ⟨b4, 0, none⟩, b4, n, fun z9 => .int .i64 (f z9)), (some ⟨b, 0, none⟩, b, n, fun z9 => .int .i64 (f z9))]), b' < w2.heap.size) := fun s b' hb => (HSa.out.lt b' (blocks_fn2 hb)).2
        have HB1 : Hid (BR < w2.heap.size) := hB1
        have HG0 : Hid (w2.heap.size ≤ ((w2.setCell ⟨BR, k, none⟩ (.int .i64 C)).alloc (.cells #[.int .i64 k] 2)).heap.size) := by show _ ≤ _; simp
        have y0' : (w2.alloc (.cells #[.int .i64 k] 2)).cell? ⟨BR, k, none⟩ = some (.int .i64 0) := ((bnew w2 _).cell (p := ⟨BR, k, none⟩) hB1).trans y2
        have fr0' : (w2.alloc (.cells #[.int .i64 k] 2)).frozen? ⟨BR, k, none⟩ = false := ((bnew w2 _).frozen (p := ⟨BR, k, none⟩) hB1).trans fr2
        have HW0 : Hid (w0.heap.size ≤ w2.heap.size) := HSa.out.below.size
        go_wp2_with fail
        clear y2 y0' fr2 fr0' i0 i1 i2 j0 j1 j2 z2 zF2 hw2 hB1 HSa
        generalize (w2.setCell ⟨BR, k, none⟩ (.int .i64 C)).alloc (.cells #[.int .i64 k] 2) = w9 at *
        generalize (Value.slice (some ⟨w2.heap.size, 0, none⟩) 1 1) = v5 at *
        obtain ⟨G, hG⟩ : ∃ G, w2.heap.size = G := ⟨_, rfl⟩
        rw [hG] at HO5 HLt HG0 HW0 HB1
        clear hG
        go_loopw [8, 9, 10, 11, 12, 13] (fun v i _ _ _ _ wr => ∃ (A : List Nat) (I : Nat), I ≤ A.length ∧ i = .int .i64 I ∧ Fd (Fre n f l) (nbs W H besF) k A (A.drop I) ∧ St w0 [(Y, [.int .i64 W, .int .i64 H, .slice (some ⟨b5, 0, none⟩) n c5]), (X, [.int .i64 W, .int .i64 H, .slice (some ⟨b, 0, none⟩) n c])] ((some ⟨BR, 0, none⟩, BR, n, fun z9 => .int .i64 (lbA l C A z9)) :: [(some ⟨b5, 0, none⟩, b5, n, fun z9 => .int .i64 (labV W H n f z9)), (some ⟨b4, 0, none⟩, b4, n, fun z9 => .int .i64 (f z9)), (some ⟨b, 0, none⟩, b, n, fun z9 => .int .i64 (f z9))]) wr ∧ wr.ownsRow G 2 1 v A.length (ints (cs A)) ∧ G ≤ wr.heap.size) (fun _ i _ _ _ _ _ => n - (intOf i).toNat)
        case atStart => exact ⟨[k], 0, by simp, rfl, Fd.start _ _ _, HS5.out, HO5.out, HG0.out⟩
        case round =>
          obtain ⟨A, I, hI, rfl, hF, hs, ho, hg⟩ := hrel
          clear HS5 HO5 HG0
          have HS := hide hs
          have HO := hide ho
          have HF := hide hF
          have HG := hide hg
          clear hs ho hF hg
          have hAn := (HF.out.len HK.out).1
          by_cases hIlt : I < A.length
          case neg =>
            obtain rfl : I = A.length := by omega
            obtain ⟨av, cv, rfl⟩ := own_form HO.out
            have hF := HF.out
            rw [List.drop_length] at hF
            obtain ⟨e1, e2⟩ := HN1.out A HK.out hF
            have HR : Hid (∃ k' : Nat, k' ≤ n ∧ Value.int .i64 ((k : Int) + 1) = .int .i64 k' ∧ Value.int .i64 C = .int .i64 (lb n f (nbs W H besF) k').2 ∧ St w0 [(Y, [.int .i64 W, .int .i64 H, .slice (some ⟨b5, 0, none⟩) n c5]), (X, [.int .i64 W, .int .i64 H, .slice (some ⟨b, 0, none⟩) n c])] ((some ⟨BR, 0, none⟩, BR, n, fun z9 => .int .i64 ((lb n f (nbs W H besF) k').1 z9)) :: [(some ⟨b5, 0, none⟩, b5, n, fun z9 => .int .i64 (labV W H n f z9)), (some ⟨b4, 0, none⟩, b4, n, fun z9 => .int .i64 (f z9)), (some ⟨b, 0, none⟩, b, n, fun z9 => .int .i64 (f z9))]) wr) := ⟨k + 1, by omega, rfl, by rw [e2], by rw [e1]; exact HS.out⟩
            clear hF e1 e2
            go_wp2_with fail
            exact ⟨HR.out, by simp [intOf]; omega⟩
          have hI' : (I : Int) < (A.length : Int) := by omega
          obtain ⟨p, hp⟩ : ∃ p, A[I]? = some p := ⟨_, List.getElem?_eq_getElem hIlt⟩
          have hdr : A.drop I = p :: A.drop (I + 1) := by rw [List.drop_eq_getElem_cons hIlt, (List.getElem?_eq_some_iff.1 hp).2]
          have hpn : p < n := ((HF.out.len HK.out).2 p (List.mem_of_getElem? hp)).1
          obtain ⟨bv, capv, rfl, hGb, hcell⟩ := own_partsL HO.out (by omega)
          obtain ⟨x0, -⟩ := hcell I hIlt
          rw [cs_at hp] at x0
          obtain ⟨i0, i1, i2⟩ := HS.out.im3 1 rfl
          obtain ⟨e1, ⟨e2, e3⟩, ⟨e4, e5⟩⟩ := HN.out
          have HIn : Hid (∀ q ∈ besB W p ++ besC W p ++ besA' W p ++ besD W H p, 0 ≤ q ∧ q < (n : Int)) := fun q hq => besL_in (H := H) e1 e2 hpn q ((besQ_mem e2 q).1 hq)
          have HPop : Hid (∀ N, flA (Fre n f l) A (besB W p ++ besC W p ++ besA' W p ++ besD W H p) = A ++ N → Fd (Fre n f l) (nbs W H besF) k (A ++ N) ((A ++ N).drop (I + 1))) := fun N hN => by
            rw [List.drop_append_of_le_length (by omega)]
            refine HF.out.pop (p := p) (S' := A.drop (I + 1)) (by rw [hdr]; simp) (fun j hj => by rw [hdr] at hj; exact List.mem_cons.1 hj) (fun j hj => by rw [hdr]; exact List.mem_cons_of_mem _ hj) (L := besB W p ++ besC W p ++ besA' W p ++ besD W H p) (fun x => by rw [nbs_bes e1 e2 hpn]; exact besQ_mem e2 x) (fun x hx => (besL_in e1 e2 hpn x ((besQ_mem e2 x).1 hx)).1) hN
          have HBl : Hid ((besB W p ++ besC W p ++ besA' W p ++ besD W H p).length ≤ 4) := by
            have := besQ_len W H p
            show _ ≤ _
            simp only [List.length_append] at this ⊢
            omega
          have hAI : A.length ≤ 4096 := by omega
          have hI4 : I ≤ 4096 := by omega
          have hp4 : p ≤ 4096 := by omega
          have t1 : (p : Int).tmod W = (p : Int) % W := Int.tmod_eq_emod_of_nonneg (by omega)
          have t2 : (p : Int).tdiv W = (p : Int) / W := Int.tdiv_eq_ediv_of_nonneg (by omega)
          have hk0 : 0 ≤ (p : Int) % W := Int.emod_nonneg _ (by omega)
          have hk1 : (p : Int) % W < W := Int.emod_lt_of_pos _ (by omega)
          have hk2 : 0 ≤ (p : Int) / W := Int.ediv_nonneg (by omega) (by omega)
          have hk3 : (p : Int) / W < H := Int.ediv_lt_of_lt_mul (by omega) (by rw [Int.mul_comm, ← e1]; omega)
          have hW0 : ¬ W = 0 := by omega
          obtain ⟨kx, hkx⟩ : ∃ kx, (p : Int) % W = kx := ⟨_, rfl⟩
          obtain ⟨ky, hky⟩ : ∃ ky, (p : Int) / W = ky := ⟨_, rfl⟩
          have HKX := hide hkx
          have HKY := hide hky
          rw [hkx] at t1 hk0 hk1
          rw [hky] at t2 hk2 hk3
          clear e1 hp hdr hcell hpn hGb hkx hky
          obtain ⟨wp, hwp⟩ : ∃ wp, wp = wr := ⟨_, rfl⟩
          subst hwp
          have SK : Nonempty (Up wp) := up_ne wp
          have r0 := fun p : Up wp => p.cell i0
          have r1 := fun p : Up wp => p.cell x0
          have r2 := fun p : Up wp => p.cell i1
          go_upto_region 27 with fail
          refine region_up (by kernel_rfl) (by kernel_rfl) ?_
          repeat (go_big_quiet_step (exact rfl))
          refine wpQuiet_nil ?_
          intro _ hw2
          obtain ⟨pq, hw3⟩ := hw2
          subst hw3
          have HSb := hide (HS.out.next pq.below)
          have HOb := hide (ownsRow_below' HO.out pq.below)
          have HGb : Hid (G ≤ pq.w.heap.size) := Nat.le_trans HG.out pq.below.size
          have x0 := pq.cell x0
          clear r0 r1 r2 SK i0 i1 i2 HS HO HG
          generalize pq.w = w10 at *
          obtain ⟨i0, i1, i2⟩ := HSb.out.im3 1 rfl
          have SK : Nonempty (Up w10) := up_ne w10
          have r0 := fun p : Up w10 => p.cell i0
          have r1 := fun p : Up w10 => p.cell x0
          go_upto_region 28 with fail
          refine region_up (by kernel_rfl) (by kernel_rfl) ?_
          repeat (go_big_quiet_step (exact rfl))
          refine wpQuiet_nil ?_
          intro _ hw2
          obtain ⟨pq, hw3⟩ := hw2
          subst hw3
          have HS := hide (HSb.out.next pq.below)
          have HO := hide (ownsRow_below' HOb.out pq.below)
          have HG : Hid (G ≤ pq.w.heap.size) := Nat.le_trans HGb.out pq.below.size
          have x0 := pq.cell x0
          clear r0 r1 SK i0 i1 i2 HSb HOb HGb t1 t2
          generalize pq.w = wn at *
          have HX0 : Hid (∀ w' : World, Below wn.heap.size wn w' → w'.cell? ⟨bv, I, none⟩ = some (.int .i64 p)) := fun w' hb => cell_up' hb x0
          obtain ⟨G8, hG8⟩ : ∃ G8, wn.heap.size = G8 := ⟨_, rfl⟩
          have HOn : Hid ((wn.alloc (.cells #[] 2)).ownsRow G8 2 1 (.slice (some ⟨wn.heap.size, 0, none⟩) 0 0) (([] : List Int)).length (ints ([] : List Int))) := by
            rw [← hG8]; exact World.ownsRow_made wn #[] 0 (Nat.le_refl _) (Nat.zero_le _) rfl
          have HBn : Hid (Below G8 wn (wn.alloc (.cells #[] 2))) := by rw [← hG8]; exact bnew _ _
          have HGn : Hid (G8 ≤ (wn.alloc (.cells #[] 2)).heap.size) := below_size HBn.out hG8
          have HG8 := hide hG8
          rw [hG8] at HX0
          have HGG : Hid (G ≤ G8) := by have := HG.out; rw [hG8] at this; exact this
          clear hG8
          go_upto_region 30 with fail
          generalize (Value.slice (some ⟨wn.heap.size, 0, none⟩) 0 0) = vn at *
          generalize wn.alloc (.cells #[] 2) = wk at *
          have HSn := hide (HS.out.next (by rw [HG8.out]; exact HBn.out))
          have HOq := hide (ownsRow_below' HO.out (by rw [HG8.out]; exact HBn.out))
          obtain ⟨i0, i1, i2⟩ := HSn.out.im3 1 rfl
          have x0 := HX0.out wk HBn.out
          have HLL : Hid ((([] : List Int)).length ≤ 4) := by
            skip
            show _ ≤ _
            simp
          go_upto_if 138 with fail
          go_cut [12] (fun s wc => ∃ vn, vn = s ∧ wc.ownsRow G8 2 1 vn (besB W p).length (ints (besB W p)) ∧ Below G8 wn wc ∧ G8 ≤ wc.heap.size)
          case first => as_aux_lemma =>
            by_cases hq : 0 < kx
            · have hq' : 0 < (p : Int) % W := by rw [HKX.out]; exact hq
              have e : besB W p = ([] : List Int) ++ [(p : Int) - 1] := by
                unfold besB
                rw [if_pos hq']; rfl
              have HE := hide e
              clear e hq'
              have hll : (([] : List Int)).length ≤ 1048576 := by have := HLL.out; omega
              have HLL2 := hide hll
              clear hll
              go_wp2_with (refine growL wk rfl _ _ rfl G8 vn 0 [] rfl wn HOn.out HBn.out HGn.out ((p : Int) - 1) rfl HLL2.out ?_)
              intro v1 x1 ho hb hs
              have HO1 := hide ho
              have HB1 := hide hb
              have HG1 : Hid (G8 ≤ x1.heap.size) := Nat.le_trans HGn.out (Nat.le_of_lt hs)
              clear ho hb hs
              go_wp2_with fail
              go_meet
              exact ⟨_, rfl, by rw [HE.out, List.length_append]; exact HO1.out, HB1.out, HG1.out⟩

            · have e : besB W p = ([] : List Int) := by
                unfold besB
                rw [if_neg (by rw [HKX.out]; exact hq)]
              have HE := hide e
              clear e
              go_wp2_with fail
              go_meet
              exact ⟨_, rfl, by rw [HE.out]; exact HOn.out, HBn.out, HGn.out⟩
          case rest =>
          obtain ⟨vn, rfl, hon, hbn, hgn⟩ := hcut
          have HOn := hide hon
          have HBn := hide hbn
          have HGn := hide hgn
          clear hon hbn hgn
          obtain ⟨wk, hwk⟩ : ∃ wk, wk = wc := ⟨_, rfl⟩
          rw [← hwk] at HOn HBn HGn ⊢
          clear hwk
          have HSn := hide (HS.out.next (by rw [HG8.out]; exact HBn.out))
          have HOq := hide (ownsRow_below' HO.out (by rw [HG8.out]; exact HBn.out))
          obtain ⟨i0, i1, i2⟩ := HSn.out.im3 1 rfl
          have x0 := HX0.out wk HBn.out
          have HLL : Hid ((besB W p).length ≤ 4) := by
            have := besQ_len W H p
            show _ ≤ _
            omega
          go_upto_if 151 with fail
          go_cut [12] (fun s wc => ∃ vn, vn = s ∧ wc.ownsRow G8 2 1 vn (besB W p ++ besC W p).length (ints (besB W p ++ besC W p)) ∧ Below G8 wn wc ∧ G8 ≤ wc.heap.size)
          case first => as_aux_lemma =>
            by_cases hq : kx < W - 1
            · have hq' : (p : Int) % W < W - 1 := by rw [HKX.out]; exact hq
              have e : besB W p ++ besC W p = besB W p ++ [(p : Int) + 1] := by
                unfold besC
                rw [if_pos hq']
              have HE := hide e
              clear e hq'
              have hll : (besB W p).length ≤ 1048576 := by have := HLL.out; omega
              have HLL2 := hide hll
              generalize hLL : (besB W p) = LL at *
              clear hll hLL
              go_wp2_with (refine growL wk rfl _ _ rfl G8 vn LL.length LL rfl wn HOn.out HBn.out HGn.out ((p : Int) + 1) rfl HLL2.out ?_)
              intro v1 x1 ho hb hs
              have HO1 := hide ho
              have HB1 := hide hb
              have HG1 : Hid (G8 ≤ x1.heap.size) := Nat.le_trans HGn.out (Nat.le_of_lt hs)
              clear ho hb hs
              go_wp2_with fail
              go_meet
              exact ⟨_, rfl, by rw [HE.out, List.length_append]; exact HO1.out, HB1.out, HG1.out⟩

            · have e : besB W p ++ besC W p = besB W p := by
                unfold besC
                rw [if_neg (by rw [HKX.out]; exact hq)]; simp
              have HE := hide e
              clear e
              go_wp2_with fail
              go_meet
              exact ⟨_, rfl, by rw [HE.out]; exact HOn.out, HBn.out, HGn.out⟩
          case rest =>
          obtain ⟨vn, rfl, hon, hbn, hgn⟩ := hcut
          have HOn := hide hon
          have HBn := hide hbn
          have HGn := hide hgn
          clear hon hbn hgn
          obtain ⟨wk, hwk⟩ : ∃ wk, wk = wc := ⟨_, rfl⟩
          rw [← hwk] at HOn HBn HGn ⊢
          clear hwk
          have HSn := hide (HS.out.next (by rw [HG8.out]; exact HBn.out))
          have HOq := hide (ownsRow_below' HO.out (by rw [HG8.out]; exact HBn.out))
          obtain ⟨i0, i1, i2⟩ := HSn.out.im3 1 rfl
          have x0 := HX0.out wk HBn.out
          have HLL : Hid ((besB W p ++ besC W p).length ≤ 4) := by
            have := besQ_len W H p
            show _ ≤ _
            simp only [List.length_append]; omega
          go_upto_if 161 with fail
          go_cut [12] (fun s wc => ∃ vn, vn = s ∧ wc.ownsRow G8 2 1 vn (besB W p ++ besC W p ++ besA' W p).length (ints (besB W p ++ besC W p ++ besA' W p)) ∧ Below G8 wn wc ∧ G8 ≤ wc.heap.size)
          case first => as_aux_lemma =>
            by_cases hq : 0 < ky
            · have hq' : 0 < (p : Int) / W := by rw [HKY.out]; exact hq
              have e : besB W p ++ besC W p ++ besA' W p = besB W p ++ besC W p ++ [(p : Int) - W] := by
                unfold besA'
                rw [if_pos hq']
              have HE := hide e
              clear e hq'
              obtain ⟨ti, hi1, hi2, hi3, hi4⟩ := info2
              have HI1 := hide hi1
              have hlb8 := HLL.out
              have hG8k := HGn.out
              clear hi1
              generalize hLL : (besB W p ++ besC W p) = LL at *
              have HLLe := hide hLL
              clear hLL
              go_upto_region 35 with fail
              go_region_law ((refine step_append_lies _ (by rfl) _ _ _ (by rfl) G8 2 ti _ 1 8 Try.underlying24 HI1.out hi2 hi3 hi4 rfl (by omega) vn LL.length (ints LL) (by rfl) ((HOn.out.alloc _).drew) ⟨wk.heap.size, 0, none⟩ 1 1 [.int .i64 (IntKind.i64.wrap ((p : Int) - W))] (by rfl) (by rfl) (World.news_of_block (cs := #[.int .i64 (IntKind.i64.wrap ((p : Int) - W))]) (t := 2) (fr := (0, 0)) (heap_alloc_new wk _)) (by simp [Value.oneCell']) (by omega) (by unfold maxLen; omega) (by omega) (by simp; omega) (wk.heap.size + 1) (by simp) ?_; intro gg cap1 w1 hown1 hgrow hat hlt1))
              all_goals
                have hzw : IntKind.i64.wrap ((p : Int) - W) = (p : Int) - W := by rw [IntKind.wrap_i64]; omega
                have ho1 := hown1
                rw [hzw] at ho1
                have HO1 : Hid (w1.ownsRow G8 2 1 (.slice (some ⟨gg, 0, none⟩) (LL.length + 1) cap1) (LL.length + 1) (ints (LL ++ [(p : Int) - W]))) := by rw [ints_append]; exact ho1
                clear ho1 hzw
                have HB1 : Hid (Below G8 wn w1) := ((HBn.out.alloc hG8k _).drew).grown hgrow (by simp [World.drew]; omega) (fun q hq => (HOn.out.lt q hq).1)
                have HG1 : Hid (G8 ≤ w1.heap.size) := Nat.le_trans (by simp [World.drew]; omega) (hgrow.size)
                clear hown1 hgrow hat hlt1
                go_wp2_with fail
                go_meet
                exact ⟨_, rfl, by rw [HE.out, List.length_append]; exact HO1.out, HB1.out, HG1.out⟩

            · have e : besB W p ++ besC W p ++ besA' W p = besB W p ++ besC W p := by
                unfold besA'
                rw [if_neg (by rw [HKY.out]; exact hq)]; simp
              have HE := hide e
              clear e
              go_wp2_with fail
              go_meet
              exact ⟨_, rfl, by rw [HE.out]; exact HOn.out, HBn.out, HGn.out⟩
          case rest =>
          obtain ⟨vn, rfl, hon, hbn, hgn⟩ := hcut
          have HOn := hide hon
          have HBn := hide hbn
          have HGn := hide hgn
          clear hon hbn hgn
          obtain ⟨wk, hwk⟩ : ∃ wk, wk = wc := ⟨_, rfl⟩
          rw [← hwk] at HOn HBn HGn ⊢
          clear hwk
          have HSn := hide (HS.out.next (by rw [HG8.out]; exact HBn.out))
          have HOq := hide (ownsRow_below' HO.out (by rw [HG8.out]; exact HBn.out))
          obtain ⟨i0, i1, i2⟩ := HSn.out.im3 1 rfl
          have x0 := HX0.out wk HBn.out
          have HLL : Hid ((besB W p ++ besC W p ++ besA' W p).length ≤ 4) := by
            have := besQ_len W H p
            show _ ≤ _
            simp only [List.length_append]; omega
          go_upto_if 176 with fail
          go_cut [12] (fun s wc => ∃ vn, vn = s ∧ wc.ownsRow G8 2 1 vn (besB W p ++ besC W p ++ besA' W p ++ besD W H p).length (ints (besB W p ++ besC W p ++ besA' W p ++ besD W H p)) ∧ Below G8 wn wc ∧ G8 ≤ wc.heap.size)
          case first => as_aux_lemma =>
            by_cases hq : ky < H - 1
            · have hq' : (p : Int) / W < H - 1 := by rw [HKY.out]; exact hq
              have e : besB W p ++ besC W p ++ besA' W p ++ besD W H p = besB W p ++ besC W p ++ besA' W p ++ [(p : Int) + W] := by
                unfold besD
                rw [if_pos hq']
              have HE := hide e
              clear e hq'
              obtain ⟨ti, hi1, hi2, hi3, hi4⟩ := info2
              have HI1 := hide hi1
              have hlb8 := HLL.out
              have hG8k := HGn.out
              clear hi1
              generalize hLL : (besB W p ++ besC W p ++ besA' W p) = LL at *
              have HLLe := hide hLL
              clear hLL
              go_upto_region 37 with fail
              go_region_law ((refine step_append_lies _ (by rfl) _ _ _ (by rfl) G8 2 ti _ 1 8 Try.underlying24 HI1.out hi2 hi3 hi4 rfl (by omega) vn LL.length (ints LL) (by rfl) ((HOn.out.alloc _).drew) ⟨wk.heap.size, 0, none⟩ 1 1 [.int .i64 (IntKind.i64.wrap ((p : Int) + W))] (by rfl) (by rfl) (World.news_of_block (cs := #[.int .i64 (IntKind.i64.wrap ((p : Int) + W))]) (t := 2) (fr := (0, 0)) (heap_alloc_new wk _)) (by simp [Value.oneCell']) (by omega) (by unfold maxLen; omega) (by omega) (by simp; omega) (wk.heap.size + 1) (by simp) ?_; intro gg cap1 w1 hown1 hgrow hat hlt1))
              all_goals
                have hzw : IntKind.i64.wrap ((p : Int) + W) = (p : Int) + W := by rw [IntKind.wrap_i64]; omega
                have ho1 := hown1
                rw [hzw] at ho1
                have HO1 : Hid (w1.ownsRow G8 2 1 (.slice (some ⟨gg, 0, none⟩) (LL.length + 1) cap1) (LL.length + 1) (ints (LL ++ [(p : Int) + W]))) := by rw [ints_append]; exact ho1
                clear ho1 hzw
                have HB1 : Hid (Below G8 wn w1) := ((HBn.out.alloc hG8k _).drew).grown hgrow (by simp [World.drew]; omega) (fun q hq => (HOn.out.lt q hq).1)
                have HG1 : Hid (G8 ≤ w1.heap.size) := Nat.le_trans (by simp [World.drew]; omega) (hgrow.size)
                clear hown1 hgrow hat hlt1
                go_wp2_with fail
                go_meet
                exact ⟨_, rfl, by rw [HE.out, List.length_append]; exact HO1.out, HB1.out, HG1.out⟩

            · have e : besB W p ++ besC W p ++ besA' W p ++ besD W H p = besB W p ++ besC W p ++ besA' W p := by
                unfold besD
                rw [if_neg (by rw [HKY.out]; exact hq)]; simp
              have HE := hide e
              clear e
              go_wp2_with fail
              go_meet
              exact ⟨_, rfl, by rw [HE.out]; exact HOn.out, HBn.out, HGn.out⟩
          case rest =>
          obtain ⟨vn, rfl, hon, hbn, hgn⟩ := hcut
          have HOn := hide hon
          have HBn := hide hbn
          have HGn := hide hgn
          clear hon hbn hgn
          obtain ⟨wk, hwk⟩ : ∃ wk, wk = wc := ⟨_, rfl⟩
          rw [← hwk] at HOn HBn HGn ⊢
          clear hwk
          have HSn := hide (HS.out.next (by rw [HG8.out]; exact HBn.out))
          have HOq := hide (ownsRow_below' HO.out (by rw [HG8.out]; exact HBn.out))
          obtain ⟨i0, i1, i2⟩ := HSn.out.im3 1 rfl
          have x0 := HX0.out wk HBn.out
          have HSn2 := HSn
          have HA8 : Hid (Apart vn (.slice (some ⟨bv, 0, none⟩) A.length capv)) := fun b' hb hb' => by
            have h1 := owns_ge HOn.out b' hb
            have h2 := owns_lt HO.out b' hb'
            rw [HG8.out] at h2
            omega
          have HG6 : Hid (G ≤ wk.heap.size) := Nat.le_trans HGG.out HGn.out
          obtain ⟨N, hN⟩ := flA_ext (Fre n f l) (besB W p ++ besC W p ++ besA' W p ++ besD W H p) A
          have HFN := hide (HPop.out N hN)
          have HNN := hide hN
          clear hN HPop HS HO x0 i0 i1 i2 HX0
          generalize hLL : (besB W p ++ besC W p ++ besA' W p ++ besD W H p) = L at *
          clear hLL
          go_wp2_with fail
          generalize (Value.slice (some ⟨bv, 0, none⟩) A.length capv) = vA at *
          go_loopw [8, 13] (fun v j wr => ∃ J : Nat, J ≤ L.length ∧ j = .int .i64 J ∧ St w0 [(Y, [.int .i64 W, .int .i64 H, .slice (some ⟨b5, 0, none⟩) n c5]), (X, [.int .i64 W, .int .i64 H, .slice (some ⟨b, 0, none⟩) n c])] ((some ⟨BR, 0, none⟩, BR, n, fun z9 => .int .i64 (lbA l C (flA (Fre n f l) A (L.take J)) z9)) :: [(some ⟨b5, 0, none⟩, b5, n, fun z9 => .int .i64 (labV W H n f z9)), (some ⟨b4, 0, none⟩, b4, n, fun z9 => .int .i64 (f z9)), (some ⟨b, 0, none⟩, b, n, fun z9 => .int .i64 (f z9))]) wr ∧ wr.ownsRow G 2 1 v (flA (Fre n f l) A (L.take J)).length (ints (cs (flA (Fre n f l) A (L.take J)))) ∧ wr.ownsRow G8 2 1 vn L.length (ints L) ∧ Apart vn v ∧ G ≤ wr.heap.size) (fun _ j _ => L.length - (intOf j).toNat)
          case atStart => exact ⟨0, by omega, rfl, by simpa [flA] using HSn2.out, by simpa [flA] using HOq.out, HOn.out, HA8.out, HG6.out⟩
          case round =>
            obtain ⟨J, hJ, rfl, hs, ho, ho8, ha8, hg⟩ := hrel
            clear HSn HSn2 HOq HOn HA8 HG6
            have HS := hide hs
            have HO := hide ho
            have HO8 := hide ho8
            have HA8 := hide ha8
            have HG := hide hg
            clear hs ho ho8 ha8 hg
            by_cases hJlt : J < L.length
            · have hJ' : (J : Int) < (L.length : Int) := by omega
              obtain ⟨x, hx⟩ : ∃ x, L[J]? = some x := ⟨_, List.getElem?_eq_getElem hJlt⟩
              obtain ⟨hx0, hx1⟩ := HIn.out x (List.mem_of_getElem? hx)
              obtain ⟨q, rfl⟩ : ∃ q : Nat, x = (q : Int) := ⟨x.toNat, by omega⟩
              have hqn : q < n := by omega
              have htk := take_snoc hx
              obtain ⟨b8, cap8, hv8, hGb8, hcell8⟩ := own_partsL HO8.out (by omega)
              subst hv8
              obtain ⟨u0, -⟩ := hcell8 J hJlt
              rw [show L.getD J 0 = (q : Int) by simp [List.getD, hx]] at u0
              obtain ⟨i0, i1, i2⟩ := HS.out.im3 1 rfl
              have z0 := ((HS.out.nthO 3 rfl).rowS (by omega) q hqn).1
              obtain ⟨y0, fr0⟩ := (HS.out.rowO (by omega)) q hqn
              have hfree := spec_free (f := f) (l := l) (c := C) (A := flA (Fre n f l) A (L.take J)) (q := q) (n := n) hc1 hqn
              have hfl : flA (Fre n f l) A (L.take (J + 1)) = fl1 (Fre n f l) (flA (Fre n f l) A (L.take J)) (q : Int) := by rw [htk, flA_snoc]
              obtain ⟨A2, hA2⟩ : ∃ A2, flA (Fre n f l) A (L.take (J + 1)) = A2 := ⟨_, rfl⟩
              rw [hA2] at hfl
              have HA2 := hide hA2
              have hAl : (flA (Fre n f l) A (L.take J)).length ≤ 4096 := by
                obtain ⟨N2, hN2⟩ := flA_ext (Fre n f l) (L.drop J) (flA (Fre n f l) A (L.take J))
                have e : flA (Fre n f l) A L = flA (Fre n f l) (flA (Fre n f l) A (L.take J)) (L.drop J) := by
                  unfold flA
                  rw [← List.foldl_append, List.take_append_drop]
                have h1 := (HFN.out.len HK.out).1
                rw [← HNN.out, e, hN2, List.length_append] at h1
                omega
              clear hA2 htk hx hcell8 hx0 hx1
              generalize flA (Fre n f l) A (L.take J) = A1 at *
              have HJ4 : Hid (L.length ≤ 4) := HBl.out
              have hJ4 : J ≤ 4 := by have := HJ4.out; omega
              obtain ⟨wq, hwq⟩ : ∃ wq, wq = wr := ⟨_, rfl⟩
              subst hwq
              have SK : Nonempty (Up wq) := up_ne wq
              have p0 := fun p : Up wq => p.cell u0
              have p1 := fun p : Up wq => p.cell i2
              have p3 := fun p : Up wq => p.cell z0
              have p4 := fun p : Up wq => p.cell y0
              have HU0 := hide u0
              have HY0 := hide (And.intro y0 fr0)
              have HFL := hide hfl
              have HFR := hide hfree
              clear u0 i0 i1 i2 z0 y0 fr0 hfl hfree
              have hMiss : (f q ≠ 1 ∨ (f q = 1 ∧ lbA l C A1 q ≠ 0)) ∨ (f q = 1 ∧ lbA l C A1 q = 0) := by omega
              rcases hMiss with hm | hm
              · have HM := hide (show A2 = A1 from by
                  rw [HFL.out]
                  refine fl1_no (fun h => ?_)
                  rw [Int.toNat_natCast] at h
                  have := HFR.out.2 h
                  omega)
                rcases hm with hm | ⟨hm, hm2⟩
                · have qf : (f q == 1) = false := by simp [hm]
                  clear hm
                  generalize f q = y at *
                  generalize lbA l C A1 q = z at *
                  go_upto_region 41 with fail
                  refine region_up (by kernel_rfl) (by kernel_rfl) ?_
                  repeat (go_big_quiet_step (exact rfl))
                  refine wpQuiet_nil ?_
                  intro _ hw2
                  obtain ⟨pq, hw3⟩ := hw2
                  subst hw3
                  have HS2 := hide (HS.out.next pq.below)
                  have HO2 := hide (ownsRow_below' HO.out pq.below)
                  have HO82 := hide (ownsRow_below' HO8.out pq.below)
                  have HG2 : Hid (G ≤ pq.w.heap.size) := Nat.le_trans HG.out pq.below.size
                  clear p0 p1 p3 p4 SK
                  generalize pq.w = w2 at *
                  go_wp2_with fail
                  exact ⟨⟨J + 1, by omega, rfl, by rw [HA2.out, HM.out]; exact HS2.out, by rw [HA2.out, HM.out]; exact HO2.out, HO82.out, HA8.out, HG2.out⟩, by simp [intOf]; omega⟩
                · rw [hm] at p3
                  have qf : (lbA l C A1 q == 0) = false := by simp [hm2]
                  clear hm hm2
                  generalize lbA l C A1 q = z at *
                  go_upto_region 41 with fail
                  refine region_up (by kernel_rfl) (by kernel_rfl) ?_
                  repeat (go_big_quiet_step (exact rfl))
                  refine wpQuiet_nil ?_
                  intro _ hw2
                  obtain ⟨pq, hw3⟩ := hw2
                  subst hw3
                  have HS2 := hide (HS.out.next pq.below)
                  have HO2 := hide (ownsRow_below' HO.out pq.below)
                  have HO82 := hide (ownsRow_below' HO8.out pq.below)
                  have HG2 : Hid (G ≤ pq.w.heap.size) := Nat.le_trans HG.out pq.below.size
                  clear p0 p1 p3 p4 SK
                  generalize pq.w = w2 at *
                  go_wp2_with fail
                  exact ⟨⟨J + 1, by omega, rfl, by rw [HA2.out, HM.out]; exact HS2.out, by rw [HA2.out, HM.out]; exact HO2.out, HO82.out, HA8.out, HG2.out⟩, by simp [intOf]; omega⟩
              · obtain ⟨hm1, hm2⟩ := hm
                have HM : Hid (A2 = A1 ++ [q]) := by
                  show _ = _
                  rw [HFL.out, fl1_yes (by rw [Int.toNat_natCast]; exact HFR.out.1 ⟨hm1, hm2⟩), Int.toNat_natCast]
                rw [hm1] at p3
                rw [hm2] at p4 HY0
                clear hm1 hm2
                go_upto_region 41 with fail
                refine region_up (by kernel_rfl) (by kernel_rfl) ?_
                repeat (go_big_quiet_step (exact rfl))
                refine wpQuiet_nil ?_
                intro _ hw2
                obtain ⟨pq, hw3⟩ := hw2
                subst hw3
                have HS2 := hide (HS.out.next pq.below)
                have HO2 := hide (ownsRow_below' HO.out pq.below)
                have HO82 := hide (ownsRow_below' HO8.out pq.below)
                have HG2 : Hid (G ≤ pq.w.heap.size) := Nat.le_trans HG.out pq.below.size
                have u0 := pq.cell HU0.out
                have y0 := pq.cell HY0.out.1
                have fr0 := (pq.below.frozen (p := ⟨BR, q, none⟩) (World.block_lt_of_cell? wq _ HY0.out.1)).trans HY0.out.2
                clear p0 p1 p3 p4 SK HS HO HO8 HG
                generalize pq.w = w2 at *
                have HB8 : Hid (b8 ≠ BR) := by have := HGG.out; have := HB1.out; show _ ≠ _; omega
                have HO3 : Hid ((w2.setCell ⟨BR, q, none⟩ (.int .i64 C)).ownsRow G 2 1 u8 A1.length (ints (cs A1))) := ownsRow_setCell_below HO2.out (a := ⟨BR, q, none⟩) HB1.out _
                have HO83 : Hid ((w2.setCell ⟨BR, q, none⟩ (.int .i64 C)).ownsRow G8 2 1 (.slice (some ⟨b8, 0, none⟩) L.length cap8) L.length (ints L)) := ownsRow_setCell_below HO82.out (a := ⟨BR, q, none⟩) (Nat.lt_of_lt_of_le HB1.out HGG.out) _
                have HS3 : Hid (St w0 [(Y, [.int .i64 W, .int .i64 H, .slice (some ⟨b5, 0, none⟩) n c5]), (X, [.int .i64 W, .int .i64 H, .slice (some ⟨b, 0, none⟩) n c])] ((some ⟨BR, 0, none⟩, BR, n, fun z9 => .int .i64 (lbA l C (A1 ++ [q]) z9)) :: [(some ⟨b5, 0, none⟩, b5, n, fun z9 => .int .i64 (labV W H n f z9)), (some ⟨b4, 0, none⟩, b4, n, fun z9 => .int .i64 (f z9)), (some ⟨b, 0, none⟩, b, n, fun z9 => .int .i64 (f z9))]) (w2.setCell ⟨BR, q, none⟩ (.int .i64 C))) := by
                  have h := HS2.out.upd hqn C
                  rw [lbA_snoc] at h
                  exact h
                have HG3 : Hid (G ≤ (w2.setCell ⟨BR, q, none⟩ (.int .i64 C)).heap.size) := by show _ ≤ _; simp; exact HG2.out
                have u03 : (w2.setCell ⟨BR, q, none⟩ (.int .i64 C)).cell? ⟨b8, J, none⟩ = some (.int .i64 q) := (World.cell?_of_block (w := w2) (a := ⟨b8, J, none⟩) (heap_setCell_other w2 ⟨BR, q, none⟩ b8 _ HB8.out)).trans u0
                go_upto_region 43 with fail
                clear y0 fr0 u0 HS2 HO2 HO82 HG2
                generalize w2.setCell ⟨BR, q, none⟩ (.int .i64 C) = w3 at *
                have HL1 : Hid (A1.length ≤ 1048576) := by show _ ≤ _; omega
                go_wp2_with (refine growN _ rfl _ _ rfl G _ A1.length (cs A1) rfl w3 HO3.out (Below.refl _ _) HG3.out (q : Int) rfl HL1.out ?_)
                intro v' w' ho' hb' hs' hk' hm'
                have HS9 := hide (HS3.out.upto hb' HW0.out (HLt.out _))
                have HO9 : Hid (w'.ownsRow G 2 1 v' (A1 ++ [q]).length (ints (cs (A1 ++ [q])))) := by
                  show World.ownsRow _ _ _ _ _ _ _
                  rw [List.length_append, cs_app]; exact ho'
                have HO89 := hide (owns_side HO83.out hk' HA8.out)
                have HA9 := hide (HA8.out.moved hm' HO83.out)
                have HG9 : Hid (G ≤ w'.heap.size) := Nat.le_trans HG3.out (Nat.le_of_lt hs')
                clear ho' hb' hs' hk' hm' u03 HS3 HO3 HO83 HG3 HA8
                go_wp2_with fail
                exact ⟨⟨J + 1, by omega, rfl, by rw [HA2.out, HM.out]; exact HS9.out, by rw [HA2.out, HM.out]; exact HO9.out, HO89.out, HA9.out, HG9.out⟩, by simp [intOf]; omega⟩
            · obtain rfl : J = L.length := by omega
              obtain ⟨a8, cp8, hv8⟩ := own_form HO8.out
              subst hv8
              have hIA : I + 1 ≤ (A ++ N).length := by rw [List.length_append]; omega
              have HR : Hid (∃ (A' : List Nat) (I' : Nat), I' ≤ A'.length ∧ Value.int .i64 ((I : Int) + 1) = .int .i64 I' ∧ Fd (Fre n f l) (nbs W H besF) k A' (A'.drop I') ∧ St w0 [(Y, [.int .i64 W, .int .i64 H, .slice (some ⟨b5, 0, none⟩) n c5]), (X, [.int .i64 W, .int .i64 H, .slice (some ⟨b, 0, none⟩) n c])] ((some ⟨BR, 0, none⟩, BR, n, fun z9 => .int .i64 (lbA l C A' z9)) :: [(some ⟨b5, 0, none⟩, b5, n, fun z9 => .int .i64 (labV W H n f z9)), (some ⟨b4, 0, none⟩, b4, n, fun z9 => .int .i64 (f z9)), (some ⟨b, 0, none⟩, b, n, fun z9 => .int .i64 (f z9))]) wr ∧ wr.ownsRow G 2 1 u8 A'.length (ints (cs A')) ∧ G ≤ wr.heap.size) := ⟨A ++ N, I + 1, hIA, rfl, HFN.out, by have h := HS.out; rw [List.take_length, HNN.out] at h; exact h, by have h := HO.out; rw [List.take_length, HNN.out] at h; exact h, HG.out⟩
              clear HS HO HFN HNN hIA
              go_wp2_with fail
              exact ⟨HR.out, by simp [intOf]; omega⟩
      · obtain rfl : k = n := by omega
        have HB := hide HS.out.below
        clear HS j0 j1 j2
        go_wp2_with fail
        go_ret
        exact ⟨rfl, HB.out⟩

end Go.Proofs.Ytfaponkmmiiehaa

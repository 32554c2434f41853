/- The program's density. -/
import Derived.Test.YtedjnemijeaeoaaShT
namespace Go.Proofs.Ytedjnemijeaeoaa
open Go.RowKit
set_option maxRecDepth 100000
set_option maxHeartbeats 2000000

/-- the cells of a placed shape -/
def pcells (g : Nat → Int) (k : Nat) : List Value := [outl (g (k * 7)) (g (k * 7 + 3)) (g (k * 7 + 4)) (g (k * 7 + 5)), .int .i64 (g (k * 7 + 1)), .int .i64 (g (k * 7 + 2)), .int .i64 (g (k * 7 + 6))]
def plist (g : Nat → Int) : Nat → List Value
  | 0 => []
  | n + 1 => plist g n ++ pcells g n

theorem plist_length (g : Nat → Int) : ∀ n, (plist g n).length = n * 4
  | 0 => rfl
  | n + 1 => by simp [plist, plist_length g n, pcells]; omega

theorem plist_at (g : Nat → Int) : ∀ (n k j : Nat), k < n → j < 4 → (plist g n)[k * 4 + j]? = (pcells g k)[j]?
  | n + 1, k, j, hk, hj => by
    simp only [plist]
    by_cases e : k = n
    · subst e
      rw [List.getElem?_append_right (by rw [plist_length]; omega), plist_length]
      rw [show k * 4 + j - k * 4 = j from by omega]
    · rw [List.getElem?_append_left (by rw [plist_length]; omega)]
      exact plist_at g n k j (by omega) hj

/-- what placeShapes answers -/
def PlacedE (g : Nat → Int) (n B : Nat) (e : Ending) (w' : World) : Prop :=
  if okS g n = true then ∃ v, e = .returned (.tuple #[v, .bool true]) ∧ w'.ownsRow B 84 4 v n (plist g n) else ∃ v, e = .returned (.tuple #[v, .bool false])

set_option maxRecDepth 100000 in
theorem info88 : ∃ i, Try.prog.info? 84 = some i ∧ i.zero = some (.agg #[.nilIface, .int .i64 0, .int .i64 0, .int .i64 0]) ∧ i.size = 4 ∧ i.bytes = 40 := ⟨_, rfl, rfl, rfl, rfl⟩

set_option maxRecDepth 100000 in
theorem make_pl (n : Nat) (h : n ≤ 64) (w : World) :
    ∃ cur : Array Value, cur.size = n * 4 ∧ (Instr.makeSlice 48 (.int .i64 0) (.int .i64 n)).run Try.prog w = .ok (.slice (some ⟨w.heap.size, 0, none⟩) 0 n) (w.alloc (.cells cur 84)) := by
  have := run_make (P := Try.prog) w 48 84 _ (.agg #[.nilIface, .int .i64 0, .int .i64 0, .int .i64 0]) Try.underlying48 rfl rfl .i64 .i64 0 n (by omega) (by omega) (by show (40 : Int) * _ ≤ _; omega) (by omega)
  refine ⟨_, ?_, this⟩
  show (madeCells _ ((n : Int).toNat * 4)).size = _
  rw [Int.toNat_natCast]
  simp [madeCells]

theorem cell_four_new (w : World) (a b c d : Value) (t : TypeId) : ∀ j u, [a, b, c, d][j]? = some u → (w.alloc (.cells #[a, b, c, d] t)).cell? ((⟨w.heap.size, 0, none⟩ : Addr).add j) = some u := by
  intro j u hj
  match j, hj with
  | 0, hj => simp at hj; subst hj; simp [Addr.add]
  | 1, hj => simp at hj; subst hj; simp [Addr.add]
  | 2, hj => simp at hj; subst hj; simp [Addr.add]
  | 3, hj => simp at hj; subst hj; simp [Addr.add]
  | j + 4, hj => simp at hj

theorem outl_one (K A B C : Int) : (outl K A B C).oneCell' = true := by
  unfold outl
  split
  · rfl
  split
  · rfl
  split <;> rfl

theorem outl_iface (K A B C : Int) : ∃ t u, outl K A B C = .iface t u := by
  unfold outl
  split
  · exact ⟨_, _, rfl⟩
  split
  · exact ⟨_, _, rfl⟩
  split
  · exact ⟨_, _, rfl⟩
  · exact ⟨_, _, rfl⟩

theorem okS_no {g : Nat → Int} {n k : Nat} (hk : k < n) (h : shG g k = false) : okS g n = false := by
  unfold okS; rw [allG_no k hk h, Bool.and_false]

set_option maxHeartbeats 8000000 in
theorem placeShapes_any (a : Option Addr) (len cap : Nat) (g : Nat → Int) (hl : len ≤ 1048576) (w : World) (h : Px a (len * 7) g w) :
    Calls Try.prog 21 #[.slice a len cap] w fun e w' => PlacedE g len w.heap.size e w' ∧ Below w.heap.size w w' := by
  have HP : Hid (Px a (len * 7) g w) := h
  clear h
  by_cases hm : 64 < len
  · have hr : okS g len = false := by unfold okS; rw [decide_eq_false (by omega)]; rfl
    have HR : ∀ v, PlacedE g len w.heap.size (.returned (.tuple #[v, .bool false])) w := fun v => by unfold PlacedE; rw [hr]; exact ⟨_, rfl⟩
    clear HP hr
    go_enter Try.func21, Try.ntmps21
    go_wp2_with fail
    go_ret2
    exact ⟨HR _, Below.refl _ _⟩
  have hm' : ¬ (64 : Int) < (len : Int) := by omega
  obtain ⟨cur, hcur, hmk⟩ := make_pl len (by omega) w
  obtain ⟨ti, hi1, hi2, hi3, hi4⟩ := info88
  have HI1 : Hid (Try.prog.info? 84 = some ti) := hi1
  have HO0 : Hid ((w.alloc (.cells cur 84)).ownsRow w.heap.size 84 4 (.slice (some ⟨w.heap.size, 0, none⟩) 0 len) 0 []) := World.ownsRow_made w cur len (Nat.le_refl _) (by unfold maxLen; omega) hcur
  clear hi1 hcur
  go_enter Try.func21, Try.ntmps21
  go_wp2
  go_loopw [4, 17] (fun v i wr => ∃ k : Nat, k ≤ len ∧ i = .int .i64 k ∧ allG (shG g) k = true ∧ wr.ownsRow w.heap.size 84 4 v k (plist g k) ∧ Below w.heap.size w wr) (fun _ i _ => len - (intOf i).toNat)
  case atStart => exact ⟨0, by omega, rfl, rfl, HO0.out, bnew _ _⟩
  case round =>
    obtain ⟨k, hk, rfl, hall, hown, hb⟩ := hrel
    clear HO0 hmk
    by_cases hlt : k < len
    · obtain ⟨b, off, rfl, hbl, z0, z1, z2, z3, z4, z5, z6⟩ := (HP.out.below hb).seven hlt
      clear HP hbl
      have cL := limits_any (g (k * 7))
      have cN := newOutline_any (g (k * 7)) (g (k * 7 + 1)) (g (k * 7 + 2)) (g (k * 7 + 3)) (g (k * 7 + 4)) (g (k * 7 + 5)) (g (k * 7 + 6))
      have HN0 : Hid (ShB wr.heap.size (g (k * 7)) (g (k * 7 + 1)) (g (k * 7 + 2)) (g (k * 7 + 3)) (g (k * 7 + 4)) (g (k * 7 + 5)) (g (k * 7 + 6)) (wr.alloc (shCells (g (k * 7)) (g (k * 7 + 1)) (g (k * 7 + 2)) (g (k * 7 + 3)) (g (k * 7 + 4)) (g (k * 7 + 5)) (g (k * 7 + 6)) 28)).drew) := ShB.new _ _ _ _ _ _ _ _ _
      have HB0 : Hid (Below wr.heap.size wr (wr.alloc (shCells (g (k * 7)) (g (k * 7 + 1)) (g (k * 7 + 2)) (g (k * 7 + 3)) (g (k * 7 + 4)) (g (k * 7 + 5)) (g (k * 7 + 6)) 28)).drew) := (bnew _ _).drew
      have HOwn : Hid (wr.ownsRow w.heap.size 84 4 _ k (plist g k)) := hown
      have HB : Hid (Below w.heap.size w wr) := hb
      have hsw := hb.size
      clear hown hb
      go_upto_region 7 with fail
      go_cut [7, 8] (fun s7 s8 wc => Made (g (k * 7)) (g (k * 7 + 1)) (g (k * 7 + 2)) (g (k * 7 + 3)) (g (k * 7 + 4)) (g (k * 7 + 5)) (g (k * 7 + 6)) s7 s8 ∧ ShB wr.heap.size (g (k * 7)) (g (k * 7 + 1)) (g (k * 7 + 2)) (g (k * 7 + 3)) (g (k * 7 + 4)) (g (k * 7 + 5)) (g (k * 7 + 6)) wc ∧ Below wr.heap.size wr wc)
      case first =>
        generalize g (k * 7) = K at *
        generalize g (k * 7 + 1) = X at *
        generalize g (k * 7 + 2) = Y at *
        generalize g (k * 7 + 3) = A at *
        generalize g (k * 7 + 4) = B at *
        generalize g (k * 7 + 5) = C at *
        generalize g (k * 7 + 6) = V at *
        go_region_with (first
          | (go_at_call 49; (with_reducible refine (cL _).mono ?_); rintro e w1 ⟨rfl, hb1⟩; have HN1 : Hid (ShB wr.heap.size K X Y A B C V w1) := HN0.out.below hb1; obtain ⟨s0, s1, s2, s3, s4, s5, s6⟩ := HN1.out)
          | (go_at_call 48; (with_reducible refine (cN _).mono ?_); rintro e w2 ⟨hn, hb2⟩; obtain ⟨v, o, rfl, hm⟩ := newOut_made hn; clear hn))
        all_goals
          go_wp2_with fail
          go_meet
          exact ⟨hm, HN1.out.below hb2, bnext (bnext HB0.out (Nat.le_refl _) hb1) (Nat.le_refl _) hb2⟩
      case rest =>
        obtain ⟨hm, hN, hBw⟩ := hcut
        clear HN0 HB0 cL cN
        have HN : Hid (ShB wr.heap.size (g (k * 7)) (g (k * 7 + 1)) (g (k * 7 + 2)) (g (k * 7 + 3)) (g (k * 7 + 4)) (g (k * 7 + 5)) (g (k * 7 + 6)) wc) := hN
        have HBc : Hid (Below w.heap.size w wc) := bnext HB.out (Nat.le_refl _) hBw
        have hsc := hBw.size
        have HOc : Hid (wc.ownsRow w.heap.size 84 4 _ k (plist g k)) := ownsRow_below' HOwn.out hBw
        clear hN hBw HOwn HB
        rcases hm with ⟨hS, rfl, rfl⟩ | ⟨hS, rfl⟩
        · have hall' : allG (shG g) (k + 1) = true := by
            have hS' : shG g k = true := hS
            simp [allG, hall, hS']
          clear hS hall
          obtain ⟨s0, s1, s2, s3, s4, s5, s6⟩ := HN.out
          have hone := outl_one (g (k * 7)) (g (k * 7 + 3)) (g (k * 7 + 4)) (g (k * 7 + 5))
          have hpl : plist g (k + 1) = plist g k ++ [outl (g (k * 7)) (g (k * 7 + 3)) (g (k * 7 + 4)) (g (k * 7 + 5)), .int .i64 (g (k * 7 + 1)), .int .i64 (g (k * 7 + 2)), .int .i64 (g (k * 7 + 6))] := rfl
          obtain ⟨ot, ou, hou⟩ := outl_iface (g (k * 7)) (g (k * 7 + 3)) (g (k * 7 + 4)) (g (k * 7 + 5))
          rw [hou] at hpl hone
          rw [hou]
          clear hou
          generalize g (k * 7 + 1) = X at *
          generalize g (k * 7 + 2) = Y at *
          generalize g (k * 7 + 6) = V at *
          have HO2 : Hid ((wc.alloc (.cells #[.iface ot ou, .int .i64 X, .int .i64 Y, .int .i64 V] 84)).ownsRow w.heap.size 84 4 _ k (plist g k)) := HOc.out.alloc _
          have N1 : Hid (∀ (j : Nat) (u : Value), [Value.iface ot ou, Value.int .i64 X, .int .i64 Y, .int .i64 V][j]? = some u → (wc.alloc (.cells #[.iface ot ou, .int .i64 X, .int .i64 Y, .int .i64 V] 84)).cell? ((⟨wc.heap.size, 0, none⟩ : Addr).add j) = some u) := cell_four_new _ _ _ _ _ _
          have N2 : Hid (∀ (u : Value), u ∈ [Value.iface ot ou, Value.int .i64 X, .int .i64 Y, .int .i64 V] → u.oneCell' = true) := by
            intro u hu
            simp at hu
            rcases hu with rfl | rfl | rfl | rfl
            · exact hone
            all_goals rfl
          have N3 : Hid (k + 1 ≤ maxLen) := by show _ ≤ _; unfold maxLen; omega
          have N4 : Hid ((k + 1) * 40 ≤ 140737488355328) := by show _ ≤ _; omega
          have N5 : Hid (w.heap.size ≤ (wc.alloc (.cells #[.iface ot ou, .int .i64 X, .int .i64 Y, .int .i64 V] 84)).heap.size) := by show _ ≤ _; simp; omega
          have HB2 : Hid (Below w.heap.size w (wc.alloc (.cells #[.iface ot ou, .int .i64 X, .int .i64 Y, .int .i64 V] 84))) := bnext HBc.out (Nat.le_refl _) (bnew _ _)
          clear hone HOc HN HBc
          go_wp2_with (refine wpList_append_own _ rfl _ _ 48 rfl w.heap.size 84 ti (.agg #[.nilIface, .int .i64 0, .int .i64 0, .int .i64 0]) 4 40 Try.underlying48 HI1.out hi2 hi3 hi4 rfl (by omega) _ k (plist g k) rfl HO2.out ⟨wc.heap.size, 0, none⟩ 1 1 [.iface ot ou, .int .i64 X, .int .i64 Y, .int .i64 V] rfl rfl N1.out N2.out N3.out N4.out N5.out ?_)
          intro v' w' ho3 hg3 _
          have hr3 : ∀ q, Value.ownBlock _ = some q → w.heap.size ≤ q := fun q hq => (HO2.out.lt q hq).1
          have HB3 : Hid (Below w.heap.size w w') := HB2.out.trans ((Below.refl _ _).grown hg3 N5.out hr3)
          have HO3 : Hid (w'.ownsRow w.heap.size 84 4 v' (k + 1) (plist g (k + 1))) := by rw [hpl]; exact ho3
          clear N1 N2 N3 N4 N5 HO2 HB2 hg3 ho3 hr3 s0 s1 s2 s3 s4 s5 s6
          go_wp2_with fail
          exact ⟨⟨k + 1, by omega, rfl, hall', HO3.out, HB3.out⟩, by simp [intOf]; omega⟩
        · have hr : okS g len = false := okS_no hlt hS
          have HR : ∀ v, PlacedE g len w.heap.size (.returned (.tuple #[v, .bool false])) wc := fun v => by unfold PlacedE; rw [hr]; exact ⟨_, rfl⟩
          clear hr hS hall HN HOc
          go_wp2_with fail
          go_ret2
          exact ⟨HR _, HBc.out⟩
    · obtain rfl : k = len := by omega
      have hr : okS g k = true := by unfold okS; rw [hall, decide_eq_true (by omega)]; rfl
      have HR : ∀ v, wr.ownsRow w.heap.size 84 4 v k (plist g k) → PlacedE g k w.heap.size (.returned (.tuple #[v, .bool true])) wr := fun v ho => by unfold PlacedE; rw [hr]; exact ⟨_, rfl, ho⟩
      clear HP hr
      go_wp2
      go_ret2
      exact ⟨HR _ hown, hb⟩

end Go.Proofs.Ytedjnemijeaeoaa

namespace Go.Proofs.Ytedjnemijeaeoaa
open Go.RowKit
set_option maxRecDepth 100000
set_option maxHeartbeats 2000000

/-- placed shapes lie in a slice -/
def Pl (a : Option Addr) (n : Nat) (g : Nat → Int) (w : World) : Prop :=
  n = 0 ∨ ∃ b, a = some ⟨b, 0, none⟩ ∧ ∀ k, k < n → w.cell? ⟨b, k * 4, none⟩ = some (outl (g (k * 7)) (g (k * 7 + 3)) (g (k * 7 + 4)) (g (k * 7 + 5))) ∧ w.cell? ⟨b, k * 4 + 1, none⟩ = some (.int .i64 (g (k * 7 + 1))) ∧ w.cell? ⟨b, k * 4 + 2, none⟩ = some (.int .i64 (g (k * 7 + 2))) ∧ w.cell? ⟨b, k * 4 + 3, none⟩ = some (.int .i64 (g (k * 7 + 6)))

theorem Pl.below {a : Option Addr} {n : Nat} {g : Nat → Int} {w w' : World} (h : Pl a n g w) (hb : Below w.heap.size w w') : Pl a n g w' := by
  rcases h with h | ⟨b, ha, h⟩
  · exact .inl h
  · refine .inr ⟨b, ha, fun k hk => ?_⟩
    obtain ⟨h0, h1, h2, h3⟩ := h k hk
    have hl := World.block_lt_of_cell? w _ h0
    exact ⟨(hb.cell (p := ⟨b, k * 4, none⟩) hl).trans h0, (hb.cell (p := ⟨b, k * 4 + 1, none⟩) hl).trans h1, (hb.cell (p := ⟨b, k * 4 + 2, none⟩) hl).trans h2, (hb.cell (p := ⟨b, k * 4 + 3, none⟩) hl).trans h3⟩

theorem pl_of {w : World} {B n : Nat} {v : Value} {g : Nat → Int} (h : w.ownsRow B 84 4 v n (plist g n)) : ∃ a cap, v = .slice a n cap ∧ Pl a n g w := by
  have h' := h
  obtain ⟨hlen, hv | ⟨b, cap, cur, hv, hg, hcur, hn, hm, _, _⟩⟩ := h'
  · obtain ⟨rfl, rfl⟩ := hv
    exact ⟨none, 0, rfl, .inl rfl⟩
  · subst hv
    refine ⟨some ⟨b, 0, none⟩, cap, rfl, .inr ⟨b, rfl, fun k hk => ?_⟩⟩
    refine ⟨?_, ?_, ?_, ?_⟩
    · rw [h.cellAt (k * 4) (by omega)]; exact plist_at g n k 0 hk (by omega)
    · rw [h.cellAt (k * 4 + 1) (by omega)]; exact plist_at g n k 1 hk (by omega)
    · rw [h.cellAt (k * 4 + 2) (by omega)]; exact plist_at g n k 2 hk (by omega)
    · rw [h.cellAt (k * 4 + 3) (by omega)]; exact plist_at g n k 3 hk (by omega)

/-- one round of densityAt, kind by kind -/
theorem insG_eq {g : Nat → Int} {n k : Nat} {x y : Int} (h : okS g n = true) (hk : k < n) (hx : inB x (-100000) 100000 = true) (hy : inB y (-100000) 100000 = true) :
    insG g x y k = insB (g (k * 7)) (g (k * 7 + 3)) (g (k * 7 + 4)) (g (k * 7 + 5)) (x - g (k * 7 + 1)) (y - g (k * 7 + 2)) := by
  unfold okS at h
  simp only [Bool.and_eq_true] at h
  have hS : shapeB (g (k * 7)) (g (k * 7 + 1)) (g (k * 7 + 2)) (g (k * 7 + 3)) (g (k * 7 + 4)) (g (k * 7 + 5)) (g (k * 7 + 6)) = true := allG_at h.2 k hk
  unfold insG insideB
  rw [hS, hx, hy]; simp

set_option maxHeartbeats 8000000 in
theorem densityAt_any (a : Option Addr) (n cap : Nat) (g : Nat → Int) (hO : okS g n = true) (x y : Int) (hx : inB x (-100000) 100000 = true) (hy : inB y (-100000) 100000 = true) (w : World) (h : Pl a n g w) :
    Calls Try.prog 23 #[.slice a n cap, .int .i64 x, .int .i64 y] w fun e w' => e = .returned (.int .i64 (dens g x y n)) ∧ Below w.heap.size w w' := by
  have HP : Hid (Pl a n g w) := h
  have h64 := okS_le hO
  clear h
  go_enter Try.func23, Try.ntmps23
  go_wp2
  go_loopw [7, 12] (fun s i wr => ∃ k : Nat, k ≤ n ∧ i = .int .i64 k ∧ s = .int .i64 (dens g x y k) ∧ Below w.heap.size w wr) (fun _ i _ => n - (intOf i).toNat)
  case atStart => exact ⟨0, by omega, rfl, rfl, Below.refl _ _⟩
  case round =>
    obtain ⟨k, hk, rfl, rfl, hb⟩ := hrel
    by_cases hlt : k < n
    · rcases HP.out.below hb with h0 | ⟨b, rfl, hc⟩
      · omega
      obtain ⟨z0, z1, z2, z3⟩ := hc k hlt
      clear HP hc
      have hS : shapeB (g (k * 7)) (g (k * 7 + 1)) (g (k * 7 + 2)) (g (k * 7 + 3)) (g (k * 7 + 4)) (g (k * 7 + 5)) (g (k * 7 + 6)) = true := by
        have h := hO
        unfold okS at h
        simp only [Bool.and_eq_true] at h
        exact allG_at h.2 k hlt
      have hI := insG_eq hO hlt hx hy
      have hd := dens_bound (x := x) (y := y) hO k hk
      have hv := val_bound hO hlt
      have hDS : dens g x y (k + 1) = dens g x y k + if insG g x y k = true then g (k * 7 + 6) else 0 := rfl
      obtain ⟨bX, bY, bA, bB, bC, _, _, _⟩ := shape_bounds hS
      have bd := point_bounds hx bX
      have be := point_bounds hy bY
      have hKd := kind_of hS
      clear hS hO hx hy bX bY
      have wd : IntKind.i64.wrap (x - g (k * 7 + 1)) = x - g (k * 7 + 1) := wrapn bd (by omega)
      have we : IntKind.i64.wrap (y - g (k * 7 + 2)) = y - g (k * 7 + 2) := wrapn be (by omega)
      have hw : IntKind.i64.wrap (dens g x y k + g (k * 7 + 6)) = dens g x y k + g (k * 7 + 6) := wrapn (P := 1000 * 64 + 1000) (by omega) (by omega)
      generalize hDK : dens g x y k = D at *
      generalize g (k * 7 + 1) = X at *
      generalize g (k * 7 + 2) = Y at *
      generalize g (k * 7 + 3) = A at *
      generalize g (k * 7 + 4) = B at *
      generalize g (k * 7 + 5) = C at *
      generalize g (k * 7 + 6) = V at *
      generalize g (k * 7) = K at *
      have HB0 : Hid (Below w.heap.size w (wr.alloc (.cells #[outl K A B C, .int .i64 X, .int .i64 Y, .int .i64 V] 84))) := bnext hb (Nat.le_refl _) (bnew _ _)
      have q3 : (wr.alloc (.cells #[outl K A B C, .int .i64 X, .int .i64 Y, .int .i64 V] 84)).cell? ⟨wr.heap.size, 3, none⟩ = some (.int .i64 V) := by simp [go_sem]
      clear hd hv hb hDK
      rcases hKd with rfl | rfl | rfl | rfl
      · have cH := has1 A B C (x - X) (y - Y) bA bB
        have n1 := nil95 A B
        have n2 := met95 A B
        clear bA bB bC bd be
        rw [show outl 1 A B C = .iface 94 (.agg #[.int .i64 A, .int .i64 B]) from rfl] at z0 q3 HB0
        cases hG : insB 1 A B C (x - X) (y - Y)
        · rw [hG] at cH hI
          rw [hI] at hDS
          simp only [Bool.false_eq_true, if_false, Int.add_zero] at hDS
          clear hI hG
          go_wp2_with fail
          refine (cH _).mono ?_
          rintro e w4 ⟨rfl, hb4⟩
          have HB4 : Hid (Below w.heap.size w w4) := bnext HB0.out (Nat.le_refl _) hb4
          clear hb4 HB0 z0 z1 z2 z3 q3 cH n1 n2
          go_wp2_with fail
          exact ⟨⟨k + 1, by omega, rfl, by rw [hDS], HB4.out⟩, by simp [intOf]; omega⟩
        · rw [hG] at cH hI
          rw [hI] at hDS
          simp only [if_true] at hDS
          clear hI hG
          go_wp2_with fail
          refine (cH _).mono ?_
          rintro e w4 ⟨rfl, hb4⟩
          have HB4 : Hid (Below w.heap.size w w4) := bnext HB0.out (Nat.le_refl _) hb4
          have q3' := (hb4.cell (p := ⟨wr.heap.size, 3, none⟩) (by simp)).trans q3
          clear hb4 HB0 z0 z1 z2 z3 q3 cH n1 n2
          go_wp2_with fail
          exact ⟨⟨k + 1, by omega, rfl, by rw [hDS], HB4.out⟩, by simp [intOf]; omega⟩
      · have cH := has2 A B C (x - X) (y - Y) bA bB bd be
        have n1 := nil96 A B
        have n2 := met96 A B
        clear bA bB bC bd be
        rw [show outl 2 A B C = .iface 95 (.agg #[.int .i64 A, .int .i64 B]) from rfl] at z0 q3 HB0
        cases hG : insB 2 A B C (x - X) (y - Y)
        · rw [hG] at cH hI
          rw [hI] at hDS
          simp only [Bool.false_eq_true, if_false, Int.add_zero] at hDS
          clear hI hG
          go_wp2_with fail
          refine (cH _).mono ?_
          rintro e w4 ⟨rfl, hb4⟩
          have HB4 : Hid (Below w.heap.size w w4) := bnext HB0.out (Nat.le_refl _) hb4
          clear hb4 HB0 z0 z1 z2 z3 q3 cH n1 n2
          go_wp2_with fail
          exact ⟨⟨k + 1, by omega, rfl, by rw [hDS], HB4.out⟩, by simp [intOf]; omega⟩
        · rw [hG] at cH hI
          rw [hI] at hDS
          simp only [if_true] at hDS
          clear hI hG
          go_wp2_with fail
          refine (cH _).mono ?_
          rintro e w4 ⟨rfl, hb4⟩
          have HB4 : Hid (Below w.heap.size w w4) := bnext HB0.out (Nat.le_refl _) hb4
          have q3' := (hb4.cell (p := ⟨wr.heap.size, 3, none⟩) (by simp)).trans q3
          clear hb4 HB0 z0 z1 z2 z3 q3 cH n1 n2
          go_wp2_with fail
          exact ⟨⟨k + 1, by omega, rfl, by rw [hDS], HB4.out⟩, by simp [intOf]; omega⟩
      · have cH := has3 A B C (x - X) (y - Y) bA bB bC bd be
        have n1 := nil98 A B C
        have n2 := met98 A B C
        clear bA bB bC bd be
        rw [show outl 3 A B C = .iface 97 (.agg #[.int .i64 A, .int .i64 B, .int .i64 C]) from rfl] at z0 q3 HB0
        cases hG : insB 3 A B C (x - X) (y - Y)
        · rw [hG] at cH hI
          rw [hI] at hDS
          simp only [Bool.false_eq_true, if_false, Int.add_zero] at hDS
          clear hI hG
          go_wp2_with fail
          refine (cH _).mono ?_
          rintro e w4 ⟨rfl, hb4⟩
          have HB4 : Hid (Below w.heap.size w w4) := bnext HB0.out (Nat.le_refl _) hb4
          clear hb4 HB0 z0 z1 z2 z3 q3 cH n1 n2
          go_wp2_with fail
          exact ⟨⟨k + 1, by omega, rfl, by rw [hDS], HB4.out⟩, by simp [intOf]; omega⟩
        · rw [hG] at cH hI
          rw [hI] at hDS
          simp only [if_true] at hDS
          clear hI hG
          go_wp2_with fail
          refine (cH _).mono ?_
          rintro e w4 ⟨rfl, hb4⟩
          have HB4 : Hid (Below w.heap.size w w4) := bnext HB0.out (Nat.le_refl _) hb4
          have q3' := (hb4.cell (p := ⟨wr.heap.size, 3, none⟩) (by simp)).trans q3
          clear hb4 HB0 z0 z1 z2 z3 q3 cH n1 n2
          go_wp2_with fail
          exact ⟨⟨k + 1, by omega, rfl, by rw [hDS], HB4.out⟩, by simp [intOf]; omega⟩
      · have cH := has4 A B C (x - X) (y - Y) bA bB bd be
        have n1 := nil100 A B
        have n2 := met100 A B
        clear bA bB bC bd be
        rw [show outl 4 A B C = .iface 99 (.agg #[.int .i64 A, .int .i64 B]) from rfl] at z0 q3 HB0
        cases hG : insB 4 A B C (x - X) (y - Y)
        · rw [hG] at cH hI
          rw [hI] at hDS
          simp only [Bool.false_eq_true, if_false, Int.add_zero] at hDS
          clear hI hG
          go_wp2_with fail
          refine (cH _).mono ?_
          rintro e w4 ⟨rfl, hb4⟩
          have HB4 : Hid (Below w.heap.size w w4) := bnext HB0.out (Nat.le_refl _) hb4
          clear hb4 HB0 z0 z1 z2 z3 q3 cH n1 n2
          go_wp2_with fail
          exact ⟨⟨k + 1, by omega, rfl, by rw [hDS], HB4.out⟩, by simp [intOf]; omega⟩
        · rw [hG] at cH hI
          rw [hI] at hDS
          simp only [if_true] at hDS
          clear hI hG
          go_wp2_with fail
          refine (cH _).mono ?_
          rintro e w4 ⟨rfl, hb4⟩
          have HB4 : Hid (Below w.heap.size w w4) := bnext HB0.out (Nat.le_refl _) hb4
          have q3' := (hb4.cell (p := ⟨wr.heap.size, 3, none⟩) (by simp)).trans q3
          clear hb4 HB0 z0 z1 z2 z3 q3 cH n1 n2
          go_wp2_with fail
          exact ⟨⟨k + 1, by omega, rfl, by rw [hDS], HB4.out⟩, by simp [intOf]; omega⟩
    · obtain rfl : k = n := by omega
      go_wp2
      go_ret
      exact ⟨rfl, hb⟩

end Go.Proofs.Ytedjnemijeaeoaa

/- Spots: the law's own copies, comparisons and marks of lists of them. -/
import Derived.Test.YtfgjooddolnifaaFmk
namespace Go.Proofs.Ytfgjooddolnifaa
open Ieee Go.RowKit
attribute [local go_sem] run_store_float alloc_drewN setCell_drewN shape?_drewN

/-- a spot as a value -/
abbrev sp3 (A : Int) (x y : Nat) : Value := .agg #[.int .i64 A, .float .f64 x, .float .f64 y]
/-- the cells of a list of spots -/
def spv (A : Nat → Int) (F : Nat → Nat) (k : Nat) : Value := if k % 3 = 0 then .int .i64 (A (k / 3)) else if k % 3 = 1 then .float .f64 (F (k / 3 * 2)) else .float .f64 (F (k / 3 * 2 + 1))
theorem spv0 (A : Nat → Int) (F : Nat → Nat) (k : Nat) : spv A F (k * 3) = .int .i64 (A k) := by
  unfold spv
  rw [if_pos (by omega), show k * 3 / 3 = k from by omega]
theorem spv1 (A : Nat → Int) (F : Nat → Nat) (k : Nat) : spv A F (k * 3 + 1) = .float .f64 (F (k * 2)) := by
  unfold spv
  rw [if_neg (by omega), if_pos (by omega), show (k * 3 + 1) / 3 = k from by omega]
theorem spv2 (A : Nat → Int) (F : Nat → Nat) (k : Nat) : spv A F (k * 3 + 2) = .float .f64 (F (k * 2 + 1)) := by
  unfold spv
  rw [if_neg (by omega), if_neg (by omega), show (k * 3 + 2) / 3 = k from by omega]
theorem PxV.spot {a : Option Addr} {len k : Nat} {A : Nat → Int} {F : Nat → Nat} {w : World} (h : PxV a (len * 3) (spv A F) w) (hk : k < len) :
    ∃ b off, a = some ⟨b, off, none⟩ ∧ b < w.heap.size ∧ w.cell? ⟨b, off + k * 3, none⟩ = some (.int .i64 (A k)) ∧ w.cell? ⟨b, off + k * 3 + 1, none⟩ = some (.float .f64 (F (k * 2))) ∧ w.cell? ⟨b, off + k * 3 + 2, none⟩ = some (.float .f64 (F (k * 2 + 1))) := by
  obtain ⟨b, off, ha, hb, hc⟩ := h.at (by omega)
  refine ⟨b, off, ha, hb, ?_, ?_, ?_⟩
  · rw [hc _ (by omega), spv0]
  · rw [Nat.add_assoc, hc _ (by omega), spv1]
  · rw [Nat.add_assoc, hc _ (by omega), spv2]

theorem szSpotS_any (a : Option Addr) (len cap : Nat) (left : Int) (h0 : 0 ≤ left) (h1 : left ≤ 1048576) (hl : (len : Int) ≤ 9223372036854775807) (w : World) :
    Calls Try.prog 31 #[.slice a len cap, .int .i64 left] w fun e w' => e = .returned (.int .i64 (if left < (len : Int) then -1 else left - len)) ∧ w' = w := by
  by_cases h : left < (len : Int)
  · rw [if_pos h]
    have h1 : left - (len : Int) < 0 := by omega
    go_enter Try.func31, Try.ntmps31
    go_wp2
    go_ret
    exact ⟨rfl, rfl⟩
  · rw [if_neg h]
    have h1 : ¬ left - (len : Int) < 0 := by omega
    go_enter Try.func31, Try.ntmps31
    go_wp2
    go_ret
    exact ⟨rfl, rfl⟩

theorem toSpot_any (A : Int) (x y : Nat) (w : World) :
    Calls Try.prog 52 #[sp3 A x y] w fun e w' => e = .returned (sp3 A x y) ∧ Below w.heap.size w w' := by
  go_enter Try.func52, Try.ntmps52
  go_wp2_with fail
  refine (toCx_exact _ _ _).mono ?_
  rintro e w1 ⟨rfl, rfl⟩
  go_wp2_with fail
  refine bodyPost_ret (v := sp3 A x y) (by simp [results, Try.results52, go_sem]) rfl ⟨rfl, ?_⟩
  first | go_grown | (refine Below.setCell ?_ (by simp) _; go_grown)

/-- a row that is being filled: its first k values are there -/
def PartV (b len k : Nat) (f : Nat → Value) (w : World) : Prop :=
  ∀ j, j < len → (∃ z, w.cell? ⟨b, j, none⟩ = some z ∧ (j < k → z = f j)) ∧ w.frozen? ⟨b, j, none⟩ = false
theorem PartV.below {b len k B : Nat} {f : Nat → Value} {w w' : World} (h : PartV b len k f w) (hb : Below B w w') (hB : b < B) : PartV b len k f w' := by
  intro j hj
  rw [hb.cell (p := ⟨b, j, none⟩) hB, hb.frozen (p := ⟨b, j, none⟩) hB]
  exact h j hj
theorem PartV.step {b len k : Nat} {f : Nat → Value} {w : World} (h : PartV b len k f w) (hk : k < len) (z : Value) (hz : z = f k) : PartV b len (k + 1) f (w.setCell ⟨b, k, none⟩ z) := by
  intro j hj
  obtain ⟨⟨y, hy, e⟩, fr⟩ := h j hj
  refine ⟨?_, by simpa using fr⟩
  by_cases hjk : j = k
  · subst hjk
    exact ⟨z, World.cell?_setCell_same _ _ _ hy, fun _ => hz⟩
  · exact ⟨y, by rw [World.cell?_setCell_other _ _ _ _ (by simp; try omega)]; exact hy, fun h => e (by omega)⟩
theorem PartV.row {b len : Nat} {f : Nat → Value} {w : World} (h : PartV b len len f w) : RowV b len f w := fun j hj => by
  obtain ⟨⟨z, hz, e⟩, fr⟩ := h j hj
  rw [e hj] at hz
  exact ⟨hz, fr⟩
theorem RowV.partV {b len : Nat} {f g : Nat → Value} {w : World} (h : RowV b len g w) : PartV b len 0 f w :=
  fun j hj => ⟨⟨_, (h j hj).1, fun h => absurd h (Nat.not_lt_zero _)⟩, (h j hj).2⟩

set_option maxRecDepth 100000 in
theorem make_sps (n : Nat) (h : n ≤ 1048576) (w : World) :
    (Instr.makeSlice 58 (.int .i64 n) (.int .i64 n)).run Try.prog w = .ok (.slice (some ⟨w.heap.size, 0, none⟩) n n) (w.alloc (.cells (madeCells #[.int .i64 0, .float .f64 0, .float .f64 0] (n * 3)) 72)) := by
  have := run_make (P := Try.prog) w 58 72 _ (sp3 0 0 0) Try.underlying58 rfl rfl .i64 .i64 n n (by omega) (by omega) (by show (24 : Int) * _ ≤ _; omega) (by omega)
  rw [this]
  show Result.ok (Value.slice _ (n : Int).toNat (n : Int).toNat) (w.alloc (.cells (madeCells (Value.cells (sp3 0 0 0)) ((n : Int).toNat * 3)) 72)) = _
  rw [Int.toNat_natCast]
  rfl
theorem made3_at (n k : Nat) (h : k < n) : ∃ z, (madeCells #[Value.int .i64 0, .float .f64 0, .float .f64 0] n)[k]? = some z := by
  unfold madeCells
  rw [Array.getElem?_map, Array.getElem?_range, if_pos h]
  exact ⟨_, rfl⟩
theorem partS_new (n : Nat) (f : Nat → Value) (t : TypeId) (w : World) : PartV w.heap.size n 0 f (w.alloc (.cells (madeCells #[.int .i64 0, .float .f64 0, .float .f64 0] n) t)) := by
  intro k hk
  obtain ⟨z, hz⟩ := made3_at n k hk
  exact ⟨⟨z, by simp [go_sem, hz], fun h => absurd h (Nat.not_lt_zero _)⟩, by simp [go_sem]⟩

set_option maxHeartbeats 1000000 in
theorem toSpotS_any (a : Option Addr) (len cap : Nat) (A : Nat → Int) (F : Nat → Nat) (hl : len ≤ 1048576) (w : World) (h : PxV a (len * 3) (spv A F) w) :
    Calls Try.prog 33 #[.slice a len cap] w fun e w' => e = .returned (.slice (some ⟨w.heap.size, 0, none⟩) len len) ∧ RowV w.heap.size (len * 3) (spv A F) w' ∧ Below w.heap.size w w' ∧ w.heap.size < w'.heap.size := by
  have hmk := make_sps len hl w
  have HP := hide h
  clear h
  go_enter Try.func33, Try.ntmps33
  go_wp2
  go_loopw [4] (fun i wr => ∃ k : Nat, k ≤ len ∧ i = .int .i64 k ∧ PartV w.heap.size (len * 3) (k * 3) (spv A F) wr ∧ Below w.heap.size w wr ∧ w.heap.size < wr.heap.size) (fun i _ => len - (intOf i).toNat)
  case atStart => exact ⟨0, by omega, rfl, partS_new (len * 3) _ 72 w, bnew _ _, by simp⟩
  case round =>
    obtain ⟨k, hk, rfl, hp, hb, hs⟩ := hrel
    clear hmk
    by_cases hlt : k < len
    · obtain ⟨b, off, rfl, hbl, hz, hz', hz''⟩ := (HP.out.below hb).spot hlt
      clear HP
      go_wp2_with fail
      refine (toSpot_any _ _ _ _).mono ?_
      rintro e w1 ⟨rfl, hb1⟩
      have hp1 := hp.below hb1 hs
      have HB1 : Hid (Below w.heap.size w w1) := bnext hb (Nat.le_refl _) hb1
      have hs1 : w.heap.size < w1.heap.size := Nat.lt_of_lt_of_le hs hb1.size
      obtain ⟨⟨x, hx, _⟩, f0⟩ := hp1 (k * 3) (by omega)
      obtain ⟨⟨y, hy, _⟩, f1⟩ := hp1 (k * 3 + 1) (by omega)
      obtain ⟨⟨z, hzz, _⟩, f2⟩ := hp1 (k * 3 + 2) (by omega)
      have HPt := hide (((hp1.step (by omega) (.int .i64 (A k)) (spv0 _ _ _).symm).step (by omega) (.float .f64 (F (k * 2))) (spv1 _ _ _).symm).step (by omega) (.float .f64 (F (k * 2 + 1))) (spv2 _ _ _).symm)
      clear hb1 hp hb hs hz hz' hz'' hp1 hbl
      go_wp2_with fail
      exact ⟨⟨k + 1, by omega, rfl, (by rw [show (k + 1) * 3 = k * 3 + 1 + 1 + 1 from by omega]; exact HPt.out), ((HB1.out.setCell (Nat.le_refl _) _).setCell (Nat.le_refl _) _).setCell (Nat.le_refl _) _, by simpa using hs1⟩, by simp [intOf]; omega⟩
    · obtain rfl : k = len := by omega
      go_wp2
      go_ret
      exact ⟨rfl, hp.row, hb, hs⟩

theorem eqSpot_any (A : Int) (x y : Nat) (w : World) :
    Calls Try.prog 56 #[sp3 A x y, sp3 A x y] w fun e w' => e = .returned (.bool true) ∧ Below w.heap.size w w' := by
  have hA : (A != A) = false := by simp
  have HB := hide (((Below.refl w.heap.size w).alloc (Nat.le_refl _) (.cells #[.int .i64 A, .float .f64 x, .float .f64 y] 72)).alloc (by simp) (.cells #[.int .i64 A, .float .f64 x, .float .f64 y] 72))
  go_enter Try.func56, Try.ntmps56
  go_wp2_with fail
  refine (eqCx_any _ _ _ _ (same_rfl _) (same_rfl _) _).mono ?_
  rintro e w1 ⟨rfl, hb1⟩
  have HB1 := hide (bnext HB.out (Nat.le_refl _) hb1)
  clear HB hb1
  go_wp2_with fail
  go_ret
  exact ⟨rfl, HB1.out⟩

set_option maxHeartbeats 1000000 in
theorem eqSpotS_any (a a' : Option Addr) (len cap cap' : Nat) (A : Nat → Int) (F : Nat → Nat) (hl : len ≤ 1048576) (w : World) (h : PxV a (len * 3) (spv A F) w) (h' : PxV a' (len * 3) (spv A F) w) :
    Calls Try.prog 35 #[.slice a len cap, .slice a' len cap'] w fun e w' => e = .returned (.bool true) ∧ Below w.heap.size w w' := by
  have HP := hide h
  have HP' := hide h'
  clear h h'
  go_enter Try.func35, Try.ntmps35
  go_wp2
  go_loopw [5] (fun i wr => ∃ k : Nat, k ≤ len ∧ i = .int .i64 k ∧ Below w.heap.size w wr) (fun i _ => len - (intOf i).toNat)
  case atStart => exact ⟨0, by omega, rfl, Below.refl _ _⟩
  case round =>
    obtain ⟨k, hk, rfl, hb⟩ := hrel
    by_cases hlt : k < len
    · obtain ⟨b, off, rfl, -, hz, hz', hz''⟩ := (HP.out.below hb).spot hlt
      obtain ⟨b', off', rfl, -, hy, hy', hy''⟩ := (HP'.out.below hb).spot hlt
      have HB : Hid (Below w.heap.size w wr.drew) := hb.drew
      have hq := eqSpot_any (A k) (F (k * 2)) (F (k * 2 + 1))
      clear HP HP'
      go_wp2_with fail
      go_region_with (go_at_call 56; refine (hq _).mono ?_; rintro e w1 ⟨rfl, hb1⟩)
      all_goals
        have HB1 : Hid (Below w.heap.size w w1) := bnext HB.out (Nat.le_refl _) hb1
        clear hb1 HB hb hz hz' hy hy' hz'' hy''
        go_wp2_with fail
        exact ⟨⟨k + 1, by omega, rfl, HB1.out⟩, by simp [intOf]; omega⟩
    · go_wp2
      go_ret
      exact ⟨rfl, hb⟩

/-- the marks of a list of spots -/
def spm (m : Int) (k : Nat) : Value := if k % 3 = 0 then .int .i64 (m + k) else .float .f64 (fmk (m + k))
set_option maxHeartbeats 1000000 in
theorem markSpotS_any (a : Option Addr) (b len cap : Nat) (A : Nat → Int) (F : Nat → Nat) (k : Int) (h0 : 0 ≤ k) (h1 : k ≤ 4194304) (hl : len ≤ 1048576) (w : World) (h : OwV a b (len * 3) (spv A F) w) :
    Calls Try.prog 36 #[.slice a len cap, .int .i64 k] w fun e w' => e = .returned (.int .i64 (k + ((len * 3 : Nat) : Int))) ∧ OwV a b (len * 3) (spm k) w' ∧ Kept b w w' := by
  go_enter Try.func36, Try.ntmps36
  go_wp2
  go_loopw [1, 5] (fun m i wr => ∃ j : Nat, j ≤ len ∧ i = .int .i64 j ∧ m = .int .i64 (k + (j : Int) * 3) ∧ Kept b w wr ∧ (len = 0 ∨ (a = some ⟨b, 0, none⟩ ∧ PartV b (len * 3) (j * 3) (spm k) wr))) (fun _ i _ => len - (intOf i).toNat)
  case atStart =>
    refine ⟨0, by omega, rfl, by simp, Kept.refl _ _, ?_⟩
    rcases h with h | ⟨ha, h⟩
    · exact .inl (by omega)
    · exact .inr ⟨ha, RowV.partV h⟩
  case round =>
    obtain ⟨j, hj, rfl, rfl, hk, hp⟩ := hrel
    clear h
    by_cases hlt : j < len
    · obtain ⟨ha, hq⟩ : a = some ⟨b, 0, none⟩ ∧ PartV b (len * 3) (j * 3) (spm k) wr := by
        rcases hp with hp | hp
        · omega
        · exact hp
      clear hp
      subst ha
      obtain ⟨⟨y, hy, _⟩, fr⟩ := hq (j * 3) (by omega)
      obtain ⟨⟨y', hy', _⟩, fr'⟩ := hq (j * 3 + 1) (by omega)
      obtain ⟨⟨y'', hy'', _⟩, fr''⟩ := hq (j * 3 + 2) (by omega)
      have e0 : Value.int .i64 (k + (j : Int) * 3) = spm k (j * 3) := by unfold spm; rw [if_pos (by omega)]; congr 1
      have e1 : Value.float .f64 (floatOfInt .f64 (k + (j : Int) * 3 + 1)) = spm k (j * 3 + 1) := by unfold spm fmk; rw [if_neg (by omega)]; congr 2; omega
      have e2 : Value.float .f64 (floatOfInt .f64 (k + (j : Int) * 3 + 1 + 1)) = spm k (j * 3 + 1 + 1) := by unfold spm fmk; rw [if_neg (by omega)]; congr 2; omega
      have HP := hide (((hq.step (by omega) _ e0).step (by omega) _ e1).step (by omega) _ e2)
      have HK : Hid (Kept b w (((World.setCell _ ⟨b, j * 3, none⟩ (.int .i64 (k + (j : Int) * 3))).setCell ⟨b, j * 3 + 1, none⟩ (.float .f64 (floatOfInt .f64 (k + (j : Int) * 3 + 1)))).setCell ⟨b, j * 3 + 2, none⟩ (.float .f64 (floatOfInt .f64 (k + (j : Int) * 3 + 1 + 1))))) := ((hk.setCell rfl _).setCell rfl _).setCell rfl _
      clear hq hk e0 e1 e2
      go_wp2
      exact ⟨⟨j + 1, by omega, rfl, by congr 1; omega, HK.out, .inr ⟨trivial, by rw [show (j + 1) * 3 = j * 3 + 1 + 1 + 1 from by omega]; exact HP.out⟩⟩, by simp [intOf]; omega⟩
    · obtain rfl : j = len := by omega
      go_wp2
      go_ret
      refine ⟨by first | rfl | (congr 2), ?_, hk⟩
      rcases hp with hp | ⟨ha, hp⟩
      · exact .inl (by omega)
      · exact .inr ⟨ha, hp.row⟩

end Go.Proofs.Ytfgjooddolnifaa

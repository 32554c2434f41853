/- The voxel at a place: the specification and the program; vectors. -/
import Derived.Test.YtkkmoidbnbpfkaaSrn
import Derived.BigRegion
namespace Go.Proofs.Ytkkmoidbnbpfkaa
open Go.RowKit

abbrev v3v (a b c : Int) : Value := .agg #[.int .i64 a, .int .i64 b, .int .i64 c]
/-- one step along an axis -/
def aln (ax : Int) (q : Int) : Int := if ax = q then 1 else 0

set_option maxRecDepth 100000 in
set_option maxHeartbeats 1000000 in
theorem along_any (ax : Int) (h : ax = 1 ∨ ax = 2 ∨ ax = 3) (w : World) :
    Calls Try.prog 28 #[.int .i64 ax] w fun e w' => e = .returned (v3v (aln ax 1) (aln ax 2) (aln ax 3)) ∧ Below w.heap.size w w' := by
  unfold aln
  rcases h with rfl | rfl | rfl
  · have HB := hide (bnew w (.cells #[.int .i64 1, .int .i64 0, .int .i64 0] 43))
    go_enter Try.func28, Try.ntmps28
    go_wp2_with fail
    exact bodyPost_ret (v := v3v 1 0 0) (by simp [results, Try.results28, go_sem]) rfl ⟨rfl, HB.out⟩
  · have HB := hide (bnew w (.cells #[.int .i64 0, .int .i64 1, .int .i64 0] 43))
    go_enter Try.func28, Try.ntmps28
    go_wp2_with fail
    exact bodyPost_ret (v := v3v 0 1 0) (by simp [results, Try.results28, go_sem]) rfl ⟨rfl, HB.out⟩
  · have HB := hide (bnew w (.cells #[.int .i64 0, .int .i64 0, .int .i64 1] 43))
    go_enter Try.func28, Try.ntmps28
    go_wp2_with fail
    exact bodyPost_ret (v := v3v 0 0 1) (by simp [results, Try.results28, go_sem]) rfl ⟨rfl, HB.out⟩

set_option maxRecDepth 100000 in
set_option maxHeartbeats 2000000 in
theorem vplus9_any (a0 a1 a2 b0 b1 b2 : Int) (ha : -1000 ≤ a0 ∧ a0 ≤ 1000 ∧ -1000 ≤ a1 ∧ a1 ≤ 1000 ∧ -1000 ≤ a2 ∧ a2 ≤ 1000) (hb : -1000 ≤ b0 ∧ b0 ≤ 1000 ∧ -1000 ≤ b1 ∧ b1 ≤ 1000 ∧ -1000 ≤ b2 ∧ b2 ≤ 1000) (w : World) :
    Calls Try.prog 27 #[v3v a0 a1 a2, v3v b0 b1 b2] w fun e w' => e = .returned (v3v (a0 + b0) (a1 + b1) (a2 + b2)) ∧ Below w.heap.size w w' := by
  have HB := hide (bnext (bnext (bnew w (.cells #[.int .i64 a0, .int .i64 a1, .int .i64 a2] 43)) (Nat.le_refl _) (bnew _ (.cells #[.int .i64 b0, .int .i64 b1, .int .i64 b2] 43))) (Nat.le_refl _) (bnew _ (.cells #[.int .i64 (a0 + b0), .int .i64 (a1 + b1), .int .i64 (a2 + b2)] 43)))
  have u0 : IntKind.i64.wrap (a0 + b0) = a0 + b0 := by rw [IntKind.wrap_i64]; omega
  have u1 : IntKind.i64.wrap (a1 + b1) = a1 + b1 := by rw [IntKind.wrap_i64]; omega
  have u2 : IntKind.i64.wrap (a2 + b2) = a2 + b2 := by rw [IntKind.wrap_i64]; omega
  clear ha hb
  go_enter Try.func27, Try.ntmps27
  go_wp2_with fail
  exact bodyPost_ret (v := v3v (a0 + b0) (a1 + b1) (a2 + b2)) (by simp [results, Try.results27, go_sem]) rfl ⟨rfl, HB.out⟩

set_option maxRecDepth 100000 in
set_option maxHeartbeats 2000000 in
theorem vscaled9_any (a0 a1 a2 s b0 b1 b2 : Int) (e0 : IntKind.i64.wrap (a0 * s) = b0) (e1 : IntKind.i64.wrap (a1 * s) = b1) (e2 : IntKind.i64.wrap (a2 * s) = b2) (w : World) :
    Calls Try.prog 29 #[v3v a0 a1 a2, .int .i64 s] w fun e w' => e = .returned (v3v b0 b1 b2) ∧ Below w.heap.size w w' := by
  have HB := hide (bnext (bnew w (.cells #[.int .i64 a0, .int .i64 a1, .int .i64 a2] 43)) (Nat.le_refl _) (bnew _ (.cells #[.int .i64 b0, .int .i64 b1, .int .i64 b2] 43)))
  go_enter Try.func29, Try.ntmps29
  go_wp2_with fail
  exact bodyPost_ret (v := v3v b0 b1 b2) (by simp [results, Try.results29, go_sem]) rfl ⟨rfl, HB.out⟩

set_option maxRecDepth 100000 in
set_option maxHeartbeats 2000000 in
theorem l7At_any (X Y Z : Int) (a : Option Addr) (n cap : Nat) (f : Nat → Int) (hX : 1 ≤ X ∧ X ≤ 32) (hY : 1 ≤ Y ∧ Y ≤ 32) (hZ : 1 ≤ Z ∧ Z ≤ 32) (hn : (n : Int) = X * Y * Z) (x y z : Int) (w : World) (h : Px a n f w) :
    Calls Try.prog 15 #[vVolume X Y Z a n cap, .int .i64 x, .int .i64 y, .int .i64 z] w fun e w' => e = .returned (.int .i64 (vAt X Y Z f x y z)) ∧ Below w.heap.size w w' := by
  have HS0 := hide ((St.start w).box [.int .i64 X, .int .i64 Y, .int .i64 Z, .slice a n cap] 28)
  have HP := hide (h.below HS0.out.below)
  clear h
  unfold vAt
  cases hq : in3 X Y Z x y z
  · have hno : ¬ ((0 ≤ x ∧ x < X) ∧ (0 ≤ y ∧ y < Y) ∧ (0 ≤ z ∧ z < Z)) := fun e => by rw [in3_iff.2 e] at hq; cases hq
    rw [if_neg (by simp)]
    clear hq HP hn
    by_cases h1 : x < 0
    · go_enter Try.func15, Try.ntmps15
      go_wp2_with fail
      go_ret
      exact ⟨rfl, HS0.out.below⟩
    by_cases h2 : y < 0
    · go_enter Try.func15, Try.ntmps15
      go_wp2_with fail
      go_ret
      exact ⟨rfl, HS0.out.below⟩
    by_cases h3 : z < 0
    · go_enter Try.func15, Try.ntmps15
      go_wp2_with fail
      go_ret
      exact ⟨rfl, HS0.out.below⟩
    by_cases h4 : X ≤ x
    · go_enter Try.func15, Try.ntmps15
      go_wp2_with fail
      go_ret
      exact ⟨rfl, HS0.out.below⟩
    by_cases h5 : Y ≤ y
    · go_enter Try.func15, Try.ntmps15
      go_wp2_with fail
      go_ret
      exact ⟨rfl, HS0.out.below⟩
    have h6 : Z ≤ z := by omega
    clear hno
    go_enter Try.func15, Try.ntmps15
    go_wp2_with fail
    go_ret
    exact ⟨rfl, HS0.out.below⟩
  · obtain ⟨⟨b1, b2⟩, ⟨b3, b4⟩, b5, b6⟩ := in3_iff.1 hq
    obtain ⟨m1, m2, p0, p1⟩ := place3 hq hX.2 hY.2 hZ.2 hn
    rw [if_pos rfl]
    obtain ⟨b, off, rfl, hy⟩ := HP.out.at (k := ((z * Y + y) * X + x).toNat) (by omega)
    have h1 : ¬ x < 0 := by omega
    have h2 : ¬ y < 0 := by omega
    have h3 : ¬ z < 0 := by omega
    have h4 : ¬ X ≤ x := by omega
    have h5 : ¬ Y ≤ y := by omega
    have h6 : ¬ Z ≤ z := by omega
    obtain ⟨A, hA⟩ : ∃ A, A = z * Y := ⟨_, rfl⟩
    have wA : IntKind.i64.wrap (z * Y) = A := by rw [← hA, IntKind.wrap_i64]; omega
    rw [← hA] at hy p0 p1 m2 m1
    obtain ⟨B, hB⟩ : ∃ B, B = (A + y) * X := ⟨_, rfl⟩
    have wB : IntKind.i64.wrap ((A + y) * X) = B := by rw [← hB, IntKind.wrap_i64]; omega
    rw [← hB] at hy p0 p1 m2
    have HR : Hid (f ((z * Y + y) * X + x).toNat = f (B + x).toNat) := by show f _ = _; rw [← hA, ← hB]
    obtain ⟨t, ht⟩ : ∃ t, (B + x).toNat = t := ⟨_, rfl⟩
    rw [ht] at hy HR
    generalize f t = v at *
    clear hq hn HP hA hB
    go_enter Try.func15, Try.ntmps15
    go_wp2_with fail
    go_ret
    exact ⟨by rw [HR.out]; rfl, HS0.out.below⟩

end Go.Proofs.Ytkkmoidbnbpfkaa

/- The grid of an image: spots and places. -/
import Derived.Test.YtekoioggamhlaaaHom
import Derived.Test.YtekoioggamhlaaaSpt
import Derived.BigRegion
namespace Go.Proofs.Ytekoioggamhlaaa
open Go.RowKit

/-- a grid as a value -/
abbrev gv (W H : Int) : Value := .agg #[.int .i64 W, .int .i64 H]
/-- does a spot stand in the grid -/
def hasB (W H x y : Int) : Bool := inB x 0 (W - 1) && inB y 0 (H - 1)
theorem hasB_iff {W H x y : Int} : hasB W H x y = true ↔ (0 ≤ x ∧ x < W) ∧ (0 ≤ y ∧ y < H) := by
  unfold hasB inB
  simp
  omega
theorem place_lt {W H x y : Int} {n : Nat} (h : hasB W H x y = true) (hn : (n : Int) = W * H) : 0 ≤ y * W + x ∧ y * W + x < n := by
  obtain ⟨⟨a, b⟩, c, d⟩ := hasB_iff.1 h
  have h1 : 0 ≤ y * W := Int.mul_nonneg c (by omega)
  have h2 : y * W ≤ (H - 1) * W := Int.mul_le_mul_of_nonneg_right (by omega) (by omega)
  rw [Int.sub_mul, Int.mul_comm H W] at h2
  omega

set_option maxRecDepth 100000 in
set_option maxHeartbeats 1000000 in
theorem spotAt_any (W H p : Int) (hW : 1 ≤ W) (hW' : W ≤ 64) (hp : 0 ≤ p) (hp' : p < 4096) (w : World) :
    Calls Try.prog 49 #[gv W H, .int .i64 p] w fun e w' => e = .returned (vSpot2 (p % W) (p / W)) ∧ Below w.heap.size w w' := by
  have HS0 := hide (((St.start w).box [.int .i64 W, .int .i64 H] 47).box' [.int .i64 0, .int .i64 0] 82 (b := w.heap.size + 1) (by simp))
  have e1 : p.tmod W = p % W := Int.tmod_eq_emod_of_nonneg hp
  have e2 : p.tdiv W = p / W := Int.tdiv_eq_ediv_of_nonneg hp
  have hne : W ≠ 0 := by omega
  have h3 : 0 ≤ p / W := Int.ediv_nonneg hp (by omega)
  have h4 : p / W ≤ p := Int.ediv_le_self W hp
  have e3 : wrap64 (p / W) = p / W := by unfold wrap64; omega
  clear h3 h4
  go_enter Try.func49, Try.ntmps49
  go_wp2_with fail
  go_region
  go_wp2
  refine bodyPost_ret (v := vSpot2 (p % W) (p / W)) (by simp [results, Try.results49, go_sem]) rfl ⟨rfl, ?_⟩
  exact ((bnew _ _).alloc (by simp) _).drew

theorem within_of (x lo hi : Int) (w : World) :
    Calls Try.prog 48 #[.int .i64 x, .int .i64 lo, .int .i64 hi] w fun e w' => e = .returned (.bool (inB x lo hi)) ∧ w' = w := within_any x lo hi w

set_option maxRecDepth 100000 in
set_option maxHeartbeats 1000000 in
theorem has_any (W H x y : Int) (hW : 1 ≤ W) (hW' : W ≤ 64) (hH : 1 ≤ H) (hH' : H ≤ 64) (w : World) :
    Calls Try.prog 50 #[gv W H, vSpot2 x y] w fun e w' => e = .returned (.bool (hasB W H x y)) ∧ Below w.heap.size w w' := by
  have HS0 := hide (((St.start w).box [.int .i64 W, .int .i64 H] 47).box' [.int .i64 x, .int .i64 y] 82 (b := w.heap.size + 1) (by simp))
  unfold hasB
  have c1 := fun w' => within_any x 0 (W - 1) w'
  have c2 := fun w' => within_any y 0 (H - 1) w'
  generalize inB x 0 (W - 1) = P at *
  generalize inB y 0 (H - 1) = Q at *
  cases P
  · go_enter Try.func50, Try.ntmps50
    go_wp2_with fail
    refine (c1 _).mono ?_
    rintro e w1 ⟨rfl, rfl⟩
    go_wp2_with fail
    go_ret
    exact ⟨rfl, HS0.out.below⟩
  · go_enter Try.func50, Try.ntmps50
    go_wp2_with fail
    refine (c1 _).mono ?_
    rintro e w1 ⟨rfl, rfl⟩
    go_wp2_with fail
    refine (c2 _).mono ?_
    rintro e w2 ⟨rfl, rfl⟩
    go_wp2_with fail
    go_ret
    exact ⟨by simp, HS0.out.below⟩

set_option maxRecDepth 100000 in
set_option maxHeartbeats 1000000 in
theorem placeOf_any (W H x y : Int) (hW : 1 ≤ W) (hW' : W ≤ 64) (hx : 0 ≤ x) (hx' : x ≤ 64) (hy : 0 ≤ y) (hy' : y ≤ 64) (w : World) :
    Calls Try.prog 51 #[gv W H, vSpot2 x y] w fun e w' => e = .returned (.int .i64 (y * W + x)) ∧ Below w.heap.size w w' := by
  have HS0 := hide (((St.start w).box [.int .i64 W, .int .i64 H] 47).box' [.int .i64 x, .int .i64 y] 82 (b := w.heap.size + 1) (by simp))
  have hb : (y * W).natAbs ≤ 64 * 64 := natb (by omega) (by omega)
  have e1 : wrap64 (y * W) = y * W := by unfold wrap64; omega
  have e2 : wrap64 (y * W + x) = y * W + x := by unfold wrap64; omega
  clear hb
  go_enter Try.func51, Try.ntmps51
  go_wp2_with fail
  go_ret
  exact ⟨congrArg (fun z => Ending.returned (Value.int .i64 z)) e2, HS0.out.below⟩

end Go.Proofs.Ytekoioggamhlaaa

/- The law FnExactCxTurn, walked: both turns give the same two floats. -/
import Derived.Test.YtepgelalkfgdlaaTurn
namespace Go.Proofs.Ytepgelalkfgdlaa
open Ieee Go.RowKit
attribute [local go_sem] run_store_float alloc_drewN setCell_drewN shape?_drewN

/-- two complex numbers that are one value are told so -/
theorem eqCx_any (a b c d : Nat) (h1 : same a c) (h2 : same b d) (w : World) :
    Calls Try.prog 44 #[.agg #[.float .f64 a, .float .f64 b], .agg #[.float .f64 c, .float .f64 d]] w fun e w' => e = .returned (.bool true) ∧ Below w.heap.size w w' := by
  go_enter Try.func44, Try.ntmps44
  go_wp2_with fail
  refine (sameFloat_any _ _ h1 _).mono ?_
  rintro e w1 ⟨rfl, rfl⟩
  go_wp2_with fail
  refine (sameFloat_any _ _ h2 _).mono ?_
  rintro e w2 ⟨rfl, rfl⟩
  go_wp2_with fail
  go_ret
  exact ⟨rfl, by go_grown⟩

theorem fnExactCxTurn_walk (a b : Nat) (k : Int) (w : World) :
    Calls Try.prog 14 #[.agg #[.float .f64 a, .float .f64 b], .int .i64 k] w fun e w' => e = .returned (.bool true) ∧ Below w.heap.size w w' := by
  have hz : w.heap.size + 1 ≤ (w.alloc (.cells #[.float .f64 a, .float .f64 b] 54)).heap.size := by simp
  go_enter Try.func14, Try.ntmps14
  go_wp2_with fail
  refine (toCx_any _ _ _).mono ?_
  rintro e w1 ⟨rfl, hb1⟩
  have B1 := Below.next (Below.refl _ _) hz hb1
  go_wp2_with fail
  refine (turn_spec _ _ _ _).mono ?_
  rintro e w2 ⟨rfl, hb2⟩
  have B2 := Below.next B1 hz hb2
  obtain ⟨c20, c21⟩ := box2 B2
  have l2 := box_lt B2
  go_wp2_with fail
  refine (toCx_any _ _ _).mono ?_
  rintro e w3 ⟨rfl, hb3⟩
  have B3 := Below.next (Below.refl _ _) (box_start _ _) hb3
  go_wp2_with fail
  refine (turn_impl _ _ _ _).mono ?_
  rintro e w4 ⟨rfl, hb4⟩
  have B4 := Below.next B3 (box_start _ _) hb4
  obtain ⟨c40, c41⟩ := box2 B4
  have l4 := box_lt B4
  go_wp2_with fail
  refine (eqCx_any _ _ _ _ (same_rfl _) (same_rfl _) _).mono ?_
  rintro e w5 ⟨rfl, hb5⟩
  go_wp2_with fail
  go_ret
  refine ⟨rfl, box2_below (B2.trans ?_)⟩
  have q4 : Below (w.heap.size + 1) w2 w4 := (box2_below B4).mono (by omega)
  have q5 := (Below.refl (w.heap.size + 1) w4).alloc (by omega) (.cells #[.float .f64 (tRe (k % 4) a b), .float .f64 (tIm (k % 4) a b)] 39)
  exact q4.trans (q5.trans (hb5.mono (by simp; omega)))

end Go.Proofs.Ytepgelalkfgdlaa

/- The law FnExactCxSize: at every complex number the program's size is the specification's. No condition. -/
import Derived.Test.YtepgelalkfgdlaaCx
namespace Go.Proofs.Ytepgelalkfgdlaa
open Ieee Go.RowKit

set_option maxHeartbeats 400000 in
theorem fnExactCxSize_walk (a b : Nat) (w : World) :
    Calls Try.prog 15 #[.agg #[.float .f64 a, .float .f64 b]] w fun e w' => e = .returned (.bool true) ∧ Below w.heap.size w w' := by
  have hz : w.heap.size + 1 ≤ (w.alloc (.cells #[.float .f64 a, .float .f64 b] 54)).heap.size := by simp
  go_enter Try.func15, Try.ntmps15
  go_wp2_with fail
  refine (toCx_any _ _ _).mono ?_
  rintro e w1 ⟨rfl, hb1⟩
  have B1 := Below.next (Below.refl _ _) hz hb1
  go_wp2_with fail
  refine (size_spec _ _ _).mono ?_
  rintro e w2 ⟨⟨r, rfl, hr⟩, hb2⟩
  have B2 := Below.next B1 hz hb2
  obtain ⟨c20, c21⟩ := box2 B2
  go_wp2_with fail
  refine (toCx_any _ _ _).mono ?_
  rintro e w3 ⟨rfl, hb3⟩
  have B3 := Below.next B2 hz hb3
  go_wp2_with fail
  refine (size_impl _ _ _).mono ?_
  rintro e w4 ⟨⟨r', rfl, hr'⟩, hb4⟩
  have B4 := Below.next B3 hz hb4
  have hs := IsSize.same hr' hr
  go_wp2_with fail
  refine (sameFloat_any _ _ hs _).mono ?_
  rintro e w5 ⟨rfl, rfl⟩
  go_wp2_with fail
  go_ret
  exact ⟨rfl, box2_below B4⟩

end Go.Proofs.Ytepgelalkfgdlaa

/- Contracts of the two CxAdd, with the world that they leave. -/
import Derived.Test.YtfgjooddolnifaaFtu
import Derived.Deep.RegionWith
namespace Go.Proofs.Ytfgjooddolnifaa
open Ieee Go.RowKit
attribute [local go_sem] run_store_float run_fadd run_fsub run_fmul run_fquo run_cadd alloc_drewN setCell_drewN shape?_drewN run_fneg

/-- a pair of floats -/
abbrev cx (a b : Nat) : Value := .agg #[.float .f64 a, .float .f64 b]
abbrev cellL (a b : Nat) : Obj := .cells #[.float .f64 a, .float .f64 b] 49
abbrev cellI (a b : Nat) : Obj := .cells #[.float .f64 a, .float .f64 b] 34

theorem toCx_exact (a b : Nat) (w : World) :
    Calls Try.prog 28 #[cx a b] w fun e w' => e = .returned (cx a b) ∧ w' = ((w.alloc (cellL a b)).alloc (cellI a b)).alloc (cellI a b) := by
  go_enter Try.func28, Try.ntmps28
  go_wp2
  go_returns
  exact ⟨rfl, rfl⟩

theorem toNative_exact (a b : Nat) (w : World) :
    Calls Try.prog 63 #[cx a b] w fun e w' => e = .returned (.complex .f64 a b) ∧ w' = w.alloc (cellI a b) := by
  go_enter Try.func63, Try.ntmps63
  go_wp2
  go_returns
  exact ⟨rfl, rfl⟩

theorem fromNative_exact (a b : Nat) (w : World) :
    Calls Try.prog 62 #[.complex .f64 a b] w fun e w' => e = .returned (cx a b) ∧ w' = w.alloc (cellI a b) := by
  go_enter Try.func62, Try.ntmps62
  go_wp2
  go_returns
  exact ⟨rfl, rfl⟩

theorem add_spec (a b c d : Nat) (w : World) :
    Calls Try.prog 44 #[cx a b, cx c d] w fun e w' => ∃ r s n, e = .returned (cx r s) ∧ w' = (((w.alloc (cellI a b)).alloc (cellI c d)).alloc (cellI r s)).drewN n ∧ Res .add a c r ∧ Res .add b d s := by
  go_enter Try.func44, Try.ntmps44
  go_wp2
  go_returns
  exact ⟨_, _, _, rfl, rfl, fval_res _ _ _ _, fval_res _ _ _ _⟩

set_option maxHeartbeats 1000000 in
theorem add_impl (a b c d : Nat) (w : World) :
    Calls Try.prog 47 #[cx a b, cx c d] w fun e w' => ∃ r s n, e = .returned (cx r s) ∧ w' = ((((((w.alloc (cellI a b)).alloc (cellI c d)).alloc (cellI r s)).alloc (cellI a b)).alloc (cellI c d)).alloc (cellI r s)).drewN n ∧ Res .add a c r ∧ Res .add b d s := by
  go_enter Try.func47, Try.ntmps47
  go_wp2
  go_region_with (first | (go_at_call 63; refine (toNative_exact _ _ _).mono ?_; rintro e w1 ⟨rfl, rfl⟩) | (go_at_call 62; refine (fromNative_exact _ _ _).mono ?_; rintro e w1 ⟨rfl, rfl⟩))
  all_goals
    go_wp2
    go_returns
    exact ⟨_, _, _, rfl, rfl, fval_res _ _ _ _, fval_res _ _ _ _⟩

theorem add_spec_b (a b c d : Nat) (w : World) :
    Calls Try.prog 44 #[cx a b, cx c d] w fun e w' => ∃ r s, e = .returned (cx r s) ∧ Below w.heap.size w w' ∧ Res .add a c r ∧ Res .add b d s := by
  refine (add_spec a b c d w).mono ?_
  rintro e w1 ⟨r, s, n, rfl, rfl, h1, h2⟩
  exact ⟨r, s, rfl, below_drewN (by go_grown) _, h1, h2⟩

theorem add_impl_b (a b c d : Nat) (w : World) :
    Calls Try.prog 47 #[cx a b, cx c d] w fun e w' => ∃ r s, e = .returned (cx r s) ∧ Below w.heap.size w w' ∧ Res .add a c r ∧ Res .add b d s := by
  refine (add_impl a b c d w).mono ?_
  rintro e w1 ⟨r, s, n, rfl, rfl, h1, h2⟩
  exact ⟨r, s, rfl, below_drewN (by go_grown) _, h1, h2⟩

section
attribute [-go_sem] run_fadd run_fsub run_fmul run_fquo run_cadd run_fneg
/-- two complex numbers that are one value are told so -/
theorem eqCx_any (a b c d : Nat) (h1 : same a c) (h2 : same b d) (w : World) :
    Calls Try.prog 30 #[.agg #[.float .f64 a, .float .f64 b], .agg #[.float .f64 c, .float .f64 d]] w fun e w' => e = .returned (.bool true) ∧ Below w.heap.size w w' := by
  go_enter Try.func30, Try.ntmps30
  go_wp2_with fail
  refine (sameFloat_any _ _ h1 _).mono ?_
  rintro e w1 ⟨rfl, rfl⟩
  go_wp2_with fail
  refine (sameFloat_any _ _ h2 _).mono ?_
  rintro e w2 ⟨rfl, rfl⟩
  go_wp2_with fail
  go_ret
  exact ⟨rfl, by go_grown⟩

end
end Go.Proofs.Ytfgjooddolnifaa

/- Contracts of the two CxAdd, with the world that they leave. -/
import Derived.Test.YtepgelalkfgdlaaTurn
import Derived.Deep.RegionWith
namespace Go.Proofs.Ytepgelalkfgdlaa
open Ieee Go.RowKit
attribute [local go_sem] run_store_float run_fadd run_fsub run_fmul run_fquo run_cadd alloc_drewN setCell_drewN shape?_drewN run_fneg

/-- a pair of floats -/
abbrev cx (a b : Nat) : Value := .agg #[.float .f64 a, .float .f64 b]
abbrev cell54 (a b : Nat) : Obj := .cells #[.float .f64 a, .float .f64 b] 54
abbrev cell39 (a b : Nat) : Obj := .cells #[.float .f64 a, .float .f64 b] 39

theorem toCx_exact (a b : Nat) (w : World) :
    Calls Try.prog 43 #[cx a b] w fun e w' => e = .returned (cx a b) ∧ w' = ((w.alloc (cell54 a b)).alloc (cell39 a b)).alloc (cell39 a b) := by
  go_enter Try.func43, Try.ntmps43
  go_wp2
  go_returns
  exact ⟨rfl, rfl⟩

theorem toNative_exact (a b : Nat) (w : World) :
    Calls Try.prog 72 #[cx a b] w fun e w' => e = .returned (.complex .f64 a b) ∧ w' = w.alloc (cell39 a b) := by
  go_enter Try.func72, Try.ntmps72
  go_wp2
  go_returns
  exact ⟨rfl, rfl⟩

theorem fromNative_exact (a b : Nat) (w : World) :
    Calls Try.prog 73 #[.complex .f64 a b] w fun e w' => e = .returned (cx a b) ∧ w' = w.alloc (cell39 a b) := by
  go_enter Try.func73, Try.ntmps73
  go_wp2
  go_returns
  exact ⟨rfl, rfl⟩

theorem add_spec (a b c d : Nat) (w : World) :
    Calls Try.prog 42 #[cx a b, cx c d] w fun e w' => ∃ r s n, e = .returned (cx r s) ∧ w' = (((w.alloc (cell39 a b)).alloc (cell39 c d)).alloc (cell39 r s)).drewN n ∧ Res .add a c r ∧ Res .add b d s := by
  go_enter Try.func42, Try.ntmps42
  go_wp2
  go_returns
  exact ⟨_, _, _, rfl, rfl, fval_res _ _ _ _, fval_res _ _ _ _⟩

set_option maxHeartbeats 1000000 in
theorem add_impl (a b c d : Nat) (w : World) :
    Calls Try.prog 40 #[cx a b, cx c d] w fun e w' => ∃ r s n, e = .returned (cx r s) ∧ w' = ((((((w.alloc (cell39 a b)).alloc (cell39 c d)).alloc (cell39 r s)).alloc (cell39 a b)).alloc (cell39 c d)).alloc (cell39 r s)).drewN n ∧ Res .add a c r ∧ Res .add b d s := by
  go_enter Try.func40, Try.ntmps40
  go_wp2
  go_region_with (first | (go_at_call 72; refine (toNative_exact _ _ _).mono ?_; rintro e w1 ⟨rfl, rfl⟩) | (go_at_call 73; refine (fromNative_exact _ _ _).mono ?_; rintro e w1 ⟨rfl, rfl⟩))
  all_goals
    go_wp2
    go_returns
    exact ⟨_, _, _, rfl, rfl, fval_res _ _ _ _, fval_res _ _ _ _⟩

end Go.Proofs.Ytepgelalkfgdlaa

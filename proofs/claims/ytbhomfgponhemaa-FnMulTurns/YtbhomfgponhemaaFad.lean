/- Contracts of the two CxAdd, with the world that they leave. -/
import Derived.Test.YtbhomfgponhemaaFtu
import Derived.Deep.RegionWith
namespace Go.Proofs.Ytbhomfgponhemaa
open Ieee Go.RowKit
attribute [local go_sem] run_store_float run_fadd run_fsub run_fmul run_fquo run_cadd alloc_drewN setCell_drewN shape?_drewN run_fneg

/-- a pair of floats -/
abbrev cx (a b : Nat) : Value := .agg #[.float .f64 a, .float .f64 b]
abbrev cellL (a b : Nat) : Obj := .cells #[.float .f64 a, .float .f64 b] 34
abbrev cellI (a b : Nat) : Obj := .cells #[.float .f64 a, .float .f64 b] 26

theorem toCx_exact (a b : Nat) (w : World) :
    Calls Try.prog 12 #[cx a b] w fun e w' => e = .returned (cx a b) ∧ w' = ((w.alloc (cellL a b)).alloc (cellI a b)).alloc (cellI a b) := by
  go_enter Try.func12, Try.ntmps12
  go_wp2
  go_returns
  exact ⟨rfl, rfl⟩

theorem toNative_exact (a b : Nat) (w : World) :
    Calls Try.prog 17 #[cx a b] w fun e w' => e = .returned (.complex .f64 a b) ∧ w' = w.alloc (cellI a b) := by
  go_enter Try.func17, Try.ntmps17
  go_wp2
  go_returns
  exact ⟨rfl, rfl⟩

theorem fromNative_exact (a b : Nat) (w : World) :
    Calls Try.prog 15 #[.complex .f64 a b] w fun e w' => e = .returned (cx a b) ∧ w' = w.alloc (cellI a b) := by
  go_enter Try.func15, Try.ntmps15
  go_wp2
  go_returns
  exact ⟨rfl, rfl⟩

section
attribute [-go_sem] run_fadd run_fsub run_fmul run_fquo run_cadd run_fneg
/-- two complex numbers that are one value are told so -/
theorem eqCx_any (a b c d : Nat) (h1 : same a c) (h2 : same b d) (w : World) :
    Calls Try.prog 13 #[.agg #[.float .f64 a, .float .f64 b], .agg #[.float .f64 c, .float .f64 d]] w fun e w' => e = .returned (.bool true) ∧ Below w.heap.size w w' := by
  go_enter Try.func13, Try.ntmps13
  go_wp2_with fail
  refine (sameFloat_any _ _ h1 _).mono ?_
  rintro e w1 ⟨rfl, rfl⟩
  go_wp2_with fail
  refine (sameFloat_any _ _ h2 _).mono ?_
  rintro e w2 ⟨rfl, rfl⟩
  go_wp2_with fail
  go_ret
  exact ⟨rfl, by go_grown⟩

end
end Go.Proofs.Ytbhomfgponhemaa

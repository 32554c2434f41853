/- The law FnExactOrderFloats, walked: both tell the order of the keys. -/
import Derived.Test.YtepgelalkfgdlaaOrdC
import Derived.Test.YtepgelalkfgdlaaLawToBits
namespace Go.Proofs.Ytepgelalkfgdlaa
open Ieee Go.RowKit Fl

theorem fnExactOrderFloats_walk (a b : Nat) (ha : (Lit.float .f64 a).wf = true) (hb : (Lit.float .f64 b).wf = true) (w : World) :
    Calls Try.prog 11 #[.float .f64 a, .float .f64 b] w fun e w' => e = .returned (.bool true) ∧ Below w.heap.size w w' := by
  have h1 := order_spec a b
  have h2 := order_impl a b (wf_lt ha) (wf_lt hb)
  clear ha hb
  generalize cmpI (okey a) (okey b) = c at *
  go_enter Try.func11, Try.ntmps11
  go_wp2_with fail
  refine (h1 _).mono ?_
  rintro e w' ⟨rfl, rfl⟩
  go_wp2_with fail
  refine (h2 _).mono ?_
  rintro e w' ⟨rfl, rfl⟩
  go_wp2_with fail
  go_ret
  exact ⟨rfl, Below.refl _ _⟩

end Go.Proofs.Ytepgelalkfgdlaa

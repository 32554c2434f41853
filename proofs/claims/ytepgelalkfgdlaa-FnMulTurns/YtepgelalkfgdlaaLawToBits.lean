/- The law FnExactToBits, walked: both tell the word itself, and one word of every NaN. -/
import Derived.Test.YtepgelalkfgdlaaToBits2
namespace Go.Proofs.Ytepgelalkfgdlaa
open Ieee Go.RowKit Fl

theorem wf_lt {b : Nat} (h : (Lit.float .f64 b).wf = true) : b < 2 ^ 64 := by
  simpa [Lit.wf] using h

theorem fnExactToBits_walk (b : Nat) (hb : (Lit.float .f64 b).wf = true) (w : World) :
    Calls Try.prog 7 #[.float .f64 b] w fun e w' => e = .returned (.bool true) ∧ Below w.heap.size w w' := by
  have h1 := toBits_spec b (wf_lt hb)
  have h2 := toBits_impl b (wf_lt hb)
  clear hb
  generalize canon b = c at *
  go_enter Try.func7, Try.ntmps7
  go_wp2_with fail
  refine (h1 _).mono ?_
  rintro e w' ⟨rfl, rfl⟩
  go_wp2_with fail
  refine (h2 _).mono ?_
  rintro e w' ⟨rfl, rfl⟩
  go_wp2_with fail
  go_ret
  exact ⟨rfl, Below.refl _ _⟩

end Go.Proofs.Ytepgelalkfgdlaa

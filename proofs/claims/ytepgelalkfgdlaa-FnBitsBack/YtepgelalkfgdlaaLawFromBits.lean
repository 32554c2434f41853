/- The law FnExactFromBits, walked. -/
import Derived.Test.YtepgelalkfgdlaaFrom2
import Derived.OpenShut
namespace Go.Proofs.Ytepgelalkfgdlaa
open Ieee Go.RowKit Fl

theorem same_symm {a b : Nat} (h : same a b) : same b a := by
  rcases h with h | ⟨h1, h2⟩
  · exact .inl h.symm
  · exact .inr ⟨h2, h1⟩
theorem same_trans {a b c : Nat} (h : same a b) (k : same b c) : same a c := by
  rcases h with rfl | ⟨h1, h2⟩
  · exact k
  · rcases k with rfl | ⟨k1, k2⟩
    · exact .inr ⟨h1, h2⟩
    · exact .inr ⟨h1, k2⟩

theorem nat_u64 {a : Int} (h : (Lit.int .u64 a).wf = true) : ∃ b : Nat, a = b ∧ b < 2 ^ 64 := by
  have hb := bounds_u64 h
  exact ⟨a.toNat, by omega, by omega⟩

theorem fnExactFromBits_walk (a : Int) (ha : (Lit.int .u64 a).wf = true) (w : World) :
    Calls Try.prog 8 #[.int .u64 a] w fun e w' => e = .returned (.bool true) ∧ Below w.heap.size w w' := by
  obtain ⟨b, rfl, hb⟩ := nat_u64 ha
  have h1 := fromBits_spec b hb
  have h2 := fromBits_impl b hb
  clear ha hb
  go_enter Try.func8, Try.ntmps8
  go_wp2_with fail
  refine (h1 _).mono ?_
  rintro e w' ⟨x, n, rfl, rfl, hx⟩
  go_wp2_with fail
  refine (h2 _).mono ?_
  rintro e w' ⟨y, m, rfl, rfl, hy⟩
  have hs := same_trans hy (same_symm hx)
  go_wp2_with fail
  refine (sameFloat_any _ _ hs _).mono ?_
  rintro e w' ⟨rfl, rfl⟩
  go_wp2_with fail
  go_ret
  exact ⟨rfl, below_drewN (Below.refl _ _) _⟩

end Go.Proofs.Ytepgelalkfgdlaa

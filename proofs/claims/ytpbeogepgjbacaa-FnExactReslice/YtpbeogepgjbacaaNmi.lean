/- (without l1Mod) Whole numbers: remainders, floors, bounds. -/
import Derived.Test.YtpbeogepgjbacaaLst
namespace Go.Proofs.Ytpbeogepgjbacaa
open Go.RowKit

theorem n_tmod_bd (x : Int) {m : Nat} (h : 1 ≤ m) : -(m : Int) < x.tmod m ∧ x.tmod m < m := by
  have h1 : x.tmod m < m := Int.tmod_lt_of_pos x (by omega)
  have h2 : -(m : Int) < x.tmod m := Int.lt_tmod_of_pos x (by omega)
  exact ⟨h2, h1⟩
theorem n_tmod_cases (x : Int) (m : Nat) : x.tmod m = x % m ∨ x.tmod m = x % m - m := by
  rw [Int.tmod_eq_emod]
  split
  · exact .inl (by omega)
  · exact .inr (by simp)
theorem n_emod_bd (x : Int) {m : Nat} (h : 1 ≤ m) : 0 ≤ x % (m : Int) ∧ x % (m : Int) < m := ⟨Int.emod_nonneg _ (by omega), Int.emod_lt_of_pos _ (by omega)⟩
theorem n_mod_spec (x : Int) {m : Nat} (h : 1 ≤ m) : (if x.tmod m < 0 then x.tmod m + m else x.tmod m) = x % m := by
  have := n_emod_bd x h
  rcases n_tmod_cases x m with e | e <;> rw [e]
  · rw [if_neg (by omega)]
  · rw [if_pos (by omega)]; omega
theorem n_mod_impl (x : Int) {m : Nat} (h : 1 ≤ m) : (x.tmod m + m).tmod m = x % m := by
  have := n_tmod_bd x h
  rw [Int.tmod_eq_emod_of_nonneg (by omega), Int.add_emod_right]
  rcases n_tmod_cases x m with e | e <;> rw [e]
  · exact Int.emod_emod_of_dvd _ (Int.dvd_refl _)
  · rw [Int.sub_emod_right]; exact Int.emod_emod_of_dvd _ (Int.dvd_refl _)

theorem n_modulo_any (x : Int) (m : Nat) (h1 : 1 ≤ m) (h2 : m ≤ 1099511627776) (w : World) :
    Calls Try.prog 57 #[.int .i64 x, .int .i64 m] w fun e w' => e = .returned (.int .i64 (x % m)) ∧ w' = w := by
  have hs := n_mod_impl x h1
  have hb := n_tmod_bd x h1
  have hb2 := n_emod_bd x h1
  have hm0 : ((m : Int) == 0) = false := by simp; omega
  have hw : IntKind.i64.wrap (x.tmod m) = x.tmod m := by rw [IntKind.wrap_i64]; omega
  have hw2 : IntKind.i64.wrap (x.tmod m + m) = x.tmod m + m := by rw [IntKind.wrap_i64]; omega
  have hw3 : IntKind.i64.wrap ((x.tmod m + m).tmod m) = x % m := by rw [hs, IntKind.wrap_i64]; omega
  go_enter Try.func57, Try.ntmps57
  go_wp2
  go_ret
  exact ⟨by first | rfl | rw [hs] | rw [hw3], rfl⟩

end Go.Proofs.Ytpbeogepgjbacaa

/- Whole numbers: remainders, floors, bounds. -/
import Derived.Test.YtedjnemijeaeoaaLst
namespace Go.Proofs.Ytedjnemijeaeoaa
open Go.RowKit

theorem n_tmod_bd (x : Int) {m : Nat} (h : 1 ≤ m) : -(m : Int) < x.tmod m ∧ x.tmod m < m := by
  have h1 : x.tmod m < m := Int.tmod_lt_of_pos x (by omega)
  have h2 : -(m : Int) < x.tmod m := Int.lt_tmod_of_pos x (by omega)
  exact ⟨h2, h1⟩
theorem n_tmod_cases (x : Int) (m : Nat) : x.tmod m = x % m ∨ x.tmod m = x % m - m := by
  rw [Int.tmod_eq_emod]
  split
  · exact .inl (by omega)
  · exact .inr (by simp)
theorem n_emod_bd (x : Int) {m : Nat} (h : 1 ≤ m) : 0 ≤ x % (m : Int) ∧ x % (m : Int) < m := ⟨Int.emod_nonneg _ (by omega), Int.emod_lt_of_pos _ (by omega)⟩
theorem n_mod_spec (x : Int) {m : Nat} (h : 1 ≤ m) : (if x.tmod m < 0 then x.tmod m + m else x.tmod m) = x % m := by
  have := n_emod_bd x h
  rcases n_tmod_cases x m with e | e <;> rw [e]
  · rw [if_neg (by omega)]
  · rw [if_pos (by omega)]; omega
theorem n_mod_impl (x : Int) {m : Nat} (h : 1 ≤ m) : (x.tmod m + m).tmod m = x % m := by
  have := n_tmod_bd x h
  rw [Int.tmod_eq_emod_of_nonneg (by omega), Int.add_emod_right]
  rcases n_tmod_cases x m with e | e <;> rw [e]
  · exact Int.emod_emod_of_dvd _ (Int.dvd_refl _)
  · rw [Int.sub_emod_right]; exact Int.emod_emod_of_dvd _ (Int.dvd_refl _)

theorem n_l1Mod_any (x : Int) (m : Nat) (h1 : 1 ≤ m) (h2 : m ≤ 1099511627776) (w : World) :
    Calls Try.prog 64 #[.int .i64 x, .int .i64 m] w fun e w' => e = .returned (.int .i64 (x % m)) ∧ w' = w := by
  have hs := n_mod_spec x h1
  have hb := n_tmod_bd x h1
  have hm0 : ((m : Int) == 0) = false := by simp; omega
  have hw : IntKind.i64.wrap (x.tmod m) = x.tmod m := by rw [IntKind.wrap_i64]; omega
  have hw2 : IntKind.i64.wrap (x.tmod m + m) = x.tmod m + m := by rw [IntKind.wrap_i64]; omega
  generalize x % (m : Int) = z at *
  by_cases hn : x.tmod m < 0
  · rw [if_pos hn] at hs
    go_enter Try.func64, Try.ntmps64
    go_wp2
    go_ret
    exact ⟨by rw [← hs]; rfl, rfl⟩
  · rw [if_neg hn] at hs
    go_enter Try.func64, Try.ntmps64
    go_wp2
    go_ret
    exact ⟨by rw [← hs]; rfl, rfl⟩
theorem n_modulo_any (x : Int) (m : Nat) (h1 : 1 ≤ m) (h2 : m ≤ 1099511627776) (w : World) :
    Calls Try.prog 56 #[.int .i64 x, .int .i64 m] w fun e w' => e = .returned (.int .i64 (x % m)) ∧ w' = w := by
  have hs := n_mod_impl x h1
  have hb := n_tmod_bd x h1
  have hb2 := n_emod_bd x h1
  have hm0 : ((m : Int) == 0) = false := by simp; omega
  have hw : IntKind.i64.wrap (x.tmod m) = x.tmod m := by rw [IntKind.wrap_i64]; omega
  have hw2 : IntKind.i64.wrap (x.tmod m + m) = x.tmod m + m := by rw [IntKind.wrap_i64]; omega
  have hw3 : IntKind.i64.wrap ((x.tmod m + m).tmod m) = x % m := by rw [hs, IntKind.wrap_i64]; omega
  go_enter Try.func56, Try.ntmps56
  go_wp2
  go_ret
  exact ⟨by first | rfl | rw [hs] | rw [hw3], rfl⟩

theorem n_l1In_any (x lo hi : Int) (w : World) :
    Calls Try.prog 20 #[.int .i64 x, .int .i64 lo, .int .i64 hi] w fun e w' => e = .returned (.bool (inB x lo hi)) ∧ w' = w := by
  by_cases h : lo ≤ x
  · have h' : decide (lo ≤ x) = true := decide_eq_true h
    go_enter Try.func20, Try.ntmps20
    go_wp2
    go_ret
    refine ⟨?_, rfl⟩
    simp [inB, h]
  · go_enter Try.func20, Try.ntmps20
    go_wp2
    go_ret
    refine ⟨?_, rfl⟩
    simp [inB]
    omega

theorem n_within_any (x lo hi : Int) (w : World) :
    Calls Try.prog 38 #[.int .i64 x, .int .i64 lo, .int .i64 hi] w fun e w' => e = .returned (.bool (inB x lo hi)) ∧ w' = w := by
  by_cases h : lo ≤ x
  · go_enter Try.func38, Try.ntmps38
    go_wp2
    go_ret
    refine ⟨?_, rfl⟩
    simp [inB, h]
  · go_enter Try.func38, Try.ntmps38
    go_wp2
    go_ret
    refine ⟨?_, rfl⟩
    simp [inB]
    omega


theorem n_tdiv16 (x : Int) : (x.tmod 16 = 0 ∧ x.tdiv 16 = x / 16) ∨ (0 ≤ x ∧ x.tdiv 16 = x / 16) ∨ (x < 0 ∧ x.tmod 16 ≠ 0 ∧ x.tdiv 16 - 1 = x / 16) := by
  have e1 := Int.tmod_eq_emod (a := x) (b := 16)
  have e2 := Int.tdiv_eq_ediv (a := x) (b := 16)
  by_cases h : 0 ≤ x
  · exact .inr (.inl ⟨h, Int.tdiv_eq_ediv_of_nonneg h⟩)
  · by_cases h2 : (16 : Int) ∣ x
    · rw [if_pos (.inr h2)] at e1 e2
      exact .inl ⟨by omega, by omega⟩
    · rw [if_neg (by omega)] at e1 e2
      have : Int.sign 16 = 1 := rfl
      have k : (Int.natAbs 16 : Int) = 16 := rfl
      rw [this] at e2
      rw [k] at e1
      exact .inr (.inr ⟨by omega, by omega, by omega⟩)

end Go.Proofs.Ytedjnemijeaeoaa

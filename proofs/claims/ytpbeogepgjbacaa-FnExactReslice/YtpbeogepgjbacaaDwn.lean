/- Floors: l1Down by a positive number. -/
import Derived.Test.YtpbeogepgjbacaaLst
namespace Go.Proofs.Ytpbeogepgjbacaa
open Go.RowKit

theorem tdiv_floor (x : Int) {y : Nat} (hy : 1 ≤ y) : (x.tmod y = 0 ∧ x.tdiv y = x / y) ∨ (0 ≤ x ∧ x.tdiv y = x / y) ∨ (x < 0 ∧ x.tmod y ≠ 0 ∧ x.tdiv y - 1 = x / y) := by
  have e1 := Int.tmod_eq_emod (a := x) (b := (y : Int))
  have e2 := Int.tdiv_eq_ediv (a := x) (b := (y : Int))
  by_cases h : 0 ≤ x
  · exact .inr (.inl ⟨h, Int.tdiv_eq_ediv_of_nonneg h⟩)
  · by_cases h2 : (y : Int) ∣ x
    · rw [if_pos (.inr h2)] at e1 e2
      have h3 : x % (y : Int) = 0 := Int.emod_eq_zero_of_dvd h2
      exact .inl ⟨by omega, by omega⟩
    · rw [if_neg (fun hh => hh.elim h h2)] at e1 e2
      have h4 : Int.sign (y : Int) = 1 := Int.sign_eq_one_of_pos (by omega)
      have h5 : ((y : Int).natAbs : Int) = y := by omega
      have h6 : x % (y : Int) < y := Int.emod_lt_of_pos _ (by omega)
      rw [h4] at e2
      rw [h5] at e1
      exact .inr (.inr ⟨by omega, by omega, by omega⟩)

set_option maxRecDepth 100000 in
set_option maxHeartbeats 1000000 in
theorem l1Down_any (x : Int) (y : Nat) (hy : 1 ≤ y) (hy' : y ≤ 4000000000) (hx : -10000000000000 ≤ x) (hx' : x ≤ 10000000000000) (w : World) :
    Calls Try.prog 42 #[.int .i64 x, .int .i64 y] w fun e w' => e = .returned (.int .i64 (x / y)) ∧ w' = w := by
  have hne : ((y : Int)) ≠ 0 := by omega
  have hyn : ¬ (y : Int) < 0 := by omega
  have hq0 : -10000000000000 ≤ x / (y : Int) := by
    rw [Int.le_ediv_iff_mul_le (by omega)]
    have : (10000000000000 : Int) * 1 ≤ 10000000000000 * (y : Int) := Int.mul_le_mul_of_nonneg_left (by omega) (by omega)
    omega
  have hq1 : x / (y : Int) ≤ 10000000000000 := by
    by_cases h : 0 ≤ x
    · have := Int.ediv_le_self (y : Int) h
      omega
    · have : x / (y : Int) < 0 := Int.ediv_neg_of_neg_of_pos (by omega) (by omega)
      omega
  rcases tdiv_floor x hy with ⟨h1, h2⟩ | ⟨h1, h2⟩ | ⟨h1, h2, h3⟩
  · generalize x / (y : Int) = Q at *
    have e1 : IntKind.i64.wrap (x.tdiv y) = Q := by rw [h2, IntKind.wrap_i64]; omega
    go_enter Try.func42, Try.ntmps42
    go_wp2
    go_ret
    exact ⟨rfl, rfl⟩
  · have e0 : x.tmod y = x % y := Int.tmod_eq_emod_of_nonneg h1
    have h4 : ¬ x < 0 := by omega
    obtain ⟨Q, hQ⟩ : ∃ Q, x / (y : Int) = Q := ⟨_, rfl⟩
    rw [hQ] at h2 hq0 hq1 ⊢
    have e1 : IntKind.i64.wrap (x / y) = Q := by rw [hQ, IntKind.wrap_i64]; omega
    by_cases h3 : x % (y : Int) = 0
    · clear h2 e0
      go_enter Try.func42, Try.ntmps42
      go_wp2
      go_ret
      exact ⟨rfl, rfl⟩
    · have hn : (x % (y : Int) != 0) = true := by simp [h3]
      clear h2 e0
      go_enter Try.func42, Try.ntmps42
      go_wp2
      go_ret
      exact ⟨rfl, rfl⟩
  · obtain ⟨Q, hQ⟩ : ∃ Q, x.tdiv (y : Int) = Q := ⟨_, rfl⟩
    rw [hQ] at h3
    rw [← h3] at hq0 hq1 ⊢
    have e1 : IntKind.i64.wrap (x.tdiv y) = Q := by rw [hQ, IntKind.wrap_i64]; omega
    have hn : (x.tmod (y : Int) != 0) = true := by simp [h2]
    clear h3 hQ
    go_enter Try.func42, Try.ntmps42
    go_wp2
    go_ret
    exact ⟨rfl, rfl⟩

end Go.Proofs.Ytpbeogepgjbacaa

/- Descend: the program's nearest whole number. -/
import Derived.Test.YtcdklkebedpmnaaDcn
import Derived.Test.YtcdklkebedpmnaaNum
import Derived.Lib.MinMax
namespace Go.Proofs.Ytcdklkebedpmnaa
open Go.RowKit

theorem clp_mm (x : Int) : min (max x (-4095)) 4095 = clp x := by
  unfold clp; omega

set_option maxRecDepth 100000 in
set_option maxHeartbeats 1000000 in
theorem nearest_any (x : Int) (y : Nat) (hy : 1 ≤ y) (hy2 : y ≤ 64) (hx : -10462240 ≤ x ∧ x ≤ 10462240) (w : World) :
    Calls Try.prog 53 #[.int .i64 x, .int .i64 y] w fun e w' => e = .returned (.int .i64 (nst x y)) ∧ w' = w := by
  have cM := n_modulo_any x y hy (by omega)
  have h1 := Int.emod_nonneg x (show (y : Int) ≠ 0 by omega)
  have h2 := Int.emod_lt_of_pos x (show (0 : Int) < (y : Int) by omega)
  have h3 := Int.emod_add_mul_ediv x (y : Int)
  have hN := nst_eq x hy
  have hy0 : ((y : Int) == 0) = false := by simp; omega
  obtain ⟨q, hq⟩ : ∃ q, q = x / (y : Int) := ⟨_, rfl⟩
  obtain ⟨L, hL⟩ : ∃ L, L = x % (y : Int) := ⟨_, rfl⟩
  have hqb : -10462241 ≤ q ∧ q ≤ 10462241 := by
    rw [hq]
    refine ⟨?_, ?_⟩
    · rw [Int.le_ediv_iff_mul_le (by omega)]
      have : (10462241 : Int) * 1 ≤ 10462241 * (y : Int) := Int.mul_le_mul_of_nonneg_left (by omega) (by omega)
      omega
    · have h5 : x / (y : Int) < 10462242 := by
        rw [Int.ediv_lt_iff_lt_mul (by omega)]
        have : (10462242 : Int) * 1 ≤ 10462242 * (y : Int) := Int.mul_le_mul_of_nonneg_left (by omega) (by omega)
        omega
      omega
  rw [← hq, ← hL] at hN
  rw [← hL] at cM h1 h2 h3
  rw [← hq] at h3
  have hd : (x - L).tdiv (y : Int) = q := by
    rw [show x - L = (y : Int) * q by omega]
    exact Int.mul_tdiv_cancel_left _ (by omega)
  generalize nst x y = V at *
  have w1 : IntKind.i64.wrap (x - L) = x - L := by rw [IntKind.wrap_i64]; omega
  have w2 : IntKind.i64.wrap q = q := by rw [IntKind.wrap_i64]; omega
  have w3 : IntKind.i64.wrap ((y : Int) - L) = (y : Int) - L := by rw [IntKind.wrap_i64]; omega
  by_cases hc : (y : Int) - L ≤ L
  · rw [if_pos hc] at hN
    have w4 : IntKind.i64.wrap (q + 1) = V := by rw [IntKind.wrap_i64]; omega
    clear hq hL h1 h2 h3 hqb hx hN
    go_enter Try.func53, Try.ntmps53
    go_wp2_with fail
    refine (cM _).mono ?_
    rintro e w' ⟨rfl, rfl⟩
    go_wp2_with fail
    go_ret
    exact ⟨rfl, rfl⟩
  · rw [if_neg hc] at hN
    subst hN
    clear hq hL h1 h2 h3 hqb hx
    go_enter Try.func53, Try.ntmps53
    go_wp2_with fail
    refine (cM _).mono ?_
    rintro e w' ⟨rfl, rfl⟩
    go_wp2_with fail
    go_ret
    exact ⟨rfl, rfl⟩

end Go.Proofs.Ytcdklkebedpmnaa

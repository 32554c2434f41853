/- Sides: the specification and the program. -/
import Derived.Test.YtonbfbmepfjjfaaPic
namespace Go.Proofs.Ytonbfbmepfjjfaa
open Go.RowKit

/-- is it a side of a raster -/
def sideB (n : Int) : Bool := n == 1 || (n == 2 || (n == 4 || (n == 8 || (n == 16 || (n == 32 || n == 64)))))
theorem l3Side_any (n : Int) (w : World) : Calls Try.prog 68 #[.int .i64 n] w fun e w' => e = .returned (.bool (sideB n)) ∧ w' = w := by
  unfold sideB
  by_cases h1 : n = 1
  · subst h1; go_enter Try.func68, Try.ntmps68; go_wp2; go_ret; exact ⟨rfl, rfl⟩
  by_cases h2 : n = 2
  · subst h2; go_enter Try.func68, Try.ntmps68; go_wp2; go_ret; exact ⟨rfl, rfl⟩
  by_cases h3 : n = 4
  · subst h3; go_enter Try.func68, Try.ntmps68; go_wp2; go_ret; exact ⟨rfl, rfl⟩
  by_cases h4 : n = 8
  · subst h4; go_enter Try.func68, Try.ntmps68; go_wp2; go_ret; exact ⟨rfl, rfl⟩
  by_cases h5 : n = 16
  · subst h5; go_enter Try.func68, Try.ntmps68; go_wp2; go_ret; exact ⟨rfl, rfl⟩
  by_cases h6 : n = 32
  · subst h6; go_enter Try.func68, Try.ntmps68; go_wp2; go_ret; exact ⟨rfl, rfl⟩
  by_cases h7 : n = 64
  · subst h7; go_enter Try.func68, Try.ntmps68; go_wp2; go_ret; exact ⟨rfl, rfl⟩
  have e1 : (n == 1) = false := by simpa using h1
  have e2 : (n == 2) = false := by simpa using h2
  have e3 : (n == 4) = false := by simpa using h3
  have e4 : (n == 8) = false := by simpa using h4
  have e5 : (n == 16) = false := by simpa using h5
  have e6 : (n == 32) = false := by simpa using h6
  have e7 : (n == 64) = false := by simpa using h7
  rw [e1, e2, e3, e4, e5, e6, e7]
  go_enter Try.func68, Try.ntmps68
  go_wp2
  go_ret
  exact ⟨rfl, rfl⟩

theorem isSd_any (n : Int) (w : World) : Calls Try.prog 76 #[.int .i64 n] w fun e w' => e = .returned (.bool (sideB n)) ∧ w' = w := by
  have c := isSide_any n
  cases hin : inB n 1 64
  · have hs : sideB n = false := by
      unfold inB at hin; unfold sideB
      simp only [Bool.and_eq_false_iff, decide_eq_false_iff_not] at hin
      simp only [Bool.or_eq_false_iff, beq_eq_false_iff_ne, ne_eq]
      omega
    rw [hin] at c
    rw [hs]
    clear hin hs
    go_enter Try.func76, Try.ntmps76
    go_wp2_with fail
    refine (c _).mono ?_
    rintro e w1 ⟨rfl, rfl⟩
    go_wp2_with fail
    go_ret
    exact ⟨rfl, rfl⟩
  · rw [hin] at c
    obtain ⟨m, rfl, h1, h2⟩ : ∃ m : Nat, n = (m : Int) ∧ 1 ≤ m ∧ m ≤ 64 := by
      unfold inB at hin
      simp only [Bool.and_eq_true, decide_eq_true_eq] at hin
      exact ⟨n.toNat, by omega, by omega, by omega⟩
    clear hin
    have hb : ∀ m : Nat, m < 65 → 1 ≤ m → (bits BinOp.and IntKind.i64 (m : Int) ((m : Int) - 1) == 0) = sideB (m : Int) := by decide +kernel
    have HB : Hid ((bits BinOp.and IntKind.i64 (m : Int) ((m : Int) - 1) == 0) = sideB (m : Int)) := hb m (by omega) h1
    clear hb
    go_enter Try.func76, Try.ntmps76
    go_wp2_with fail
    refine (c _).mono ?_
    rintro e w1 ⟨rfl, rfl⟩
    go_wp2_with fail
    go_ret
    exact ⟨by rw [← HB.out]; rfl, rfl⟩

theorem sideB_nat {n : Int} (h : sideB n = true) : ∃ m : Nat, n = (m : Int) ∧ 1 ≤ m ∧ m ≤ 64 := by
  unfold sideB at h
  simp only [Bool.or_eq_true, beq_iff_eq] at h
  exact ⟨n.toNat, by omega, by omega, by omega⟩


end Go.Proofs.Ytonbfbmepfjjfaa

/- The contract of dropBits: the nearest whole number, of two the even one. -/
import Derived.Test.YtepgelalkfgdlaaLawFromShort
namespace Go.Proofs.Ytepgelalkfgdlaa
open Ieee Go.RowKit Fl

/-- n by 2 to the power c, to the nearest, of two the even one -/
def rnd (n c : Nat) : Nat := if 2 ^ (c - 1) < n % 2 ^ c then n / 2 ^ c + 1 else if n % 2 ^ c = 2 ^ (c - 1) then (if n / 2 ^ c % 2 = 1 then n / 2 ^ c + 1 else n / 2 ^ c) else n / 2 ^ c

theorem one_bit (k : Nat) (hk : k < 2 ^ 64) : (bits .and .u64 (k : Int) 1 == 1) = decide (k % 2 = 1) := by
  have e := low_u64 k 1 hk (by omega)
  have e2 : ((2 ^ 1 - 1 : Nat) : Int) = 1 := rfl
  rw [e2] at e
  rw [e, Bool.eq_iff_iff]
  simp
  omega

theorem drop_any (n c : Nat) (hn : n < 2 ^ 53) (h1 : 1 ≤ c) (h2 : c ≤ 63) (w : World) :
    Calls Try.prog 88 #[.int .u64 n, .int .i64 c] w fun e w' => e = .returned (.int .u64 (rnd n c)) ∧ ∃ k, w' = w.drewN k := by
  have p1 : 2 ^ c ≤ 2 ^ 63 := pow_le c 63 h2
  have p2 : 2 ^ (c - 1) ≤ 2 ^ 63 := pow_le (c - 1) 63 (by omega)
  have p0 := Nat.two_pow_pos c
  have w1 : IntKind.u64.wrap (2 ^ c) = ((2 ^ c : Nat) : Int) := by
    rw [show (2 : Int) ^ c = ((2 ^ c : Nat) : Int) from by simp]; exact wrap_u64_nat _ (by omega)
  have f3 : IntKind.u64.wrap (2 ^ (c - 1)) = ((2 ^ (c - 1) : Nat) : Int) := by
    rw [show (2 : Int) ^ (c - 1) = ((2 ^ (c - 1) : Nat) : Int) from by simp]; exact wrap_u64_nat _ (by omega)
  have f2 : bits .and .u64 (n : Int) (IntKind.u64.wrap (IntKind.u64.wrap (2 ^ c) - 1)) = ((n % 2 ^ c : Nat) : Int) := by
    rw [w1, show ((2 ^ c : Nat) : Int) - 1 = ((2 ^ c - 1 : Nat) : Int) from by omega, wrap_u64_nat _ (by omega)]
    exact low_u64 n c (by omega) h2
  have f1 : (n : Int) / 2 ^ c = ((n / 2 ^ c : Nat) : Int) := by simp
  have hK : n / 2 ^ c < 2 ^ 53 := Nat.lt_of_le_of_lt (Nat.div_le_self _ _) hn
  have f4 := one_bit (n / 2 ^ c) (by omega)
  have hr : rnd n c = if 2 ^ (c - 1) < n % 2 ^ c then n / 2 ^ c + 1 else if n % 2 ^ c = 2 ^ (c - 1) then (if n / 2 ^ c % 2 = 1 then n / 2 ^ c + 1 else n / 2 ^ c) else n / 2 ^ c := rfl
  rw [hr]
  clear p1 p2 p0 w1 hr
  generalize n / 2 ^ c = K at *
  generalize n % 2 ^ c = R at *
  generalize 2 ^ (c - 1) = H at *
  by_cases c1 : H < R
  · rw [if_pos c1]
    clear f4
    go_enter Try.func88, Try.ntmps88
    go_wp2_with fail
    go_quiet (fail)
    go_wp2_with fail
    go_ret
    exact ⟨ret_int (by omega), _, rfl⟩
  · rw [if_neg c1]
    by_cases c2 : R = H
    · rw [if_pos c2]
      have c2' : ((R : Int) == (H : Int)) = true := by rw [beq_iff_eq]; omega
      have c1' : decide ((H : Int) < (R : Int)) = false := decide_eq_false (by omega)
      by_cases c3 : K % 2 = 1
      · rw [if_pos c3]
        rw [decide_eq_true c3] at f4
        clear c2 c3
        go_enter Try.func88, Try.ntmps88
        go_wp2_with fail
        go_quiet (fail)
        go_wp2_with fail
        go_ret
        exact ⟨ret_int (by omega), _, rfl⟩
      · rw [if_neg c3]
        rw [decide_eq_false c3] at f4
        clear c2 c3
        go_enter Try.func88, Try.ntmps88
        go_wp2_with fail
        go_quiet (fail)
        go_wp2_with fail
        go_ret
        exact ⟨rfl, _, rfl⟩
    · rw [if_neg c2]
      have c2' : ((R : Int) == (H : Int)) = false := by rw [beq_eq_false_iff_ne]; omega
      have c1' : decide ((H : Int) < (R : Int)) = false := decide_eq_false (by omega)
      clear c2 f4
      go_enter Try.func88, Try.ntmps88
      go_wp2_with fail
      go_quiet (fail)
      go_wp2_with fail
      go_ret
      exact ⟨rfl, _, rfl⟩

theorem drop_none (n c : Nat) (h2 : 63 < c) (w : World) :
    Calls Try.prog 88 #[.int .u64 n, .int .i64 c] w fun e w' => e = .returned (.int .u64 0) ∧ w' = w := by
  go_enter Try.func88, Try.ntmps88
  go_wp2
  go_ret
  exact ⟨rfl, rfl⟩

end Go.Proofs.Ytepgelalkfgdlaa

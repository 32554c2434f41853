/- Contracts of the two CxTurn: a turn by k quarters is a turn by k modulo 4 quarters. -/
import Derived.Test.YtfgjooddolnifaaFcx
import Derived.Handy
namespace Go.Proofs.Ytfgjooddolnifaa
open Ieee Go.RowKit
attribute [local go_sem] run_store_float run_fadd run_fsub run_fmul run_fquo run_cadd alloc_drewN setCell_drewN shape?_drewN

/-- a minus turns the sign -/
def fneg (b : Nat) : Nat := b ^^^ 2 ^ 63
theorem fneg_fneg (b : Nat) : fneg (fneg b) = b := by
  unfold fneg; rw [Nat.xor_assoc, Nat.xor_self, Nat.xor_zero]
theorem run_fneg (P : Program) (w : World) (b : Nat) : (Op.unary .neg (.float .f64 b)).run P w = .ok (.float .f64 (fneg b)) w := rfl
attribute [local go_sem] run_fneg

/-- what a turn by n quarters (below 4) makes of a and b -/
def tRe (n : Int) (a b : Nat) : Nat := if n = 0 then a else if n = 1 then fneg b else if n = 2 then fneg a else b
def tIm (n : Int) (a b : Nat) : Nat := if n = 0 then b else if n = 1 then a else if n = 2 then fneg b else fneg a

theorem and3 (k : Int) : bits .and .i64 k 3 = k % 4 := by
  show IntKind.i64.wrap ((BitVec.ofInt 64 k &&& BitVec.ofInt 64 3).toNat : Int) = k % 4
  have e : (BitVec.ofInt 64 k &&& BitVec.ofInt 64 3).toNat = (k % 4).toNat := by
    rw [BitVec.toNat_and, BitVec.toNat_ofInt, BitVec.toNat_ofInt]
    show (k % 2 ^ 64).toNat &&& 3 = _
    rw [show (3 : Nat) = 2 ^ 2 - 1 from rfl, Nat.and_two_pow_sub_one_eq_mod]
    omega
  rw [e, IntKind.wrap_i64]
  omega

theorem toNative_any (a b : Nat) (w : World) :
    Calls Try.prog 63 #[.agg #[.float .f64 a, .float .f64 b]] w fun e w' => e = .returned (.complex .f64 a b) ∧ Below w.heap.size w w' := by
  go_enter Try.func63, Try.ntmps63
  go_wp2
  go_returns
  exact ⟨rfl, by go_grown⟩

theorem fromNative_any (a b : Nat) (w : World) :
    Calls Try.prog 62 #[.complex .f64 a b] w fun e w' => e = .returned (.agg #[.float .f64 a, .float .f64 b]) ∧ Below w.heap.size w w' := by
  go_enter Try.func62, Try.ntmps62
  go_wp2
  go_returns
  exact ⟨rfl, by go_grown⟩

theorem turn_impl (a b : Nat) (k : Int) (w : World) :
    Calls Try.prog 48 #[.agg #[.float .f64 a, .float .f64 b], .int .i64 k] w fun e w' => e = .returned (.agg #[.float .f64 (tRe (k % 4) a b), .float .f64 (tIm (k % 4) a b)]) ∧ Below w.heap.size w w' := by
  have h3 := and3 k
  have h4 : k % 4 = 0 ∨ k % 4 = 1 ∨ k % 4 = 2 ∨ k % 4 = 3 := by omega
  rcases h4 with h4 | h4 | h4 | h4
  all_goals
    rw [h4] at h3 ⊢
    clear h4
    go_enter Try.func48, Try.ntmps48
    go_wp2
    go_returns
    exact ⟨rfl, by go_grown⟩

theorem ret_int {k : IntKind} {a b : Int} (h : a = b) : Ending.returned (.int k a) = .returned (.int k b) := by rw [h]

theorem tmod4 (k : Int) : (0 ≤ k.tmod 4 → k.tmod 4 = k % 4) ∧ (¬ 0 ≤ k.tmod 4 → k.tmod 4 + 4 = k % 4) ∧ -4 < k.tmod 4 ∧ k.tmod 4 < 4 := by
  rw [Int.tmod_eq_emod]
  split <;> omega

theorem l1Mod4_any (k : Int) (w : World) :
    Calls Try.prog 51 #[.int .i64 k, .int .i64 4] w fun e w' => e = .returned (.int .i64 (k % 4)) ∧ w' = w := by
  obtain ⟨t1, t2, t3, t4⟩ := tmod4 k
  by_cases h : 0 ≤ k.tmod 4
  · have H : Hid (k.tmod 4 = k % 4) := t1 h
    clear t1 t2
    go_enter Try.func51, Try.ntmps51
    go_wp2
    go_ret
    exact ⟨ret_int H.out, rfl⟩
  · have H : Hid (k.tmod 4 + 4 = k % 4) := t2 h
    clear t1 t2
    go_enter Try.func51, Try.ntmps51
    go_wp2
    go_ret
    exact ⟨ret_int H.out, rfl⟩

theorem turn_spec (a b : Nat) (k : Int) (w : World) :
    Calls Try.prog 45 #[.agg #[.float .f64 a, .float .f64 b], .int .i64 k] w fun e w' => e = .returned (.agg #[.float .f64 (tRe (k % 4) a b), .float .f64 (tIm (k % 4) a b)]) ∧ Below w.heap.size w w' := by
  have h4 : k % 4 = 0 ∨ k % 4 = 1 ∨ k % 4 = 2 ∨ k % 4 = 3 := by omega
  have hm := l1Mod4_any k
  have ff := fneg_fneg b
  rcases h4 with h4 | h4 | h4 | h4
  all_goals
    rw [h4] at hm ⊢
    clear h4
    go_enter Try.func45, Try.ntmps45
    go_wp2_with fail
    refine (hm _).mono ?_
    rintro e w1 ⟨rfl, rfl⟩
    clear hm
    go_wp2
    go_rounds 4
    go_returns
    exact ⟨rfl, by go_grown⟩

end Go.Proofs.Ytfgjooddolnifaa

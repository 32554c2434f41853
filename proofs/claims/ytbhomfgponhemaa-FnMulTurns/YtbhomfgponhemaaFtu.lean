/- Contracts of the two CxTurn: a turn by k quarters is a turn by k modulo 4 quarters. -/
import Derived.Test.YtbhomfgponhemaaFcx
import Derived.Handy
namespace Go.Proofs.Ytbhomfgponhemaa
open Ieee Go.RowKit
attribute [local go_sem] run_store_float run_fadd run_fsub run_fmul run_fquo run_cadd alloc_drewN setCell_drewN shape?_drewN

/-- a minus turns the sign -/
def fneg (b : Nat) : Nat := b ^^^ 2 ^ 63
theorem fneg_fneg (b : Nat) : fneg (fneg b) = b := by
  unfold fneg; rw [Nat.xor_assoc, Nat.xor_self, Nat.xor_zero]
theorem run_fneg (P : Program) (w : World) (b : Nat) : (Op.unary .neg (.float .f64 b)).run P w = .ok (.float .f64 (fneg b)) w := rfl
attribute [local go_sem] run_fneg

/-- what a turn by n quarters (below 4) makes of a and b -/
def tRe (n : Int) (a b : Nat) : Nat := if n = 0 then a else if n = 1 then fneg b else if n = 2 then fneg a else b
def tIm (n : Int) (a b : Nat) : Nat := if n = 0 then b else if n = 1 then a else if n = 2 then fneg b else fneg a

theorem and3 (k : Int) : bits .and .i64 k 3 = k % 4 := by
  show IntKind.i64.wrap ((BitVec.ofInt 64 k &&& BitVec.ofInt 64 3).toNat : Int) = k % 4
  have e : (BitVec.ofInt 64 k &&& BitVec.ofInt 64 3).toNat = (k % 4).toNat := by
    rw [BitVec.toNat_and, BitVec.toNat_ofInt, BitVec.toNat_ofInt]
    show (k % 2 ^ 64).toNat &&& 3 = _
    rw [show (3 : Nat) = 2 ^ 2 - 1 from rfl, Nat.and_two_pow_sub_one_eq_mod]
    omega
  rw [e, IntKind.wrap_i64]
  omega

theorem toNative_any (a b : Nat) (w : World) :
    Calls Try.prog 17 #[.agg #[.float .f64 a, .float .f64 b]] w fun e w' => e = .returned (.complex .f64 a b) ∧ Below w.heap.size w w' := by
  go_enter Try.func17, Try.ntmps17
  go_wp2
  go_returns
  exact ⟨rfl, by go_grown⟩

theorem fromNative_any (a b : Nat) (w : World) :
    Calls Try.prog 15 #[.complex .f64 a b] w fun e w' => e = .returned (.agg #[.float .f64 a, .float .f64 b]) ∧ Below w.heap.size w w' := by
  go_enter Try.func15, Try.ntmps15
  go_wp2
  go_returns
  exact ⟨rfl, by go_grown⟩

theorem turn_impl (a b : Nat) (k : Int) (w : World) :
    Calls Try.prog 10 #[.agg #[.float .f64 a, .float .f64 b], .int .i64 k] w fun e w' => e = .returned (.agg #[.float .f64 (tRe (k % 4) a b), .float .f64 (tIm (k % 4) a b)]) ∧ Below w.heap.size w w' := by
  have h3 := and3 k
  have h4 : k % 4 = 0 ∨ k % 4 = 1 ∨ k % 4 = 2 ∨ k % 4 = 3 := by omega
  rcases h4 with h4 | h4 | h4 | h4
  all_goals
    rw [h4] at h3 ⊢
    clear h4
    go_enter Try.func10, Try.ntmps10
    go_wp2
    go_returns
    exact ⟨rfl, by go_grown⟩

theorem ret_int {k : IntKind} {a b : Int} (h : a = b) : Ending.returned (.int k a) = .returned (.int k b) := by rw [h]

theorem tmod4 (k : Int) : (0 ≤ k.tmod 4 → k.tmod 4 = k % 4) ∧ (¬ 0 ≤ k.tmod 4 → k.tmod 4 + 4 = k % 4) ∧ -4 < k.tmod 4 ∧ k.tmod 4 < 4 := by
  rw [Int.tmod_eq_emod]
  split <;> omega

end Go.Proofs.Ytbhomfgponhemaa

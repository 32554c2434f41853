/- Flows of orders in numbers: when one is right. -/
import Derived.Test.YtfhfddmiiopgdaaIls
namespace Go.Proofs.Ytfhfddmiiopgdaa
open Go.RowKit

/-- is an order's state right at a clock -/
def stB (c s d e : Int) : Bool :=
  if s = 1 ∨ s = 2 then decide (e = 0) && decide (c ≤ d)
  else if s = 3 ∨ s = 4 then inB e 0 (min d c)
  else if s = 5 then decide (e = d + 1) && decide (e ≤ c)
  else false
/-- is an order right at a clock -/
def orB (c i s d e : Int) : Bool := inB i 0 1000000 && (inB d 1 1000000000 && stB c s d e)
/-- is the order at a place right, and behind the one ahead of it -/
def flAt (c : Int) (g : Nat → Int) (k : Nat) : Bool := (decide (k = 0) || decide (g ((k - 1) * 4) < g (k * 4))) && orB c (g (k * 4)) (g (k * 4 + 1)) (g (k * 4 + 2)) (g (k * 4 + 3))
/-- is a flow right -/
def flB (c : Int) (g : Nat → Int) (n : Nat) : Bool := inB c 0 1000000000 && (decide (n ≤ 500) && allG (flAt c g) n)
theorem inB_iff (n lo hi : Int) : inB n lo hi = true ↔ lo ≤ n ∧ n ≤ hi := by unfold inB; simp
theorem allG_of {p : Nat → Bool} : ∀ {n : Nat}, (∀ k, k < n → p k = true) → allG p n = true
  | 0, _ => rfl
  | n + 1, h => by simp only [allG]; rw [allG_of (n := n) (fun k hk => h k (by omega)), h n (by omega)]; rfl
theorem flB_bad {c : Int} {g : Nat → Int} {n k : Nat} (hk : k < n) (h : flAt c g k = false) : flB c g n = false := by unfold flB; rw [allG_no k hk h]; simp
theorem flB_clock {c : Int} {g : Nat → Int} {n : Nat} (h : inB c 0 1000000000 = false) : flB c g n = false := by unfold flB; rw [h]; rfl
theorem flB_big {c : Int} {g : Nat → Int} {n : Nat} (h : ¬ n ≤ 500) : flB c g n = false := by unfold flB; rw [decide_eq_false h]; simp
theorem flB_ok {c : Int} {g : Nat → Int} {n : Nat} (h0 : inB c 0 1000000000 = true) (h1 : n ≤ 500) (h : ∀ k, k < n → flAt c g k = true) : flB c g n = true := by
  unfold flB
  rw [h0, decide_eq_true h1, allG_of h]; rfl
theorem flB_at {c : Int} {g : Nat → Int} {n : Nat} (h : flB c g n = true) : (0 ≤ c ∧ c ≤ 1000000000) ∧ n ≤ 500 ∧ ∀ k, k < n → flAt c g k = true := by
  unfold flB at h
  simp only [Bool.and_eq_true, decide_eq_true_eq, inB_iff] at h
  exact ⟨h.1, h.2.1, fun k hk => allG_at h.2.2 k hk⟩

end Go.Proofs.Ytfhfddmiiopgdaa

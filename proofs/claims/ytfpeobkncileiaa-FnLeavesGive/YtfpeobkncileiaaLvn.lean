/- Leaves: numbers alone. -/
import Derived.Test.YtfpeobkncileiaaLfm
import Derived.Test.YtfpeobkncileiaaUpd
import Derived.Test.YtfpeobkncileiaaPic
namespace Go.Proofs.Ytfpeobkncileiaa
open Go.RowKit

/-- is leaf number i right for a row of n -/
def lfB (n : Int) (f : Nat → Int) (i : Nat) : Bool := inB (f (i * 3 + 1)) 1 n && (inB (f (i * 3)) 0 (f (i * 3 + 1) - 1) && inB (f (i * 3 + 2)) 1 1000)
/-- are they leaves for a row of n -/
def lvB (n : Int) (m : Nat) (f : Nat → Int) : Bool := inB n 0 64 && (decide (m ≤ 64000) && allG (lfB n f) m)
theorem inB_iff {x lo hi : Int} : inB x lo hi = true ↔ lo ≤ x ∧ x ≤ hi := by unfold inB; simp
theorem lfB_iff {n : Int} {f : Nat → Int} {i : Nat} : lfB n f i = true ↔ (0 ≤ f (i * 3) ∧ f (i * 3) < f (i * 3 + 1) ∧ f (i * 3 + 1) ≤ n ∧ 1 ≤ f (i * 3 + 2) ∧ f (i * 3 + 2) ≤ 1000) := by
  unfold lfB
  rw [Bool.and_eq_true, Bool.and_eq_true, inB_iff, inB_iff, inB_iff]
  omega
theorem lvB_parts {n : Int} {m : Nat} {f : Nat → Int} (h : lvB n m f = true) : 0 ≤ n ∧ n ≤ 64 ∧ m ≤ 64000 ∧ ∀ i, i < m → lfB n f i = true := by
  unfold lvB at h
  rw [Bool.and_eq_true, Bool.and_eq_true, inB_iff, decide_eq_true_eq] at h
  exact ⟨h.1.1, h.1.2, h.2.1, fun i hi => allG_at h.2.2 i hi⟩

theorem alW_all {f : Nat → Int} {lo hi : Int} : ∀ {n : Nat}, (∀ q, q < n → inB (f q) lo hi = true) → alW f lo hi n = true
  | 0, _ => rfl
  | n + 1, h => by unfold alW; rw [alW_all (fun q hq => h q (by omega)), h n (by omega)]; rfl

/-- what the first k leaves give at place q -/
def gvS (f : Nat → Int) (q : Nat) : Nat → Int
  | 0 => 0
  | k + 1 => gvS f q k + (if f (k * 3) ≤ (q : Int) ∧ (q : Int) < f (k * 3 + 1) then f (k * 3 + 2) else 0)
def gvN (n : Int) (m : Nat) (f : Nat → Int) : Nat := if lvB n m f = true then n.toNat else 0
/-- units -/
def uS (f : Nat → Int) : Nat → Int
  | 0 => 0
  | k + 1 => uS f k + f (k * 3 + 2)
theorem gvS_bd {n : Int} {f : Nat → Int} (q : Nat) : ∀ k, (∀ i, i < k → lfB n f i = true) → 0 ≤ gvS f q k ∧ gvS f q k ≤ 1000 * k
  | 0, _ => by simp [gvS]
  | k + 1, h => by
    have h1 := gvS_bd q k (fun i hi => h i (by omega))
    have h2 := lfB_iff.1 (h k (by omega))
    unfold gvS
    split <;> omega
theorem uS_bd {n : Int} {f : Nat → Int} : ∀ k, (∀ i, i < k → lfB n f i = true) → 0 ≤ uS f k ∧ uS f k ≤ 1000 * k
  | 0, _ => by simp [uS]
  | k + 1, h => by
    have h1 := uS_bd k (fun i hi => h i (by omega))
    have h2 := lfB_iff.1 (h k (by omega))
    unfold uS
    omega
/-- while leaf k is laid on, up to place p -/
def gvM (f : Nat → Int) (k p q : Nat) : Int := if q < p then gvS f q (k + 1) else gvS f q k
theorem gvM_at0 {f : Nat → Int} {k p : Nat} (h : (p : Int) = f (k * 3)) (q : Nat) : gvM f k p q = gvS f q k := by
  unfold gvM
  by_cases hq : q < p
  · rw [if_pos hq]
    conv => lhs; unfold gvS
    rw [if_neg (by omega)]
    omega
  · rw [if_neg hq]
theorem gvM_atR {f : Nat → Int} {k p : Nat} (h : (p : Int) = f (k * 3 + 1)) (q : Nat) : gvM f k p q = gvS f q (k + 1) := by
  unfold gvM
  by_cases hq : q < p
  · rw [if_pos hq]
  · rw [if_neg hq]
    conv => rhs; unfold gvS
    rw [if_neg (by omega)]
    omega
theorem gvM_here {f : Nat → Int} {k p : Nat} (h0 : f (k * 3) ≤ (p : Int)) (h1 : (p : Int) < f (k * 3 + 1)) : gvM f k p p + f (k * 3 + 2) = gvS f p (k + 1) := by
  unfold gvM
  rw [if_neg (by omega)]
  conv => rhs; unfold gvS
  rw [if_pos ⟨h0, h1⟩]
theorem gvM_next (f : Nat → Int) (k p q : Nat) : updN (gvM f k p) p (gvS f p (k + 1)) q = gvM f k (p + 1) q := by
  unfold updN gvM
  by_cases e : q = p
  · subst e
    rw [if_pos rfl, if_pos (by omega)]
  · rw [if_neg e]
    by_cases hq : q < p
    · rw [if_pos hq, if_pos (by omega)]
    · rw [if_neg hq, if_neg (by omega)]

end Go.Proofs.Ytfpeobkncileiaa

/- Faces that are right, and what they enclose: numbers. -/
import Derived.Test.YtgkjndhobijdiaaFce
import Derived.Test.YtgkjndhobijdiaaHom
import Derived.BigRegion
namespace Go.Proofs.Ytgkjndhobijdiaa
open Go.RowKit

/-- is face number i right -/
def facI (g : Nat → Int) (i : Nat) : Bool := inB (g (i * 5 + 3)) 1 3 && (decide (g (i * 5 + 4) = 1) || decide (g (i * 5 + 4) = -1)) && (inB (g (i * 5)) 0 32 && inB (g (i * 5 + 1)) 0 32 && inB (g (i * 5 + 2)) 0 32)
def facB (m : Nat) (g : Nat → Int) : Bool := decide (m ≤ 131072) && allG (facI g) m
structure FcI (x y z a s : Int) : Prop where
  hx : 0 ≤ x ∧ x ≤ 32
  hy : 0 ≤ y ∧ y ≤ 32
  hz : 0 ≤ z ∧ z ≤ 32
  ha : 1 ≤ a ∧ a ≤ 3
  hs : s = 1 ∨ s = -1
theorem facI_parts {g : Nat → Int} {i : Nat} (h : facI g i = true) : FcI (g (i * 5)) (g (i * 5 + 1)) (g (i * 5 + 2)) (g (i * 5 + 3)) (g (i * 5 + 4)) := by
  unfold facI inB at h
  simp at h
  exact ⟨by omega, by omega, by omega, by omega, by omega⟩
theorem facB_parts {m : Nat} {g : Nat → Int} (h : facB m g = true) : m ≤ 131072 ∧ ∀ i, i < m → FcI (g (i * 5)) (g (i * 5 + 1)) (g (i * 5 + 2)) (g (i * 5 + 3)) (g (i * 5 + 4)) := by
  unfold facB at h
  simp only [Bool.and_eq_true, decide_eq_true_eq] at h
  exact ⟨h.1, fun i hi => facI_parts (allG_at h.2 i hi)⟩
theorem allG_up {p : Nat → Bool} {k : Nat} (h : allG p k = true) (hk : p k = true) : allG p (k + 1) = true := by simp [allG, h, hk]

/-- sign times x, over the faces across x -/
def encS (g : Nat → Int) : Nat → Int
  | 0 => 0
  | i + 1 => if g (i * 5 + 3) = 1 then encS g i + g (i * 5 + 4) * g (i * 5) else encS g i
theorem encS_bd {m : Nat} {g : Nat → Int} (h : ∀ i, i < m → FcI (g (i * 5)) (g (i * 5 + 1)) (g (i * 5 + 2)) (g (i * 5 + 3)) (g (i * 5 + 4))) : ∀ k, k ≤ m → -(32 * (k : Int)) ≤ encS g k ∧ encS g k ≤ 32 * (k : Int)
  | 0, _ => by simp [encS]
  | k + 1, hk => by
    have ih := encS_bd h k (by omega)
    have hf := h k (by omega)
    obtain ⟨hx, _, _, _, hs⟩ := hf
    unfold encS
    split
    · rcases hs with e | e
      · rw [e]; omega
      · rw [e]; omega
    · omega
def encV (m : Nat) (g : Nat → Int) : Int := if facB m g = true then encS g m else 0

end Go.Proofs.Ytgkjndhobijdiaa

/- How often each tone comes: numbers, the specification. -/
import Derived.Test.YtfbjjfpcgpkhiaaGry
import Derived.Test.YtfbjjfpcgpkhiaaUpd
import Derived.BigRegion
namespace Go.Proofs.Ytfbjjfpcgpkhiaa
open Go.RowKit

/-- how often v comes among the first k -/
def hst (f : Nat → Int) : Nat → Nat → Int
  | 0, _ => 0
  | k + 1, v => if f k = (v : Int) then hst f k v + 1 else hst f k v
theorem hst_bd (f : Nat → Int) : ∀ k v, 0 ≤ hst f k v ∧ hst f k v ≤ k
  | 0, _ => by simp [hst]
  | k + 1, v => by
    have := hst_bd f k v
    simp only [hst]
    split <;> omega
theorem hst_step (f : Nat → Int) (k V : Nat) (h : f k = (V : Int)) : updN (hst f k) V (hst f k V + 1) = hst f (k + 1) := by
  funext q
  unfold updN
  simp only [hst]
  by_cases e : q = V
  · subst e; rw [if_pos rfl, if_pos h]
  · rw [if_neg e, if_neg (by omega)]
theorem gry_at {W H : Int} {n : Nat} {f : Nat → Int} {m : Int} (h : gryB W H n f m = true) : n ≤ 4096 ∧ ∀ k, k < n → 0 ≤ f k ∧ f k ≤ m := (gryB_parts h).2
def hgN (W H : Int) (n : Nat) (f : Nat → Int) : Nat := if gryB W H n f 255 = true then 256 else 0
theorem hgN_le (W H : Int) (n : Nat) (f : Nat → Int) : hgN W H n f ≤ 1048576 := by unfold hgN; split <;> omega

end Go.Proofs.Ytfbjjfpcgpkhiaa

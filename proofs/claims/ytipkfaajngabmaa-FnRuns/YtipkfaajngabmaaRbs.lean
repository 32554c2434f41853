/- Pixels of runs: the specification. -/
import Derived.Test.YtipkfaajngabmaaRbi
namespace Go.Proofs.Ytipkfaajngabmaa
open Go.RowKit

/-- the pixels of runs are answered, if they are runs -/
def BtR (n : Int) (m : Nat) (r : Nat → Int) (w : World) (e : Ending) (w' : World) : Prop :=
  ∃ v, e = .returned (.tuple #[v, .bool (runB n m r)]) ∧ Below w.heap.size w w' ∧ (runB n m r = true → ∃ a cap b, v = .slice a n.toNat cap ∧ Ow a b n.toNat (rbit r m) w' ∧ w.heap.size ≤ b)
theorem BtR.no {n : Int} {m : Nat} {r : Nat → Int} {w w' : World} (h : runB n m r = false) (v : Value) (hb : Below w.heap.size w w') : BtR n m r w (.returned (.tuple #[v, .bool false])) w' :=
  ⟨v, by rw [h], hb, fun e => by rw [h] at e; cases e⟩

end Go.Proofs.Ytipkfaajngabmaa

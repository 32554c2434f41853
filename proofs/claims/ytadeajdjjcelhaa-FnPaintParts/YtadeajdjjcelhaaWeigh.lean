/- Weighing an image: the specification and the program give the same three sums. -/
import Derived.Test.YtadeajdjjcelhaaOk
namespace Go.Proofs.Ytadeajdjjcelhaa
open Go.RowKit

theorem okB_parts {W H : Int} {len : Nat} {f : Nat → Int} (h : okB W H len f = true) : inB W 1 64 = true ∧ inB H 1 64 = true ∧ (len : Int) = W * H ∧ allB f len = true := by
  unfold okB at h
  simp only [Bool.and_eq_true, decide_eq_true_eq] at h
  exact ⟨h.1.1.1, h.1.1.2, h.1.2, h.2⟩

/-- the three sums over the first n numbers, as the machine adds them -/
def sums (W : Int) (f : Nat → Int) : Nat → Int × Int × Int
  | 0 => (0, 0, 0)
  | n + 1 => (wrap64 ((sums W f n).1 + f n), wrap64 ((sums W f n).2.1 + wrap64 ((n : Int) % W * f n)), wrap64 ((sums W f n).2.2 + wrap64 (wrap64 ((n : Int) / W) * f n)))

/-- what Weigh answers -/
def weight (W H : Int) (len : Nat) (f : Nat → Int) : Int × Int × Int := if okB W H len f then sums W f len else (0, 0, 0)

end Go.Proofs.Ytadeajdjjcelhaa

/- Above: numbers alone. -/
import Derived.Test.YtocmbdckjdggiaaDsb
import Derived.Test.YtocmbdckjdggiaaSln
namespace Go.Proofs.Ytocmbdckjdggiaa
open Go.RowKit

/-- how many have that or more, for each of the first k in order that is unlike the one ahead -/
def avL (M : List Int) : Nat → List Int
  | 0 => []
  | k + 1 => if k = 0 ∨ M.getD k 0 ≠ M.getD (k - 1) 0 then avL M k ++ [(M.length : Int) - k] else avL M k
theorem avL_pos {M : List Int} {k : Nat} (h : k = 0 ∨ M.getD k 0 ≠ M.getD (k - 1) 0) : avL M (k + 1) = avL M k ++ [(M.length : Int) - k] := if_pos h
theorem avL_neg {M : List Int} {k : Nat} (h : ¬ (k = 0 ∨ M.getD k 0 ≠ M.getD (k - 1) 0)) : avL M (k + 1) = avL M k := if_neg h
theorem avL_len (M : List Int) : ∀ k, (avL M k).length ≤ k
  | 0 => by simp [avL]
  | k + 1 => by
    have := avL_len M k
    unfold avL
    split
    · simp; omega
    · omega
/-- the doses of an organ in order -/
def avM (m : Nat) (f g : Nat → Int) (o : Int) : List Int := srt (doL f g o m)
theorem avM_len (m : Nat) (f g : Nat → Int) (o : Int) : (avM m f g o).length ≤ m := by unfold avM; rw [srt_len]; exact doL_len f g o m
def avF (m : Nat) (f g : Nat → Int) (o : Int) : List Int := avL (avM m f g o) (avM m f g o).length
def avN (m p : Nat) (f g : Nat → Int) (o : Int) : Nat := if dsB m p f = true then (avF m f g o).length else 0
theorem avN_le (m p : Nat) (f g : Nat → Int) (o : Int) (hm : m ≤ 1048576) : avN m p f g o ≤ 1048576 := by
  unfold avN avF
  have := avL_len (avM m f g o) (avM m f g o).length
  have := avM_len m f g o
  split <;> omega

end Go.Proofs.Ytocmbdckjdggiaa

/- Right lists of elements: the specification. -/
import Derived.Test.YteadhhhhnihoaaaExa
import Derived.Test.YteadhhhhnihoaaaExb
namespace Go.Proofs.Yteadhhhhnihoaaa
open Go.RowKit

theorem l12Level_any (a : Option Addr) (m cap : Nat) (ad : Nat → Option Addr) (cp : Nat → Nat) (E : Nat → El) (hm : m ≤ 2000) (hl : ∀ i, i < m → (E i).ln ≤ 1048576) : ∀ N, AskS a m cap ad cp E N := by
  intro N
  induction N with
  | zero => exact specZ a m cap ad cp E
  | succ N ih =>
    intro i en d it w h1 h2 h3 h4 h5 h6
    cases it with
    | true => exact specExa a m cap ad cp E hm hl N ih i en d w h1 h2 h3 h4 h5 h6
    | false => exact specExb a m cap ad cp E hm hl N ih i en d w h1 h2 h3 h4 h5 h6

end Go.Proofs.Yteadhhhhnihoaaa

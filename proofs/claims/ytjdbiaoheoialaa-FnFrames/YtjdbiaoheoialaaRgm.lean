/- The common divisor of a frame, on both sides alike: numbers alone. -/
import Derived.Test.YtjdbiaoheoialaaLr7
import Derived.Test.YtjdbiaoheoialaaMap
namespace Go.Proofs.Ytjdbiaoheoialaa
open Go.RowKit

theorem rg_cgcd {d : Int} (hd : 0 < d) (F : Nat → Int) : ∀ i, rg d F i = ((Nat.gcd d.natAbs (cgcd F i) : Nat) : Int)
  | 0 => by
    show d = ((Nat.gcd d.natAbs 0 : Nat) : Int)
    rw [Nat.gcd_zero_right]
    omega
  | i + 1 => by
    have ih := rg_cgcd hd F i
    show ((Int.gcd (rg d F i) (F i) : Nat) : Int) = ((Nat.gcd d.natAbs (Nat.gcd (cgcd F i) (F i).natAbs) : Nat) : Int)
    rw [ih]
    unfold Int.gcd
    rw [Int.natAbs_natCast, Nat.gcd_assoc]
/-- the divisor of the specification is that of the program -/
theorem rgS_mdiv {d : Int} (hd : 0 < d) (M T : Nat → Int) : rgS d M T = ((mdiv M T d : Nat) : Int) := by
  have h9 := rg_cgcd hd M 9
  have hp : 0 < rg d M 9 := by
    have := (rg_bd (show d ≠ 0 by omega) M 9).1
    rw [h9] at this ⊢
    omega
  unfold rgS
  rw [if_neg (by omega), rg_cgcd hp T 3, h9, Int.natAbs_natCast]
  unfold mdiv
  congr 1
  rw [Nat.gcd_assoc, Nat.gcd_comm]

end Go.Proofs.Ytjdbiaoheoialaa

/- The sum in halves: what it gives, as a relation of words; the law's own bound on a list. -/
import Derived.Test.YtfgjooddolnifaaFad
namespace Go.Proofs.Ytfgjooddolnifaa.Z
open Ieee Go.RowKit

/-- the sum of the n numbers from place i on, in halves: re and im are lists of words, told by their places -/
inductive Halves (f : Nat → Nat) : Nat → Nat → Nat → Prop
  | none (i : Nat) : Halves f i 0 0
  | one (i : Nat) : Halves f i 1 (f i)
  | more (i n a b r : Nat) : 2 ≤ n → Halves f i (n / 2) a → Halves f (i + n / 2) (n - n / 2) b → Res .add a b r → Halves f i n r

theorem Halves.same {f : Nat → Nat} {i n r r' : Nat} (h : Halves f i n r) (h' : Halves f i n r') : same r r' := by
  induction h generalizing r' with
  | none i => cases h' with
    | none => exact same_rfl _
    | more _ _ _ _ hn => omega
  | one i => cases h' with
    | one => exact same_rfl _
    | more _ _ _ _ hn => omega
  | more i n a b r hn h1 h2 h3 ih1 ih2 => cases h' with
    | none => omega
    | one => omega
    | more _ _ _ _ _ _ k1 k2 k3 => exact h3.congr aAdd (ih1 k1) (ih2 k2) k3

theorem size_any (a : Option Addr) (len cap : Nat) (hl : (len : Int) ≤ 9223372036854775807) (w : World) :
    Calls Try.prog 14 #[.slice a len cap, .int .i64 1048576] w fun e w' => e = .returned (.int .i64 (if 1048576 < (len : Int) then -1 else 1048576 - len)) ∧ w' = w := by
  have h0 : (0 : Int) ≤ len := by omega
  by_cases h : 1048576 < (len : Int)
  · rw [if_pos h]
    have h1 : 1048576 - (len : Int) < 0 := by omega
    go_enter Try.func14, Try.ntmps14
    go_wp2
    go_ret
    exact ⟨rfl, rfl⟩
  · rw [if_neg h]
    have h1 : ¬ 1048576 - (len : Int) < 0 := by omega
    go_enter Try.func14, Try.ntmps14
    go_wp2
    go_ret
    exact ⟨rfl, rfl⟩

end Go.Proofs.Ytfgjooddolnifaa.Z

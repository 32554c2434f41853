/- Bends: the contracts as the laws take them. -/
import Derived.Test.YtigiddkodpcpkaaBnj
namespace Go.Proofs.Ytigiddkodpcpkaa
open Go.RowKit

theorem Calls.below_of {P : Program} {fn : FuncId} {ar : Array Value} {w : World} {v : Value} (h : Calls P fn ar w fun e w' => e = .returned v ∧ ∃ m, w' = w.drewN m) : Calls P fn ar w fun e w' => e = .returned v ∧ Below w.heap.size w w' :=
  h.mono (by rintro e w' ⟨he, m, rfl⟩; exact ⟨he, below_drewN (Below.refl _ _) m⟩)
theorem Calls.below_of_same {P : Program} {fn : FuncId} {ar : Array Value} {w : World} {v : Value} (h : Calls P fn ar w fun e w' => e = .returned v ∧ w' = w) : Calls P fn ar w fun e w' => e = .returned v ∧ Below w.heap.size w w' :=
  h.mono (by rintro e w' ⟨he, rfl⟩; exact ⟨he, Below.refl _ _⟩)

theorem specBendOk_b (a : Option Addr) (n cap : Nat) (f : Nat → Int) (hl : n ≤ 1048576) (w : World) (h : Px a n f w) :
    Calls Try.prog 47 #[.slice a n cap] w fun e w' => e = .returned (.bool (bdB n f)) ∧ Below w.heap.size w w' :=
  Calls.below_of (specBendOk_any a n cap f hl w h)
theorem implBendOk_b (a : Option Addr) (n cap : Nat) (f : Nat → Int) (hl : n ≤ 1048576) (hcp : n ≤ cap) (w : World) (h : Px a n f w) :
    Calls Try.prog 49 #[.slice a n cap] w fun e w' => e = .returned (.bool (bdB n f)) ∧ Below w.heap.size w w' :=
  Calls.below_of_same (implBendOk_any a n cap f hl hcp w h)
theorem specBendAt_b (a : Option Addr) (n cap : Nat) (f : Nat → Int) (hl : n ≤ 1048576) (x : Int) (w : World) (h : Px a n f w) :
    Calls Try.prog 15 #[.slice a n cap, .int .i64 x] w fun e w' => e = .returned (.tuple #[.int .i64 (bdAI n f x), .bool (bdAF n f x)]) ∧ Below w.heap.size w w' :=
  Calls.below_of (specBendAt_any a n cap f hl x w h)
theorem specBendBack_b (a : Option Addr) (n cap : Nat) (f : Nat → Int) (hl : n ≤ 1048576) (y : Int) (w : World) (h : Px a n f w) :
    Calls Try.prog 50 #[.slice a n cap, .int .i64 y] w fun e w' => e = .returned (.tuple #[.int .i64 (bdKI n f y), .bool (bdKF n f y)]) ∧ Below w.heap.size w w' :=
  Calls.below_of (specBendBack_any a n cap f hl y w h)

end Go.Proofs.Ytigiddkodpcpkaa

/- Right lists of elements: the program, at every list. -/
import Derived.Test.YteadhhhhnihoaaaEm2
namespace Go.Proofs.Yteadhhhhnihoaaa
open Go.RowKit

theorem levels_any : ∀ N, AskL N ∧ AskI N := by
  intro N
  induction N with
  | zero =>
    have h : AskF 0 := fun a m cap ad cp E d w h1 h2 => absurd h1 (by omega)
    exact ⟨level_step 0 h, items_step 0 h⟩
  | succ N ih =>
    have h := first_step N ih.1 ih.2
    exact ⟨level_step _ h, items_step _ h⟩

/-- is a list of elements right -/
def elsB (E : Nat → El) (m : Nat) : Bool := decide (m ≤ 2000) && lev E 0 m 1 false (-1)

set_option maxRecDepth 100000 in
theorem implElemsOk_any (a : Option Addr) (m cap : Nat) (ad : Nat → Option Addr) (cp : Nat → Nat) (E : Nat → El) (hc : m ≤ cap) (hl : ∀ i, i < m → (E i).ln ≤ 1048576) (w : World) (h : PxE a m ad cp E w) :
    Calls Try.prog 17 #[.slice a m cap] w fun e w' => e = .returned (.bool (elsB E m)) ∧ Below w.heap.size w w' := by
  unfold elsB
  by_cases hm : m ≤ 2000
  · have cL := (levels_any m).1 a m cap ad cp E 1 w (Nat.le_refl _) hm hc hl (by omega) (by omega) h
    have c1 : (m : Int) ≤ 2000 := by omega
    rw [decide_eq_true hm, Bool.true_and]
    generalize lev E 0 m 1 false (-1) = r at *
    clear h hl
    go_enter Try.func17, Try.ntmps17
    go_wp2_with fail
    refine cL.mono ?_
    rintro e w1 ⟨rfl, hb⟩
    go_wp2_with fail
    go_ret
    exact ⟨rfl, hb⟩
  · have c1 : ¬ (m : Int) ≤ 2000 := by omega
    rw [decide_eq_false hm, Bool.false_and]
    clear h hl
    go_enter Try.func17, Try.ntmps17
    go_wp2_with fail
    go_ret
    exact ⟨rfl, Below.refl _ _⟩

end Go.Proofs.Yteadhhhhnihoaaa

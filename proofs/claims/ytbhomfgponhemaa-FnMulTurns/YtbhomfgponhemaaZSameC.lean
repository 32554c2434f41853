/- Contracts of the two CxSame. -/
import Derived.Test.YtbhomfgponhemaaZOrdC
import Derived.Test.YtbhomfgponhemaaHdc
namespace Go.Proofs.Ytbhomfgponhemaa.Z
open Ieee Go.RowKit Fl
attribute [local go_sem] run_store_float alloc_drewN setCell_drewN shape?_drewN

/-- one value: one key -/
def eqv (a b : Nat) : Bool := decide (okey a = okey b)

theorem cmpI_zero (x y : Int) : (cmpI x y == 0) = decide (x = y) := by
  unfold cmpI
  by_cases h1 : x < y
  · rw [if_pos h1, decide_eq_false (by omega)]; rfl
  · by_cases h2 : y < x
    · rw [if_neg h1, if_pos h2, decide_eq_false (by omega)]; rfl
    · rw [if_neg h1, if_neg h2, decide_eq_true (by omega)]; rfl

theorem l1Same_any (a b : Nat) (w : World) :
    Calls Try.prog 18 #[.float .f64 a, .float .f64 b] w fun e w' => e = .returned (.bool (eqv a b)) ∧ w' = w := by
  have h := order_spec a b
  have hc := cmpI_zero (okey a) (okey b)
  have hd : decide (okey a = okey b) = eqv a b := rfl
  rw [hd] at hc
  clear hd
  generalize cmpI (okey a) (okey b) = c at *
  generalize eqv a b = q at *
  go_enter Try.func18, Try.ntmps18
  go_wp2_with fail
  refine (h _).mono ?_
  rintro e w' ⟨rfl, rfl⟩
  cases q
  all_goals
    go_wp2_with fail
    go_ret
    exact ⟨rfl, rfl⟩

theorem same_spec (a b c d : Nat) (w : World) :
    Calls Try.prog 8 #[cx a b, cx c d] w fun e w' => e = .returned (.bool (eqv a c && eqv b d)) ∧ Below w.heap.size w w' := by
  have h1 := l1Same_any a c
  have h2 := l1Same_any b d
  generalize eqv a c = p at *
  generalize eqv b d = q at *
  cases p <;> cases q
  all_goals
    go_enter Try.func8, Try.ntmps8
    go_wp2_with fail
    refine (h1 _).mono ?_
    rintro e w' ⟨rfl, rfl⟩
    go_wp2_with fail
    refine (h2 _).mono ?_
    rintro e w' ⟨rfl, rfl⟩
    go_wp2_with fail
    go_ret
    exact ⟨rfl, by go_grown⟩

end Go.Proofs.Ytbhomfgponhemaa.Z

/- Contracts of the two CxSame. -/
import Derived.Test.YtepgelalkfgdlaaOrdC
import Derived.Test.YtepgelalkfgdlaaCxAdd
import Derived.Test.YtepgelalkfgdlaaLawToBits
namespace Go.Proofs.Ytepgelalkfgdlaa
open Ieee Go.RowKit Fl
attribute [local go_sem] run_store_float alloc_drewN setCell_drewN shape?_drewN

/-- one value: one key -/
def eqv (a b : Nat) : Bool := decide (okey a = okey b)

theorem cmpI_zero (x y : Int) : (cmpI x y == 0) = decide (x = y) := by
  unfold cmpI
  by_cases h1 : x < y
  · rw [if_pos h1, decide_eq_false (by omega)]; rfl
  · by_cases h2 : y < x
    · rw [if_neg h1, if_pos h2, decide_eq_false (by omega)]; rfl
    · rw [if_neg h1, if_neg h2, decide_eq_true (by omega)]; rfl

theorem l1Same_any (a b : Nat) (w : World) :
    Calls Try.prog 70 #[.float .f64 a, .float .f64 b] w fun e w' => e = .returned (.bool (eqv a b)) ∧ w' = w := by
  have h := order_spec a b
  have hc := cmpI_zero (okey a) (okey b)
  have hd : decide (okey a = okey b) = eqv a b := rfl
  rw [hd] at hc
  clear hd
  generalize cmpI (okey a) (okey b) = c at *
  generalize eqv a b = q at *
  go_enter Try.func70, Try.ntmps70
  go_wp2_with fail
  refine (h _).mono ?_
  rintro e w' ⟨rfl, rfl⟩
  cases q
  all_goals
    go_wp2_with fail
    go_ret
    exact ⟨rfl, rfl⟩

theorem same_spec (a b c d : Nat) (w : World) :
    Calls Try.prog 33 #[cx a b, cx c d] w fun e w' => e = .returned (.bool (eqv a c && eqv b d)) ∧ Below w.heap.size w w' := by
  have h1 := l1Same_any a c
  have h2 := l1Same_any b d
  generalize eqv a c = p at *
  generalize eqv b d = q at *
  cases p <;> cases q
  all_goals
    go_enter Try.func33, Try.ntmps33
    go_wp2_with fail
    refine (h1 _).mono ?_
    rintro e w' ⟨rfl, rfl⟩
    go_wp2_with fail
    refine (h2 _).mono ?_
    rintro e w' ⟨rfl, rfl⟩
    go_wp2_with fail
    go_ret
    exact ⟨rfl, by go_grown⟩

theorem canon_lt (b : Nat) (h : b < 2 ^ 64) : canon b < 2 ^ 64 := by
  unfold canon; split <;> omega

theorem okey_canon (a b : Nat) (ha : a < 2 ^ 64) (hb : b < 2 ^ 64) : (canon a = canon b) ↔ (okey a = okey b) := by
  have ei : inf = 9218868437227405312 := by decide
  have wa := word_of a ha
  have wb := word_of b hb
  rw [word_eq] at wa wb
  have la : rung a < 2 ^ 63 := Nat.mod_lt _ (by decide)
  have lb : rung b < 2 ^ 63 := Nat.mod_lt _ (by decide)
  have en : rung 9221120237041090561 = 9221120237041090561 := by decide
  unfold canon okey
  by_cases na : inf < rung a
  · rw [if_pos na, if_pos na]
    by_cases nb : inf < rung b
    · rw [if_pos nb, if_pos nb]; simp
    · rw [if_neg nb, if_neg nb]
      constructor
      · intro h; rw [← h, en] at nb; omega
      · intro h; split at h <;> omega
  · rw [if_neg na, if_neg na]
    by_cases nb : inf < rung b
    · rw [if_pos nb, if_pos nb]
      constructor
      · intro h; rw [h, en] at na; omega
      · intro h; split at h <;> omega
    · rw [if_neg nb, if_neg nb]
      constructor
      · intro h; rw [h]
      · intro h
        cases h1 : neg a <;> cases h2 : neg b <;> rw [h1] at wa h <;> rw [h2] at wb h <;> simp at wa wb h <;> omega

theorem eqv_canon (a b : Nat) (ha : a < 2 ^ 64) (hb : b < 2 ^ 64) : ((canon a : Int) == (canon b : Int)) = eqv a b := by
  unfold eqv
  rw [Bool.eq_iff_iff, beq_iff_eq, decide_eq_true_iff, ← okey_canon a b ha hb]
  omega

/-- two words that are no NaN and one value compare as equal -/
theorem order_eqv (a b : Nat) (hn : ¬ isNaN a) (h : eqv a b = true) (ha : a < 2 ^ 64) (hb : b < 2 ^ 64) : FloatKind.f64.format.order a b = some .eq := by
  have h1 : okey a = okey b := by simpa [eqv] using h
  have h2 := (okey_canon a b ha hb).2 h1
  have h3 : ¬ isNaN b := by
    intro hb'
    rw [canon_no hn, canon_nan hb'] at h2
    apply hn; rw [h2]; show inf < rung 9221120237041090561; decide
  rw [canon_no hn, canon_no h3] at h2
  rw [← h2]; exact order_self a hn

end Go.Proofs.Ytepgelalkfgdlaa

/- Whom a tag identifies: both sides. -/
import Derived.Test.YteadhhhhnihoaaaIls
namespace Go.Proofs.Yteadhhhhnihoaaa
open Go.RowKit

/-- a tag -/
def tagB (g n : Int) : Bool := inB g 0 65534 && inB n 0 65535
/-- a tag that identifies -/
def idB (g n : Int) : Bool := tagB g n && (decide (g = 16) || decide (g % 2 = 1))
theorem tagB_iff (g n : Int) : tagB g n = true ↔ (0 ≤ g ∧ g ≤ 65534) ∧ (0 ≤ n ∧ n ≤ 65535) := by simp [tagB, inB]
theorem tmod2 {g : Int} (h : 0 ≤ g) : g.tmod 2 = g % 2 := Int.tmod_eq_emod_of_nonneg h

theorem isTag_any (g n : Int) (w : World) :
    Calls Try.prog 40 #[.int .i64 g, .int .i64 n] w fun e w' => e = .returned (.bool (tagB g n)) ∧ w' = w := by
  have c1 := fun w' => within_any g 0 65534 w'
  have c2 := fun w' => within_any n 0 65535 w'
  unfold tagB
  generalize inB g 0 65534 = b1 at *
  generalize inB n 0 65535 = b2 at *
  cases b1
  · go_enter Try.func40, Try.ntmps40
    go_wp2_with fail
    refine (c1 _).mono ?_
    rintro _ _ ⟨rfl, rfl⟩
    go_wp2_with fail
    go_ret
    exact ⟨rfl, rfl⟩
  · cases b2 <;>
    (go_enter Try.func40, Try.ntmps40
     go_wp2_with fail
     refine (c1 _).mono ?_
     rintro _ _ ⟨rfl, rfl⟩
     go_wp2_with fail
     refine (c2 _).mono ?_
     rintro _ _ ⟨rfl, rfl⟩
     go_wp2_with fail
     go_ret
     exact ⟨rfl, rfl⟩)

theorem implIdentifies_any (g n : Int) (w : World) :
    Calls Try.prog 25 #[.int .i64 g, .int .i64 n] w fun e w' => e = .returned (.bool (idB g n)) ∧ w' = w := by
  have c1 := fun w' => isTag_any g n w'
  unfold idB
  by_cases h : tagB g n = true
  · have h0 : 0 ≤ g := ((tagB_iff g n).1 h).1.1
    rw [h] at c1 ⊢
    by_cases h1 : g = 16
    · subst h1
      go_enter Try.func25, Try.ntmps25
      go_wp2_with fail
      refine (c1 _).mono ?_
      rintro _ _ ⟨rfl, rfl⟩
      go_wp2_with fail
      go_ret
      exact ⟨rfl, rfl⟩
    · have e1 : (g == 16) = false := by simpa using h1
      have e2 := tmod2 h0
      go_enter Try.func25, Try.ntmps25
      go_wp2_with fail
      refine (c1 _).mono ?_
      rintro _ _ ⟨rfl, rfl⟩
      go_wp2_with fail
      go_ret
      refine ⟨?_, rfl⟩
      simp [h1]
      rfl
  · rw [Bool.not_eq_true] at h
    rw [h] at c1 ⊢
    go_enter Try.func25, Try.ntmps25
    go_wp2_with fail
    refine (c1 _).mono ?_
    rintro _ _ ⟨rfl, rfl⟩
    go_wp2_with fail
    go_ret
    exact ⟨rfl, rfl⟩

theorem specIdentifies_any (g n : Int) (w : World) :
    Calls Try.prog 24 #[.int .i64 g, .int .i64 n] w fun e w' => e = .returned (.bool (idB g n)) ∧ w' = w := by
  have c1 := fun w' => l1In_any g 0 65534 w'
  have c2 := fun w' => l1In_any n 0 65535 w'
  have hg : inB g 0 65534 = true → 0 ≤ g := by simp [inB]; omega
  unfold idB tagB
  generalize inB g 0 65534 = b1 at *
  generalize inB n 0 65535 = b2 at *
  cases b1
  · go_enter Try.func24, Try.ntmps24
    go_wp2_with fail
    refine (c1 _).mono ?_
    rintro _ _ ⟨rfl, rfl⟩
    go_wp2_with fail
    go_ret
    exact ⟨rfl, rfl⟩
  · cases b2
    · go_enter Try.func24, Try.ntmps24
      go_wp2_with fail
      refine (c1 _).mono ?_
      rintro _ _ ⟨rfl, rfl⟩
      go_wp2_with fail
      refine (c2 _).mono ?_
      rintro _ _ ⟨rfl, rfl⟩
      go_wp2_with fail
      go_ret
      exact ⟨rfl, rfl⟩
    · by_cases h1 : g = 16
      · subst h1
        go_enter Try.func24, Try.ntmps24
        go_wp2_with fail
        refine (c1 _).mono ?_
        rintro _ _ ⟨rfl, rfl⟩
        go_wp2_with fail
        refine (c2 _).mono ?_
        rintro _ _ ⟨rfl, rfl⟩
        go_wp2_with fail
        go_ret
        exact ⟨rfl, rfl⟩
      · have e1 : (g == 16) = false := by simpa using h1
        have e2 := tmod2 (hg rfl)
        clear hg
        go_enter Try.func24, Try.ntmps24
        go_wp2_with fail
        refine (c1 _).mono ?_
        rintro _ _ ⟨rfl, rfl⟩
        go_wp2_with fail
        refine (c2 _).mono ?_
        rintro _ _ ⟨rfl, rfl⟩
        go_wp2_with fail
        go_ret
        refine ⟨?_, rfl⟩
        simp [h1]
        rfl

theorem fnExactIdentifies_walk (g n : Int) (w : World) :
    Calls Try.prog 7 #[.int .i64 g, .int .i64 n] w fun e w' => e = .returned (.bool true) ∧ Below w.heap.size w w' := by
  have cS := fun w' => specIdentifies_any g n w'
  have cI := fun w' => implIdentifies_any g n w'
  generalize idB g n = rB at *
  have qb : (rB != rB) = false := by simp
  go_enter Try.func7, Try.ntmps7
  go_wp2_with fail
  refine (cS _).mono ?_
  rintro _ _ ⟨rfl, rfl⟩
  go_wp2_with fail
  refine (cI _).mono ?_
  rintro _ _ ⟨rfl, rfl⟩
  go_wp2_with fail
  go_ret
  exact ⟨rfl, Below.refl _ _⟩

end Go.Proofs.Yteadhhhhnihoaaa

/- The law FnOrder, walked: the order of drawn floats is the order of their keys. -/
import Derived.Test.YtepgelalkfgdlaaDrawOrd
import Derived.Test.YtepgelalkfgdlaaSameC
namespace Go.Proofs.Ytepgelalkfgdlaa
open Ieee Go.RowKit Fl

theorem cmpI_facts (A B C : Int) : cmpI B A = - cmpI A B ∧ (-1 ≤ cmpI A B ∧ cmpI A B ≤ 1) ∧ (¬ 0 < cmpI A B → ¬ 0 < cmpI B C → cmpI A C ≤ 0 ∧ (cmpI A C = 0 ↔ (cmpI A B = 0 ∧ cmpI B C = 0))) := by
  unfold cmpI
  refine ⟨?_, ?_, ?_⟩
  · repeat' split
    all_goals omega
  · repeat' split
    all_goals omega
  · repeat' split
    all_goals omega

theorem big_any (a : Option Addr) (len cap : Nat) (w : World) :
    Calls Try.prog 18 #[.slice a len cap] w fun e w' => e = .returned (.bool (decide (1048576 < len))) ∧ w' = w := by
  by_cases h : 1048576 < len
  · have h' : (1048576 : Int) < (len : Int) := by omega
    rw [decide_eq_true h]
    go_enter Try.func18, Try.ntmps18
    go_wp2
    go_ret
    exact ⟨by simp, rfl⟩
  · have h' : ¬ (1048576 : Int) < (len : Int) := by omega
    rw [decide_eq_false h]
    go_enter Try.func18, Try.ntmps18
    go_wp2
    go_ret
    exact ⟨by simp, rfl⟩

set_option maxHeartbeats 2000000 in
theorem fnOrder_walk (a0 : Option Addr) (l0 c0 : Nat) (a1 : Option Addr) (l1 c1 : Nat) (w : World) (h0 : Bytes a0 l0 w) (h1 : Bytes a1 l1 w) :
    Calls Try.prog 4 #[.slice a0 l0 c0, .slice a1 l1 c1] w fun e w' => e = .returned (.bool true) ∧ Below w.heap.size w w' := by
  have g0 := big_any a0 l0 c0
  have g1 := big_any a1 l1 c1
  by_cases q0 : 1048576 < l0
  · rw [decide_eq_true q0] at g0
    clear q0 g1
    go_enter Try.func4, Try.ntmps4
    go_wp2_with fail
    refine (g0 _).mono ?_
    rintro e w' ⟨rfl, rfl⟩
    go_wp2_with fail
    go_ret
    exact ⟨rfl, Below.refl _ _⟩
  · rw [decide_eq_false q0] at g0
    by_cases q1 : 1048576 < l1
    · rw [decide_eq_true q1] at g1
      clear q0 q1
      go_enter Try.func4, Try.ntmps4
      go_wp2_with fail
      refine (g0 _).mono ?_
      rintro e w' ⟨rfl, rfl⟩
      go_wp2_with fail
      refine (g1 _).mono ?_
      rintro e w' ⟨rfl, rfl⟩
      go_wp2_with fail
      go_ret
      exact ⟨rfl, Below.refl _ _⟩
    · rw [decide_eq_false q1] at g1
      clear q0 q1
      have d0 := drawOrd_any a0 l0 c0 w h0
      go_enter Try.func4, Try.ntmps4
      go_wp2_with fail
      refine (g0 _).mono ?_
      rintro e w' ⟨rfl, rfl⟩
      go_wp2_with fail
      refine (g1 _).mono ?_
      rintro e w' ⟨rfl, rfl⟩
      go_wp2_with fail
      refine d0.mono ?_
      rintro e w1 ⟨⟨a, b, ha, hb, rfl⟩, b1⟩
      have d1 := drawOrd_any a1 l1 c1 w1 (h1.below b1)
      clear d0 g0 g1 h0 h1
      have o1 := order_impl a b ha hb
      have o4 := order_impl b a hb ha
      have s1 := same_spec a 0 b 0
      have HA : Hid (a < 2 ^ 64) := ha
      have HB : Hid (b < 2 ^ 64) := hb
      clear ha hb
      go_wp2_with fail
      refine d1.mono ?_
      rintro e w2 ⟨⟨c', c, _, hc, rfl⟩, b2⟩
      clear d1
      have o2 := order_impl b c HB.out hc
      have o3 := order_impl a c HA.out hc
      clear hc HA HB
      obtain ⟨f1, f2, f3⟩ := cmpI_facts (okey a) (okey b) (okey c)
      have f4 := (cmpI_facts (okey b) (okey c) (okey a)).2.1
      have e0 : (eqv a b && eqv 0 0) = (cmpI (okey a) (okey b) == 0) := by
        rw [cmpI_zero]
        show (decide (okey a = okey b) && decide (okey 0 = okey 0)) = _
        simp
      rw [e0] at s1
      rw [f1] at o4
      clear e0 f1
      generalize cmpI (okey a) (okey b) = x at *
      generalize cmpI (okey b) (okey c) = y at *
      generalize cmpI (okey a) (okey c) = z at *
      obtain ⟨x1, x2⟩ := f2
      obtain ⟨y1, y2⟩ := f4
      have hx : x = -1 ∨ x = 0 ∨ x = 1 := by omega
      have hy : y = -1 ∨ y = 0 ∨ y = 1 := by omega
      by_cases p1 : 0 < x
      · have hx1 : x = 1 := by omega
        subst hx1
        clear f3 hx hy x1 x2 p1
        go_wp2_with fail
        refine (o1 _).mono ?_
        rintro e w' ⟨rfl, rfl⟩
        go_wp2_with fail
        refine (o2 _).mono ?_
        rintro e w' ⟨rfl, rfl⟩
        go_wp2_with fail
        refine (o3 _).mono ?_
        rintro e w' ⟨rfl, rfl⟩
        go_wp2_with fail
        refine (s1 _).mono ?_
        rintro e w6 ⟨rfl, b6⟩
        go_wp2_with fail
        refine (o4 _).mono ?_
        rintro e w' ⟨rfl, rfl⟩
        clear o1 o2 o3 o4 s1
        go_wp2_with fail
        go_ret
        exact ⟨rfl, (b1.trans (b2.mono b1.size)).trans (b6.mono (Nat.le_trans b1.size b2.size))⟩
      · by_cases p2 : 0 < y
        · have hy1 : y = 1 := by omega
          subst hy1
          have hx' : x = -1 ∨ x = 0 := by omega
          clear f3 hx hy y1 y2 p2
          rcases hx' with rfl | rfl
          all_goals
            clear x1 x2 p1
            go_wp2_with fail
            refine (o1 _).mono ?_
            rintro e w' ⟨rfl, rfl⟩
            go_wp2_with fail
            refine (o2 _).mono ?_
            rintro e w' ⟨rfl, rfl⟩
            go_wp2_with fail
            refine (o3 _).mono ?_
            rintro e w' ⟨rfl, rfl⟩
            go_wp2_with fail
            refine (s1 _).mono ?_
            rintro e w6 ⟨rfl, b6⟩
            go_wp2_with fail
            refine (o4 _).mono ?_
            rintro e w' ⟨rfl, rfl⟩
            clear o1 o2 o3 o4 s1
            go_wp2_with fail
            go_ret
            exact ⟨rfl, (b1.trans (b2.mono b1.size)).trans (b6.mono (Nat.le_trans b1.size b2.size))⟩
        · obtain ⟨z1, z2⟩ := f3 p1 p2
          have hx' : x = -1 ∨ x = 0 := by omega
          have hy' : y = -1 ∨ y = 0 := by omega
          clear f3 hx hy
          rcases hx' with rfl | rfl
          · have n1 : (z == 0) = false := by rw [beq_eq_false_iff_ne]; omega
            clear z2 x1 x2 p1
            rcases hy' with rfl | rfl
            all_goals
              clear y1 y2 p2
              go_wp2_with fail
              refine (o1 _).mono ?_
              rintro e w' ⟨rfl, rfl⟩
              go_wp2_with fail
              refine (o2 _).mono ?_
              rintro e w' ⟨rfl, rfl⟩
              go_wp2_with fail
              refine (o3 _).mono ?_
              rintro e w' ⟨rfl, rfl⟩
              go_wp2_with fail
              refine (s1 _).mono ?_
              rintro e w6 ⟨rfl, b6⟩
              go_wp2_with fail
              refine (o4 _).mono ?_
              rintro e w' ⟨rfl, rfl⟩
              clear o1 o2 o3 o4 s1
              go_wp2_with fail
              go_ret
              exact ⟨rfl, (b1.trans (b2.mono b1.size)).trans (b6.mono (Nat.le_trans b1.size b2.size))⟩
          · rcases hy' with rfl | rfl
            · have n1 : (z == 0) = false := by rw [beq_eq_false_iff_ne]; omega
              clear z2 x1 x2 y1 y2 p1 p2
              go_wp2_with fail
              refine (o1 _).mono ?_
              rintro e w' ⟨rfl, rfl⟩
              go_wp2_with fail
              refine (o2 _).mono ?_
              rintro e w' ⟨rfl, rfl⟩
              go_wp2_with fail
              refine (o3 _).mono ?_
              rintro e w' ⟨rfl, rfl⟩
              go_wp2_with fail
              refine (s1 _).mono ?_
              rintro e w6 ⟨rfl, b6⟩
              go_wp2_with fail
              refine (o4 _).mono ?_
              rintro e w' ⟨rfl, rfl⟩
              clear o1 o2 o3 o4 s1
              go_wp2_with fail
              go_ret
              exact ⟨rfl, (b1.trans (b2.mono b1.size)).trans (b6.mono (Nat.le_trans b1.size b2.size))⟩
            · have n1 : z = 0 := by omega
              subst n1
              clear z1 z2 x1 x2 y1 y2 p1 p2
              go_wp2_with fail
              refine (o1 _).mono ?_
              rintro e w' ⟨rfl, rfl⟩
              go_wp2_with fail
              refine (o2 _).mono ?_
              rintro e w' ⟨rfl, rfl⟩
              go_wp2_with fail
              refine (o3 _).mono ?_
              rintro e w' ⟨rfl, rfl⟩
              go_wp2_with fail
              refine (s1 _).mono ?_
              rintro e w6 ⟨rfl, b6⟩
              go_wp2_with fail
              refine (o4 _).mono ?_
              rintro e w' ⟨rfl, rfl⟩
              clear o1 o2 o3 o4 s1
              go_wp2_with fail
              go_ret
              exact ⟨rfl, (b1.trans (b2.mono b1.size)).trans (b6.mono (Nat.le_trans b1.size b2.size))⟩

end Go.Proofs.Ytepgelalkfgdlaa

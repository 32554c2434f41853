/- An act upon a flow of the call's own. -/
import Derived.Test.YtfhfddmiiopgdaaFla
namespace Go.Proofs.Ytfhfddmiiopgdaa
open Go.RowKit

/-- the code of an act -/
def doC (c : Int) (n : Nat) (L : List Int) (kd id du : Int) : Int :=
  if kd = 1 then adC c n id du (fdB L n id) else if kd = 5 then (if c = 1000000000 then 3 else 0) else if kd = 2 ∨ kd = 3 ∨ kd = 4 then mvC kd (fdB L n id) (gL L (plL L n id * 4 + 1)) else 2
/-- the clock behind it -/
def doK (c kd : Int) : Int := if kd = 5 then (if c = 1000000000 then c else c + 1) else c
/-- how many orders there are behind it -/
def doN (c : Int) (n : Nat) (L : List Int) (kd id du : Int) : Nat := if kd = 1 then adN (adC c n id du (fdB L n id)) n else n
/-- the orders behind it -/
def doL (c : Int) (n : Nat) (L : List Int) (kd id du : Int) : List Int :=
  if kd = 1 then adL (adC c n id du (fdB L n id)) L (plL L n id) id du else if kd = 5 then (if c = 1000000000 then L else tkL (c + 1) L n) else if kd = 2 ∨ kd = 3 ∨ kd = 4 then mvL kd c (fdB L n id) (plL L n id) L else L

set_option maxRecDepth 100000 in
set_option maxHeartbeats 4000000 in
theorem implDo_any {Gh : Nat → Option Obj} (B P : Nat) (c : Int) (v : Value) (n : Nat) (L : List Int) (kd id du : Int) (hn : n ≤ 500) (hc : 0 ≤ c ∧ c ≤ 1000000000) (hr : risL L n) (w : World) (h : FSG Gh B P c v n L w) :
    Calls Try.prog 19 #[.pointer (some ⟨P, 0, none⟩), vAct kd id du] w fun e w' => e = .returned (.int .i64 (doC c n L kd id du)) ∧ (∃ v', FSG Gh B P (doK c kd) v' (doN c n L kd id du) (doL c n L kd id du) w') ∧ Below B w w' := by
  obtain ⟨W, hW⟩ : ∃ W, W = w.alloc (cAct kd id du 30) := ⟨_, rfl⟩
  have hWB : Below w.heap.size w W := by rw [hW]; exact bnew _ _
  obtain ⟨i0, i1, i2⟩ : BAct w.heap.size kd id du W := by rw [hW]; exact BAct.new _ _ _ _ _
  have hW' := hW.symm
  have hFW := h.below hWB
  have HB0 : Hid (Below B w W) := hWB.mono (Nat.le_trans h.hB (Nat.le_of_lt h.lt))
  clear h hW hWB
  by_cases h1 : kd = 1
  · subst h1
    have c1 := implAdd_any B P c v n L 1 id du hn hr W hFW
    have HC : Hid (∀ w', (∃ v', FSG Gh B P c v' (adN (adC c n id du (fdB L n id)) n) (adL (adC c n id du (fdB L n id)) L (plL L n id) id du) w') → Below B W w' → Ending.returned (.int .i64 (adC c n id du (fdB L n id))) = Ending.returned (.int .i64 (doC c n L 1 id du)) ∧ (∃ v', FSG Gh B P (doK c 1) v' (doN c n L 1 id du) (doL c n L 1 id du) w') ∧ Below B w w') := fun w' h1 h2 => ⟨rfl, h1, HB0.out.trans h2⟩
    clear hFW HB0
    generalize adC c n id du (fdB L n id) = code at *
    go_enter Try.func19, Try.ntmps19
    go_wp2_with fail
    refine c1.mono ?_
    rintro e w1 ⟨rfl, hF, hb⟩
    have HV := hide (HC.out _ hF hb)
    clear c1 hF hb HC i0 i1 i2 hW'
    go_wp2_with fail
    go_ret
    exact HV.out
  by_cases h5 : kd = 5
  · subst h5
    have c1 := implTick_any B P c v n L (by omega) hc W hFW
    have HC : Hid (∀ w', FSG Gh B P (if c = 1000000000 then c else c + 1) v n (if c = 1000000000 then L else tkL (c + 1) L n) w' → Below B W w' → Ending.returned (.int .i64 (if c = 1000000000 then 3 else 0)) = Ending.returned (.int .i64 (doC c n L 5 id du)) ∧ (∃ v', FSG Gh B P (doK c 5) v' (doN c n L 5 id du) (doL c n L 5 id du) w') ∧ Below B w w') := fun w' h1 h2 => ⟨rfl, ⟨v, h1⟩, HB0.out.trans h2⟩
    clear hFW HB0
    generalize (if c = 1000000000 then (3 : Int) else 0) = code at *
    generalize (if c = 1000000000 then c else c + 1) = c' at *
    generalize (if c = 1000000000 then L else tkL (c + 1) L n) = L' at *
    go_enter Try.func19, Try.ntmps19
    go_wp2_with fail
    refine c1.mono ?_
    rintro e w1 ⟨rfl, hF, hb⟩
    have HV := hide (HC.out _ hF hb)
    clear c1 hF hb HC i0 i1 i2 hW'
    go_wp2_with fail
    go_ret
    exact HV.out
  by_cases hm : kd = 2 ∨ kd = 3 ∨ kd = 4
  · have c1 := implMove_any B P c v n L kd id du hm (by omega) hr W hFW
    have HC : Hid (∀ e w', (∃ p, isPl (gL L) n id p ∧ e = Ending.returned (.int .i64 (mvC kd (decide (p < n ∧ gL L (p * 4) = id)) (gL L (p * 4 + 1)))) ∧ FSG Gh B P c v n (mvL kd c (decide (p < n ∧ gL L (p * 4) = id)) p L) w' ∧ Below B W w') → ∃ code, e = Ending.returned (.int .i64 code) ∧ Ending.returned (.int .i64 code) = Ending.returned (.int .i64 (doC c n L kd id du)) ∧ (∃ v', FSG Gh B P (doK c kd) v' (doN c n L kd id du) (doL c n L kd id du) w') ∧ Below B w w') := fun e w' h => by
      obtain ⟨p, hp, he, hF, hb⟩ := h
      obtain rfl : p = plL L n id := isPl_eq hp (plL_is id hr)
      have e1 : doC c n L kd id du = mvC kd (fdB L n id) (gL L (plL L n id * 4 + 1)) := by unfold doC; rw [if_neg h1, if_neg h5, if_pos hm]
      have e2 : doK c kd = c := by unfold doK; rw [if_neg h5]
      have e3 : doN c n L kd id du = n := by unfold doN; rw [if_neg h1]
      have e4 : doL c n L kd id du = mvL kd c (fdB L n id) (plL L n id) L := by unfold doL; rw [if_neg h1, if_neg h5, if_pos hm]
      rw [e1, e2, e3, e4]
      exact ⟨_, he, rfl, ⟨v, hF⟩, HB0.out.trans hb⟩
    clear hFW HB0 hr
    go_enter Try.func19, Try.ntmps19
    rcases hm with rfl | rfl | rfl
    all_goals
      go_wp2_with fail
      refine c1.mono ?_
      rintro e w1 hq
      obtain ⟨code, rfl, hV⟩ := HC.out _ _ hq
      have HV := hide hV
      clear c1 hV hq HC i0 i1 i2 hW'
      go_wp2_with fail
      go_ret
      exact HV.out
  have h2 : ¬ kd = 2 := fun e => hm (.inl e)
  have h3 : ¬ kd = 3 := fun e => hm (.inr (.inl e))
  have h4 : ¬ kd = 4 := fun e => hm (.inr (.inr e))
  have HV : Hid (Ending.returned (.int .i64 2) = Ending.returned (.int .i64 (doC c n L kd id du)) ∧ (∃ v', FSG Gh B P (doK c kd) v' (doN c n L kd id du) (doL c n L kd id du) W) ∧ Below B w W) := by
    have e1 : doC c n L kd id du = 2 := by unfold doC; rw [if_neg h1, if_neg h5, if_neg hm]
    have e2 : doK c kd = c := by unfold doK; rw [if_neg h5]
    have e3 : doN c n L kd id du = n := by unfold doN; rw [if_neg h1]
    have e4 : doL c n L kd id du = L := by unfold doL; rw [if_neg h1, if_neg h5, if_neg hm]
    show _ ∧ _ ∧ _
    rw [e1, e2, e3, e4]
    exact ⟨rfl, ⟨v, hFW⟩, HB0.out⟩
  have b1 : (kd == 1) = false := by simpa using h1
  have b2 : (kd == 2) = false := by simpa using h2
  have b3 : (kd == 3) = false := by simpa using h3
  have b4 : (kd == 4) = false := by simpa using h4
  have b5 : (kd == 5) = false := by simpa using h5
  clear hFW HB0 hr hm
  go_enter Try.func19, Try.ntmps19
  go_wp2_with fail
  go_ret
  exact HV.out

end Go.Proofs.Ytfhfddmiiopgdaa

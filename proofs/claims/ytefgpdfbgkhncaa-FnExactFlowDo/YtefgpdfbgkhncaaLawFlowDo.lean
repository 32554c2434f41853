/- The law on FlowDo, walked. -/
import Derived.Test.YtefgpdfbgkhncaaFlh
import Derived.Test.YtefgpdfbgkhncaaFld
import Derived.Test.YtefgpdfbgkhncaaAcs
import Derived.Test.YtefgpdfbgkhncaaOrm
import Derived.Deep.RegionHeld
import Derived.Deep.DeepCutAuto
namespace Go.Proofs.Ytefgpdfbgkhncaa
open Go.RowKit

theorem foN_le (c : Int) (g : Nat → Int) (n : Nat) (kd id du : Int) : foN c g n kd id du ≤ 1000 := by
  unfold foN
  split
  case isTrue h =>
    have := (flB_at h).2.1
    unfold doN adN
    split
    · split <;> omega
    · omega
  case isFalse => omega

set_option maxRecDepth 100000 in
set_option maxHeartbeats 8000000 in
theorem fnExactFlowDo_walk (C0 : Int) (a0 : Option Addr) (n0 cap0 : Nat) (f0 : Nat → Int) (hl0 : n0 ≤ maxLen) (kd id du : Int) (w : World) (h0 : Px a0 (n0 * 4) f0 w) :
    Calls Try.prog 4 #[vFlow C0 a0 n0 cap0, vAct kd id du] w fun e w' => e = .returned (.bool true) ∧ Below w.heap.size w w' := by
  unfold maxLen at hl0
  have HS0 := hide (((St.start w).box [.int .i64 C0, .slice a0 n0 cap0] 24).box' [.int .i64 kd, .int .i64 id, .int .i64 du] 34 (b := w.heap.size + 1) (by simp))
  have HP0 := hide h0
  clear h0
  have hz0 := szFlow_any C0 a0 n0 cap0 (1048576) (by omega) (by omega) (by omega)
  by_cases hb0 : (1048576 : Int) < n0
  · rw [if_pos hb0] at hz0
    clear hb0 hl0
    go_enter Try.func4, Try.ntmps4
    go_wp2_with fail
    refine (hz0 _).mono ?_
    rintro e wz0 ⟨rfl, hb⟩
    have HZ0 := hide (HS0.out.next hb)
    clear hb
    have HB := hide HZ0.out.below
    go_wp2_with fail
    go_ret
    exact ⟨rfl, HB.out⟩
  rw [if_neg hb0] at hz0
  have hn0 : ¬ (1048576 - (n0 : Int) : Int) < 0 := by omega
  have hL0 : n0 ≤ 1048576 := by omega
  have cT0 := fun w' h => toFlow_any C0 a0 n0 cap0 f0 hL0 w' h
  have cC := toAct_any kd id du
  have cA0 := fun b b' w' h h' => eqFlow_any C0 (some ⟨b, 0, none⟩) (some ⟨b', 0, none⟩) n0 n0 n0 f0 hL0 w' h h'
  have cS := fun b0 w' h0 => specFlowDo_any C0 (some ⟨b0, 0, none⟩) n0 n0 f0 hL0 (fun h => by cases h) kd id du w' h0
  have cI := fun b0 w' h0 => implFlowDo_any C0 (some ⟨b0, 0, none⟩) n0 n0 f0 hL0 kd id du w' h0
  unfold FlR at cS cI
  have hrn0 := foN_le C0 f0 n0 kd id du
  generalize foK C0 f0 n0 kd = rK at *
  generalize foN C0 f0 n0 kd id du = rN at *
  generalize foL C0 f0 n0 kd id du = s at *
  generalize foC C0 f0 n0 kd id du = rC at *
  have hrn : rN ≤ 1048576 := by omega
  clear hrn0 hl0 hb0
  have qc : (rC != rC) = false := by simp
  have cE := fun x y c1 c2 w' h h' => eqFlow_any rK x y rN c1 c2 s hrn w' h h'
  have cN := fun x b c1 => markFlow_any rK x b rN c1 s hrn 1 (by omega) (by omega)
  have cH := fun x b c1 => heldFlow_any rK x b rN c1 hrn
  have cM := fun b b' => markFlow_any C0 (some ⟨b, 0, none⟩) b' n0 n0 f0 hL0 1 (by omega) (by omega)
  have q0 : ¬ 1 + 4 * (rN : Int) < 0 := by omega
  have q1 : (1 + 4 * (rN : Int) != 1 + 4 * (rN : Int)) = false := by simp
  have q2 : ¬ 1 + 4 * (n0 : Int) < 0 := by omega
  go_enter Try.func4, Try.ntmps4
  go_wp2_with fail
  refine (hz0 _).mono ?_
  rintro e wz0 ⟨rfl, hb⟩
  have HS1 := hide (HS0.out.next hb)
  clear hb HS0 hz0
  have SD := HS1.out.drew
  have SZ := (HS1.out.box [.int .i64 0, .slice none 0 0] 29).drew
  have SY := HS1.out.drew.box [.int .i64 0, .slice none 0 0] 29
  have SDs := hide (And.intro (SD.im2 1 rfl).1 (And.intro (SD.im2 1 rfl).2 (And.intro (SD.im3 0 rfl).1 (And.intro (SD.im3 0 rfl).2.1 (SD.im3 0 rfl).2.2))))
  have SZs := hide (And.intro (SZ.im2 2 rfl).1 (And.intro (SZ.im2 2 rfl).2 (And.intro (SZ.im3 1 rfl).1 (And.intro (SZ.im3 1 rfl).2.1 (SZ.im3 1 rfl).2.2))))
  have SYs := hide (And.intro (SY.im2 2 rfl).1 (And.intro (SY.im2 2 rfl).2 (And.intro (SY.im3 1 rfl).1 (And.intro (SY.im3 1 rfl).2.1 (SY.im3 1 rfl).2.2))))
  obtain ⟨cf0, cf1⟩ := HS1.out.im2 1 rfl
  obtain ⟨ca0, ca1, ca2⟩ := HS1.out.im3 0 rfl
  go_upto_region 5 with fail
  go_cut [6, 7] (fun sl sc wc => ∃ c x y t, sl = .pointer (some ⟨c, 0, none⟩) ∧ sc = .int .i64 rC ∧ St w [(c, [.int .i64 rK, .slice x rN y]), (w.heap.size + 1, [.int .i64 kd, .int .i64 id, .int .i64 du]), (w.heap.size, [.int .i64 C0, .slice a0 n0 cap0])] [(x, t, rN * 4, (fun k => .int .i64 (s k)))] wc)
  case first =>
    go_region_held (fun w' => w'.cell? ⟨w.heap.size, 0, none⟩ = some (.int .i64 C0) ∧ w'.cell? ⟨w.heap.size, 1, none⟩ = some (.slice a0 n0 cap0) ∧ w'.cell? ⟨w.heap.size + 1, 0, none⟩ = some (.int .i64 kd) ∧ w'.cell? ⟨w.heap.size + 1, 1, none⟩ = some (.int .i64 id) ∧ w'.cell? ⟨w.heap.size + 1, 2, none⟩ = some (.int .i64 du))
      ((first | (with_reducible exact SDs.out) | (with_reducible exact SZs.out) | (with_reducible exact SYs.out) | (with_reducible exact S0s.out) | (with_reducible exact S0z.out) | (with_reducible exact S1s.out) | (with_reducible exact S1z.out) | (with_reducible exact SCs.out) | (with_reducible exact SCz.out) | (with_reducible exact SCb.out) | (with_reducible exact SCf.out)))
      (first
        | (go_at_call 8; (with_reducible refine (cT0 _ (HP0.out.below (by first | exact SD.below | exact SZ.below | exact SY.below))).mono ?_); rintro e wA0 ⟨bb0, rfl, hg0, hr0, hb0⟩; (first | (with_reducible have S0 := SD.own hb0 hr0.v (.inr hg0)) | (with_reducible have S0 := SZ.own hb0 hr0.v (.inr hg0)) | (with_reducible have S0 := SY.own hb0 hr0.v (.inr hg0))); clear hb0 hr0 hg0; (first | have S0s := hide (And.intro (S0.im2 2 rfl).1 (And.intro (S0.im2 2 rfl).2 (And.intro (S0.im3 1 rfl).1 (And.intro (S0.im3 1 rfl).2.1 (S0.im3 1 rfl).2.2)))) | have S0s := hide (And.intro (S0.im2 1 rfl).1 (And.intro (S0.im2 1 rfl).2 (And.intro (S0.im3 0 rfl).1 (And.intro (S0.im3 0 rfl).2.1 (S0.im3 0 rfl).2.2))))); (first | have S0z := hide (And.intro ((S0.box [.int .i64 0, .slice none 0 0] 29).im2 3 rfl).1 (And.intro ((S0.box [.int .i64 0, .slice none 0 0] 29).im2 3 rfl).2 (And.intro ((S0.box [.int .i64 0, .slice none 0 0] 29).im3 2 rfl).1 (And.intro ((S0.box [.int .i64 0, .slice none 0 0] 29).im3 2 rfl).2.1 ((S0.box [.int .i64 0, .slice none 0 0] 29).im3 2 rfl).2.2)))) | have S0z := hide (And.intro ((S0.box [.int .i64 0, .slice none 0 0] 29).im2 2 rfl).1 (And.intro ((S0.box [.int .i64 0, .slice none 0 0] 29).im2 2 rfl).2 (And.intro ((S0.box [.int .i64 0, .slice none 0 0] 29).im3 1 rfl).1 (And.intro ((S0.box [.int .i64 0, .slice none 0 0] 29).im3 1 rfl).2.1 ((S0.box [.int .i64 0, .slice none 0 0] 29).im3 1 rfl).2.2))))))
        | (go_at_call 12; (with_reducible refine (cC _).mono ?_); rintro e wA1 ⟨rfl, hb1⟩; (first | (with_reducible have S1 := S0.next hb1) | (with_reducible have S1 := (S0.box [.int .i64 0, .slice none 0 0] 29).next hb1)); clear hb1; (first | have S1s := hide (And.intro (S1.im2 2 rfl).1 (And.intro (S1.im2 2 rfl).2 (And.intro (S1.im3 1 rfl).1 (And.intro (S1.im3 1 rfl).2.1 (S1.im3 1 rfl).2.2)))) | have S1s := hide (And.intro (S1.im2 1 rfl).1 (And.intro (S1.im2 1 rfl).2 (And.intro (S1.im3 0 rfl).1 (And.intro (S1.im3 0 rfl).2.1 (S1.im3 0 rfl).2.2))))); (first | have S1z := hide (And.intro ((S1.box [.int .i64 0, .slice none 0 0] 29).im2 3 rfl).1 (And.intro ((S1.box [.int .i64 0, .slice none 0 0] 29).im2 3 rfl).2 (And.intro ((S1.box [.int .i64 0, .slice none 0 0] 29).im3 2 rfl).1 (And.intro ((S1.box [.int .i64 0, .slice none 0 0] 29).im3 2 rfl).2.1 ((S1.box [.int .i64 0, .slice none 0 0] 29).im3 2 rfl).2.2)))) | have S1z := hide (And.intro ((S1.box [.int .i64 0, .slice none 0 0] 29).im2 2 rfl).1 (And.intro ((S1.box [.int .i64 0, .slice none 0 0] 29).im2 2 rfl).2 (And.intro ((S1.box [.int .i64 0, .slice none 0 0] 29).im3 1 rfl).1 (And.intro ((S1.box [.int .i64 0, .slice none 0 0] 29).im3 1 rfl).2.1 ((S1.box [.int .i64 0, .slice none 0 0] 29).im3 1 rfl).2.2))))))
        | (go_at_call 11; (with_reducible refine (cS _ _ (by first | exact (S1.nthO 0 rfl).px | exact ((S1.box [.int .i64 0, .slice none 0 0] 29).nthO 0 rfl).px)).mono ?_); rintro e wC ⟨p0, pc0, pb0, rfl, hoC, hC1, hbC, -⟩; (first | (with_reducible have SC := S1.own hbC hoC.v hC1) | (with_reducible have SC := (S1.box [.int .i64 0, .slice none 0 0] 29).own hbC hoC.v hC1)); clear hbC hoC hC1; (first | have SCs := hide (And.intro (SC.im2 2 rfl).1 (And.intro (SC.im2 2 rfl).2 (And.intro (SC.im3 1 rfl).1 (And.intro (SC.im3 1 rfl).2.1 (SC.im3 1 rfl).2.2)))) | have SCs := hide (And.intro (SC.im2 1 rfl).1 (And.intro (SC.im2 1 rfl).2 (And.intro (SC.im3 0 rfl).1 (And.intro (SC.im3 0 rfl).2.1 (SC.im3 0 rfl).2.2))))); (first | have SCz := hide (And.intro ((SC.box [.int .i64 0, .slice none 0 0] 29).im2 3 rfl).1 (And.intro ((SC.box [.int .i64 0, .slice none 0 0] 29).im2 3 rfl).2 (And.intro ((SC.box [.int .i64 0, .slice none 0 0] 29).im3 2 rfl).1 (And.intro ((SC.box [.int .i64 0, .slice none 0 0] 29).im3 2 rfl).2.1 ((SC.box [.int .i64 0, .slice none 0 0] 29).im3 2 rfl).2.2)))) | have SCz := hide (And.intro ((SC.box [.int .i64 0, .slice none 0 0] 29).im2 2 rfl).1 (And.intro ((SC.box [.int .i64 0, .slice none 0 0] 29).im2 2 rfl).2 (And.intro ((SC.box [.int .i64 0, .slice none 0 0] 29).im3 1 rfl).1 (And.intro ((SC.box [.int .i64 0, .slice none 0 0] 29).im3 1 rfl).2.1 ((SC.box [.int .i64 0, .slice none 0 0] 29).im3 1 rfl).2.2))))); (first | have SCb := hide (And.intro ((SC.box [.int .i64 rK, .slice p0 rN pc0] 29).im2 3 rfl).1 (And.intro ((SC.box [.int .i64 rK, .slice p0 rN pc0] 29).im2 3 rfl).2 (And.intro ((SC.box [.int .i64 rK, .slice p0 rN pc0] 29).im3 2 rfl).1 (And.intro ((SC.box [.int .i64 rK, .slice p0 rN pc0] 29).im3 2 rfl).2.1 ((SC.box [.int .i64 rK, .slice p0 rN pc0] 29).im3 2 rfl).2.2)))) | have SCb := hide (And.intro ((SC.box [.int .i64 rK, .slice p0 rN pc0] 29).im2 2 rfl).1 (And.intro ((SC.box [.int .i64 rK, .slice p0 rN pc0] 29).im2 2 rfl).2 (And.intro ((SC.box [.int .i64 rK, .slice p0 rN pc0] 29).im3 1 rfl).1 (And.intro ((SC.box [.int .i64 rK, .slice p0 rN pc0] 29).im3 1 rfl).2.1 ((SC.box [.int .i64 rK, .slice p0 rN pc0] 29).im3 1 rfl).2.2))))); (try have SCf := hide (And.intro ((SC.fill2 (.int .i64 rK) (.slice p0 rN pc0)).im2 2 rfl).1 (And.intro ((SC.fill2 (.int .i64 rK) (.slice p0 rN pc0)).im2 2 rfl).2 (And.intro ((SC.fill2 (.int .i64 rK) (.slice p0 rN pc0)).im3 1 rfl).1 (And.intro ((SC.fill2 (.int .i64 rK) (.slice p0 rN pc0)).im3 1 rfl).2.1 ((SC.fill2 (.int .i64 rK) (.slice p0 rN pc0)).im3 1 rfl).2.2))))); (try (obtain ⟨z0, z1⟩ := SC.im2 0 rfl; obtain ⟨e0, e1⟩ := SC.fr2 0 rfl))))
    all_goals
      clear SDs SZs SYs SD SZ SY S0s S0z S0 S1s S1z S1 SCs SCz SCb
      go_wp2_with fail
      go_meet
      refine ⟨_, p0, pc0, pb0, rfl, rfl, ?_⟩
      first | with_reducible exact (SC.box [.int .i64 rK, .slice p0 rN pc0] 29).dr1 | with_reducible exact (SC.fill2 (.int .i64 rK) (.slice p0 rN pc0)).dr1 | with_reducible exact (SC.box [.int .i64 rK, .slice p0 rN pc0] 29).drew.dr1 | with_reducible exact (SC.fill2 (.int .i64 rK) (.slice p0 rN pc0)).drew.dr1
  case rest =>
    obtain ⟨c12, p0, pc0, pb0, rfl, rfl, HS11'⟩ := hcut
    have HS11 := hide HS11'
    clear SDs SZs SYs SD SZ SY HS11' HS1 cf0 cf1 ca0 ca1 ca2
    clear cS
    obtain ⟨i0, i1⟩ := HS11.out.im2 2 rfl
    go_wp2_with fail
    refine (cT0 _ (HP0.out.below HS11.out.below)).mono ?_
    rintro e w13 ⟨x0, rfl, hg, hr, hb⟩
    have HS15 := hide ((HS11.out.own hb hr.v (.inr hg)).box [.int .i64 C0, .slice (some ⟨x0, 0, none⟩) n0 n0] 29)
    generalize hxw14 : w13.alloc (.cells [.int .i64 C0, .slice (some ⟨x0, 0, none⟩) n0 n0].toArray 29) = w14 at HS15
    have hyw14 : w13.alloc (.cells #[.int .i64 C0, .slice (some ⟨x0, 0, none⟩) n0 n0] 29) = w14 := hxw14
    clear hxw14 HS11 hb hr hg i0 i1
    have SD := HS15.out.drew
    have SZ := (HS15.out.box [.int .i64 0, .slice none 0 0] 29).drew
    have SY := HS15.out.drew.box [.int .i64 0, .slice none 0 0] 29
    have SDs := hide (And.intro (SD.im2 0 rfl).1 (And.intro (SD.im2 0 rfl).2 (And.intro (SD.im3 2 rfl).1 (And.intro (SD.im3 2 rfl).2.1 (SD.im3 2 rfl).2.2))))
    have SZs := hide (And.intro (SZ.im2 1 rfl).1 (And.intro (SZ.im2 1 rfl).2 (And.intro (SZ.im3 3 rfl).1 (And.intro (SZ.im3 3 rfl).2.1 (SZ.im3 3 rfl).2.2))))
    have SYs := hide (And.intro (SY.im2 1 rfl).1 (And.intro (SY.im2 1 rfl).2 (And.intro (SY.im3 3 rfl).1 (And.intro (SY.im3 3 rfl).2.1 (SY.im3 3 rfl).2.2))))
    obtain ⟨cf0, cf1⟩ := HS15.out.im2 0 rfl
    obtain ⟨ca0, ca1, ca2⟩ := HS15.out.im3 2 rfl
    go_upto_region 7 with fail
    go_cut [9, 10] (fun sl sc wc => ∃ c x y t, sl = .pointer (some ⟨c, 0, none⟩) ∧ sc = .int .i64 rC ∧ St w [(c, [.int .i64 rK, .slice x rN y]), (w13.heap.size, [.int .i64 C0, .slice (some ⟨x0, 0, none⟩) n0 n0]), (c12, [.int .i64 rK, .slice p0 rN pc0]), (w.heap.size + 1, [.int .i64 kd, .int .i64 id, .int .i64 du]), (w.heap.size, [.int .i64 C0, .slice a0 n0 cap0])] [(x, t, rN * 4, (fun k => .int .i64 (s k))), (some ⟨x0, 0, none⟩, x0, n0 * 4, (fun k => .int .i64 (f0 k))), (p0, pb0, rN * 4, (fun k => .int .i64 (s k)))] wc)
    case first =>
      go_region_held (fun w' => w'.cell? ⟨w13.heap.size, 0, none⟩ = some (.int .i64 C0) ∧ w'.cell? ⟨w13.heap.size, 1, none⟩ = some (.slice (some ⟨x0, 0, none⟩) n0 n0) ∧ w'.cell? ⟨w.heap.size + 1, 0, none⟩ = some (.int .i64 kd) ∧ w'.cell? ⟨w.heap.size + 1, 1, none⟩ = some (.int .i64 id) ∧ w'.cell? ⟨w.heap.size + 1, 2, none⟩ = some (.int .i64 du))
        ((first | (with_reducible exact SDs.out) | (with_reducible exact SZs.out) | (with_reducible exact SYs.out) | (with_reducible exact S1s.out) | (with_reducible exact S1z.out) | (with_reducible exact SCs.out) | (with_reducible exact SCz.out) | (with_reducible exact SCb.out) | (with_reducible exact SCf.out)))
        (first
          | (go_at_call 12; (with_reducible refine (cC _).mono ?_); rintro e wA1 ⟨rfl, hb1⟩; (first | (with_reducible have S1 := SD.next hb1) | (with_reducible have S1 := SZ.next hb1) | (with_reducible have S1 := SY.next hb1)); clear hb1; (first | have S1s := hide (And.intro (S1.im2 1 rfl).1 (And.intro (S1.im2 1 rfl).2 (And.intro (S1.im3 3 rfl).1 (And.intro (S1.im3 3 rfl).2.1 (S1.im3 3 rfl).2.2)))) | have S1s := hide (And.intro (S1.im2 0 rfl).1 (And.intro (S1.im2 0 rfl).2 (And.intro (S1.im3 2 rfl).1 (And.intro (S1.im3 2 rfl).2.1 (S1.im3 2 rfl).2.2))))); (first | have S1z := hide (And.intro ((S1.box [.int .i64 0, .slice none 0 0] 29).im2 2 rfl).1 (And.intro ((S1.box [.int .i64 0, .slice none 0 0] 29).im2 2 rfl).2 (And.intro ((S1.box [.int .i64 0, .slice none 0 0] 29).im3 4 rfl).1 (And.intro ((S1.box [.int .i64 0, .slice none 0 0] 29).im3 4 rfl).2.1 ((S1.box [.int .i64 0, .slice none 0 0] 29).im3 4 rfl).2.2)))) | have S1z := hide (And.intro ((S1.box [.int .i64 0, .slice none 0 0] 29).im2 1 rfl).1 (And.intro ((S1.box [.int .i64 0, .slice none 0 0] 29).im2 1 rfl).2 (And.intro ((S1.box [.int .i64 0, .slice none 0 0] 29).im3 3 rfl).1 (And.intro ((S1.box [.int .i64 0, .slice none 0 0] 29).im3 3 rfl).2.1 ((S1.box [.int .i64 0, .slice none 0 0] 29).im3 3 rfl).2.2))))))
          | (go_at_call 13; (with_reducible refine (cI _ _ (by first | exact (S1.nthO 0 rfl).px | exact ((S1.box [.int .i64 0, .slice none 0 0] 29).nthO 0 rfl).px)).mono ?_); rintro e wC ⟨g0, gc0, gb0, rfl, hoC, hC1, hbC, -⟩; (first | (with_reducible have SC := S1.own hbC hoC.v hC1) | (with_reducible have SC := (S1.box [.int .i64 0, .slice none 0 0] 29).own hbC hoC.v hC1)); clear hbC hoC hC1; (first | have SCs := hide (And.intro (SC.im2 1 rfl).1 (And.intro (SC.im2 1 rfl).2 (And.intro (SC.im3 3 rfl).1 (And.intro (SC.im3 3 rfl).2.1 (SC.im3 3 rfl).2.2)))) | have SCs := hide (And.intro (SC.im2 0 rfl).1 (And.intro (SC.im2 0 rfl).2 (And.intro (SC.im3 2 rfl).1 (And.intro (SC.im3 2 rfl).2.1 (SC.im3 2 rfl).2.2))))); (first | have SCz := hide (And.intro ((SC.box [.int .i64 0, .slice none 0 0] 29).im2 2 rfl).1 (And.intro ((SC.box [.int .i64 0, .slice none 0 0] 29).im2 2 rfl).2 (And.intro ((SC.box [.int .i64 0, .slice none 0 0] 29).im3 4 rfl).1 (And.intro ((SC.box [.int .i64 0, .slice none 0 0] 29).im3 4 rfl).2.1 ((SC.box [.int .i64 0, .slice none 0 0] 29).im3 4 rfl).2.2)))) | have SCz := hide (And.intro ((SC.box [.int .i64 0, .slice none 0 0] 29).im2 1 rfl).1 (And.intro ((SC.box [.int .i64 0, .slice none 0 0] 29).im2 1 rfl).2 (And.intro ((SC.box [.int .i64 0, .slice none 0 0] 29).im3 3 rfl).1 (And.intro ((SC.box [.int .i64 0, .slice none 0 0] 29).im3 3 rfl).2.1 ((SC.box [.int .i64 0, .slice none 0 0] 29).im3 3 rfl).2.2))))); (first | have SCb := hide (And.intro ((SC.box [.int .i64 rK, .slice g0 rN gc0] 29).im2 2 rfl).1 (And.intro ((SC.box [.int .i64 rK, .slice g0 rN gc0] 29).im2 2 rfl).2 (And.intro ((SC.box [.int .i64 rK, .slice g0 rN gc0] 29).im3 4 rfl).1 (And.intro ((SC.box [.int .i64 rK, .slice g0 rN gc0] 29).im3 4 rfl).2.1 ((SC.box [.int .i64 rK, .slice g0 rN gc0] 29).im3 4 rfl).2.2)))) | have SCb := hide (And.intro ((SC.box [.int .i64 rK, .slice g0 rN gc0] 29).im2 1 rfl).1 (And.intro ((SC.box [.int .i64 rK, .slice g0 rN gc0] 29).im2 1 rfl).2 (And.intro ((SC.box [.int .i64 rK, .slice g0 rN gc0] 29).im3 3 rfl).1 (And.intro ((SC.box [.int .i64 rK, .slice g0 rN gc0] 29).im3 3 rfl).2.1 ((SC.box [.int .i64 rK, .slice g0 rN gc0] 29).im3 3 rfl).2.2))))); (try have SCf := hide (And.intro ((SC.fill2 (.int .i64 rK) (.slice g0 rN gc0)).im2 1 rfl).1 (And.intro ((SC.fill2 (.int .i64 rK) (.slice g0 rN gc0)).im2 1 rfl).2 (And.intro ((SC.fill2 (.int .i64 rK) (.slice g0 rN gc0)).im3 3 rfl).1 (And.intro ((SC.fill2 (.int .i64 rK) (.slice g0 rN gc0)).im3 3 rfl).2.1 ((SC.fill2 (.int .i64 rK) (.slice g0 rN gc0)).im3 3 rfl).2.2))))); (try (obtain ⟨z0, z1⟩ := SC.im2 0 rfl; obtain ⟨e0, e1⟩ := SC.fr2 0 rfl))))
      all_goals
        clear SDs SZs SYs SD SZ SY S1s S1z S1 SCs SCz SCb
        go_wp2_with fail
        go_meet
        refine ⟨_, g0, gc0, gb0, rfl, rfl, ?_⟩
        first | with_reducible exact (SC.box [.int .i64 rK, .slice g0 rN gc0] 29) | with_reducible exact (SC.fill2 (.int .i64 rK) (.slice g0 rN gc0)) | with_reducible exact (SC.box [.int .i64 rK, .slice g0 rN gc0] 29).drew | with_reducible exact (SC.fill2 (.int .i64 rK) (.slice g0 rN gc0)).drew
    case rest =>
      obtain ⟨c17, g0, gc0, gb0, rfl, rfl, HS16'⟩ := hcut
      have HS16 := hide HS16'
      clear SDs SZs SYs SD SZ SY HS16' HS15 cf0 cf1 ca0 ca1 ca2
      clear hyw14
      obtain ⟨i0, i1⟩ := HS16.out.im2 0 rfl
      obtain ⟨j0, j1⟩ := HS16.out.im2 2 rfl
      have pA := (HS16.out.nthO 0 rfl).px
      have pB := (HS16.out.nthO 2 rfl).px
      go_wp2_with fail
      refine (cE _ _ _ _ _ pA pB).mono ?_
      rintro e w18 ⟨rfl, hb⟩
      have HS19 := hide (HS16.out.next hb)
      clear HS16 hb i0 i1 j0 j1 pA pB
      have HD20 := hide HS19.out.drew
      obtain ⟨i0, i1⟩ := HS19.out.im2 1 rfl
      obtain ⟨j0, j1⟩ := HS19.out.im2 4 rfl
      go_upto_region 10 with fail
      go_cut [51] (fun sl wd => sl = .bool false ∧ St w [(c17, [.int .i64 rK, .slice g0 rN gc0]), (w13.heap.size, [.int .i64 C0, .slice (some ⟨x0, 0, none⟩) n0 n0]), (c12, [.int .i64 rK, .slice p0 rN pc0]), (w.heap.size + 1, [.int .i64 kd, .int .i64 id, .int .i64 du]), (w.heap.size, [.int .i64 C0, .slice a0 n0 cap0])] [(g0, gb0, rN * 4, (fun k => .int .i64 (s k))), (some ⟨x0, 0, none⟩, x0, n0 * 4, (fun k => .int .i64 (f0 k))), (p0, pb0, rN * 4, (fun k => .int .i64 (s k)))] wd)
      case first =>
        go_region_with (first
          | (go_at_call 8; (with_reducible refine (cT0 _ (HP0.out.below HD20.out.below)).mono ?_); rintro e wP ⟨bP, rfl, -, hr, hb⟩; have HQ := hide (HD20.out.next hb); obtain ⟨k0, k1⟩ := HQ.out.im2 1 rfl)
          | (go_at_call 10; (with_reducible refine (cA0 _ _ _ (HQ.out.nthO 1 rfl).px hr.px).mono ?_); rintro e wQ ⟨rfl, hbQ⟩))
        all_goals
          have HQ2 := hide (HQ.out.next hbQ)
          clear hr hb hbQ HQ k0 k1 i0 i1 j0 j1 HD20 HS19
          go_wp2_with fail
          go_meet
          exact ⟨rfl, HQ2.out⟩
      case rest =>
        obtain ⟨rfl, HS21'⟩ := hcut
        have HS21 := hide HS21'
        clear HD20 HS19 i0 i1 j0 j1 HS21'
        obtain ⟨i0, i1⟩ := HS21.out.im2 1 rfl
        go_wp2_with fail
        refine (cM _ _ _ (HS21.out.nthO 1 rfl).bk.i).mono ?_
        rintro e w22 ⟨rfl, ho, hk⟩
        have HS23 : Hid (St w [(c17, [.int .i64 rK, .slice g0 rN gc0]), (w13.heap.size, [.int .i64 C0, .slice (some ⟨x0, 0, none⟩) n0 n0]), (c12, [.int .i64 rK, .slice p0 rN pc0]), (w.heap.size + 1, [.int .i64 kd, .int .i64 id, .int .i64 du]), (w.heap.size, [.int .i64 C0, .slice a0 n0 cap0])] [(g0, gb0, rN * 4, (fun k => .int .i64 (s k))), (some ⟨x0, 0, none⟩, x0, n0 * 4, (fun k => .int .i64 (1 + (k : Int)))), (p0, pb0, rN * 4, (fun k => .int .i64 (s k)))] w22) := HS21.out.mark (O1 := [_]) hk ho.v
        clear HS21 ho hk i0 i1 cM
        obtain ⟨i0, i1⟩ := HS23.out.im2 0 rfl
        obtain ⟨j0, j1⟩ := HS23.out.im2 2 rfl
        have pA := (HS23.out.nthO 0 rfl).px
        have pB := (HS23.out.nthO 2 rfl).px
        go_wp2_with fail
        refine (cE _ _ _ _ _ pA pB).mono ?_
        rintro e w24 ⟨rfl, hb⟩
        have HS25 := hide (HS23.out.next hb)
        clear HS23 hb i0 i1 j0 j1 pA pB
        obtain ⟨i0, i1⟩ := HS25.out.im2 0 rfl
        go_wp2_with fail
        refine (cN _ _ _ _ (HS25.out.nthO 0 rfl).bk.i).mono ?_
        rintro e w26 ⟨rfl, ho, hk⟩
        have HS27 : Hid (St w [(c17, [.int .i64 rK, .slice g0 rN gc0]), (w13.heap.size, [.int .i64 C0, .slice (some ⟨x0, 0, none⟩) n0 n0]), (c12, [.int .i64 rK, .slice p0 rN pc0]), (w.heap.size + 1, [.int .i64 kd, .int .i64 id, .int .i64 du]), (w.heap.size, [.int .i64 C0, .slice a0 n0 cap0])] [(g0, gb0, rN * 4, (fun k => .int .i64 (1 + (k : Int)))), (some ⟨x0, 0, none⟩, x0, n0 * 4, (fun k => .int .i64 (1 + (k : Int)))), (p0, pb0, rN * 4, (fun k => .int .i64 (s k)))] w26) := HS25.out.mark (O1 := []) hk ho.v
        clear HS25 ho hk i0 i1
        obtain ⟨i0, i1⟩ := HS27.out.im2 0 rfl
        go_wp2_with fail
        refine (cH _ _ _ _ (HS27.out.nthO 0 rfl).i).mono ?_
        rintro e w28 ⟨rfl, hb⟩
        have HS29 := hide (HS27.out.next hb)
        clear HS27 hb i0 i1
        have SD := HS29.out.drew
        have SZ := (HS29.out.box [.int .i64 0, .slice none 0 0] 29).drew
        have SY := HS29.out.drew.box [.int .i64 0, .slice none 0 0] 29
        have SDs := hide (And.intro (SD.im2 4 rfl).1 (And.intro (SD.im2 4 rfl).2 (And.intro (SD.im3 3 rfl).1 (And.intro (SD.im3 3 rfl).2.1 (SD.im3 3 rfl).2.2))))
        have SZs := hide (And.intro (SZ.im2 5 rfl).1 (And.intro (SZ.im2 5 rfl).2 (And.intro (SZ.im3 4 rfl).1 (And.intro (SZ.im3 4 rfl).2.1 (SZ.im3 4 rfl).2.2))))
        have SYs := hide (And.intro (SY.im2 5 rfl).1 (And.intro (SY.im2 5 rfl).2 (And.intro (SY.im3 4 rfl).1 (And.intro (SY.im3 4 rfl).2.1 (SY.im3 4 rfl).2.2))))
        obtain ⟨cf0, cf1⟩ := HS29.out.im2 4 rfl
        obtain ⟨ca0, ca1, ca2⟩ := HS29.out.im3 3 rfl
        go_upto_region 24 with fail
        go_cut [14, 15] (fun sl sc wc => ∃ c x y t, sl = .pointer (some ⟨c, 0, none⟩) ∧ sc = .int .i64 rC ∧ St w [(c, [.int .i64 rK, .slice x rN y]), (c17, [.int .i64 rK, .slice g0 rN gc0]), (w13.heap.size, [.int .i64 C0, .slice (some ⟨x0, 0, none⟩) n0 n0]), (c12, [.int .i64 rK, .slice p0 rN pc0]), (w.heap.size + 1, [.int .i64 kd, .int .i64 id, .int .i64 du]), (w.heap.size, [.int .i64 C0, .slice a0 n0 cap0])] [(x, t, rN * 4, (fun k => .int .i64 (s k))), (g0, gb0, rN * 4, (fun k => .int .i64 (1 + (k : Int)))), (some ⟨x0, 0, none⟩, x0, n0 * 4, (fun k => .int .i64 (1 + (k : Int)))), (p0, pb0, rN * 4, (fun k => .int .i64 (s k)))] wc)
        case first =>
          go_region_held (fun w' => w'.cell? ⟨w.heap.size, 0, none⟩ = some (.int .i64 C0) ∧ w'.cell? ⟨w.heap.size, 1, none⟩ = some (.slice a0 n0 cap0) ∧ w'.cell? ⟨w.heap.size + 1, 0, none⟩ = some (.int .i64 kd) ∧ w'.cell? ⟨w.heap.size + 1, 1, none⟩ = some (.int .i64 id) ∧ w'.cell? ⟨w.heap.size + 1, 2, none⟩ = some (.int .i64 du))
            ((first | (with_reducible exact SDs.out) | (with_reducible exact SZs.out) | (with_reducible exact SYs.out) | (with_reducible exact S0s.out) | (with_reducible exact S0z.out) | (with_reducible exact S1s.out) | (with_reducible exact S1z.out) | (with_reducible exact SCs.out) | (with_reducible exact SCz.out) | (with_reducible exact SCb.out) | (with_reducible exact SCf.out)))
            (first
              | (go_at_call 8; (with_reducible refine (cT0 _ (HP0.out.below (by first | exact SD.below | exact SZ.below | exact SY.below))).mono ?_); rintro e wA0 ⟨bb0, rfl, hg0, hr0, hb0⟩; (first | (with_reducible have S0 := SD.own hb0 hr0.v (.inr hg0)) | (with_reducible have S0 := SZ.own hb0 hr0.v (.inr hg0)) | (with_reducible have S0 := SY.own hb0 hr0.v (.inr hg0))); clear hb0 hr0 hg0; (first | have S0s := hide (And.intro (S0.im2 5 rfl).1 (And.intro (S0.im2 5 rfl).2 (And.intro (S0.im3 4 rfl).1 (And.intro (S0.im3 4 rfl).2.1 (S0.im3 4 rfl).2.2)))) | have S0s := hide (And.intro (S0.im2 4 rfl).1 (And.intro (S0.im2 4 rfl).2 (And.intro (S0.im3 3 rfl).1 (And.intro (S0.im3 3 rfl).2.1 (S0.im3 3 rfl).2.2))))); (first | have S0z := hide (And.intro ((S0.box [.int .i64 0, .slice none 0 0] 29).im2 6 rfl).1 (And.intro ((S0.box [.int .i64 0, .slice none 0 0] 29).im2 6 rfl).2 (And.intro ((S0.box [.int .i64 0, .slice none 0 0] 29).im3 5 rfl).1 (And.intro ((S0.box [.int .i64 0, .slice none 0 0] 29).im3 5 rfl).2.1 ((S0.box [.int .i64 0, .slice none 0 0] 29).im3 5 rfl).2.2)))) | have S0z := hide (And.intro ((S0.box [.int .i64 0, .slice none 0 0] 29).im2 5 rfl).1 (And.intro ((S0.box [.int .i64 0, .slice none 0 0] 29).im2 5 rfl).2 (And.intro ((S0.box [.int .i64 0, .slice none 0 0] 29).im3 4 rfl).1 (And.intro ((S0.box [.int .i64 0, .slice none 0 0] 29).im3 4 rfl).2.1 ((S0.box [.int .i64 0, .slice none 0 0] 29).im3 4 rfl).2.2))))))
              | (go_at_call 12; (with_reducible refine (cC _).mono ?_); rintro e wA1 ⟨rfl, hb1⟩; (first | (with_reducible have S1 := S0.next hb1) | (with_reducible have S1 := (S0.box [.int .i64 0, .slice none 0 0] 29).next hb1)); clear hb1; (first | have S1s := hide (And.intro (S1.im2 5 rfl).1 (And.intro (S1.im2 5 rfl).2 (And.intro (S1.im3 4 rfl).1 (And.intro (S1.im3 4 rfl).2.1 (S1.im3 4 rfl).2.2)))) | have S1s := hide (And.intro (S1.im2 4 rfl).1 (And.intro (S1.im2 4 rfl).2 (And.intro (S1.im3 3 rfl).1 (And.intro (S1.im3 3 rfl).2.1 (S1.im3 3 rfl).2.2))))); (first | have S1z := hide (And.intro ((S1.box [.int .i64 0, .slice none 0 0] 29).im2 6 rfl).1 (And.intro ((S1.box [.int .i64 0, .slice none 0 0] 29).im2 6 rfl).2 (And.intro ((S1.box [.int .i64 0, .slice none 0 0] 29).im3 5 rfl).1 (And.intro ((S1.box [.int .i64 0, .slice none 0 0] 29).im3 5 rfl).2.1 ((S1.box [.int .i64 0, .slice none 0 0] 29).im3 5 rfl).2.2)))) | have S1z := hide (And.intro ((S1.box [.int .i64 0, .slice none 0 0] 29).im2 5 rfl).1 (And.intro ((S1.box [.int .i64 0, .slice none 0 0] 29).im2 5 rfl).2 (And.intro ((S1.box [.int .i64 0, .slice none 0 0] 29).im3 4 rfl).1 (And.intro ((S1.box [.int .i64 0, .slice none 0 0] 29).im3 4 rfl).2.1 ((S1.box [.int .i64 0, .slice none 0 0] 29).im3 4 rfl).2.2))))))
              | (go_at_call 13; (with_reducible refine (cI _ _ (by first | exact (S1.nthO 0 rfl).px | exact ((S1.box [.int .i64 0, .slice none 0 0] 29).nthO 0 rfl).px)).mono ?_); rintro e wC ⟨v0, vc0, vb0, rfl, hoC, hC1, hbC, -⟩; (first | (with_reducible have SC := S1.own hbC hoC.v hC1) | (with_reducible have SC := (S1.box [.int .i64 0, .slice none 0 0] 29).own hbC hoC.v hC1)); clear hbC hoC hC1; (first | have SCs := hide (And.intro (SC.im2 5 rfl).1 (And.intro (SC.im2 5 rfl).2 (And.intro (SC.im3 4 rfl).1 (And.intro (SC.im3 4 rfl).2.1 (SC.im3 4 rfl).2.2)))) | have SCs := hide (And.intro (SC.im2 4 rfl).1 (And.intro (SC.im2 4 rfl).2 (And.intro (SC.im3 3 rfl).1 (And.intro (SC.im3 3 rfl).2.1 (SC.im3 3 rfl).2.2))))); (first | have SCz := hide (And.intro ((SC.box [.int .i64 0, .slice none 0 0] 29).im2 6 rfl).1 (And.intro ((SC.box [.int .i64 0, .slice none 0 0] 29).im2 6 rfl).2 (And.intro ((SC.box [.int .i64 0, .slice none 0 0] 29).im3 5 rfl).1 (And.intro ((SC.box [.int .i64 0, .slice none 0 0] 29).im3 5 rfl).2.1 ((SC.box [.int .i64 0, .slice none 0 0] 29).im3 5 rfl).2.2)))) | have SCz := hide (And.intro ((SC.box [.int .i64 0, .slice none 0 0] 29).im2 5 rfl).1 (And.intro ((SC.box [.int .i64 0, .slice none 0 0] 29).im2 5 rfl).2 (And.intro ((SC.box [.int .i64 0, .slice none 0 0] 29).im3 4 rfl).1 (And.intro ((SC.box [.int .i64 0, .slice none 0 0] 29).im3 4 rfl).2.1 ((SC.box [.int .i64 0, .slice none 0 0] 29).im3 4 rfl).2.2))))); (first | have SCb := hide (And.intro ((SC.box [.int .i64 rK, .slice v0 rN vc0] 29).im2 6 rfl).1 (And.intro ((SC.box [.int .i64 rK, .slice v0 rN vc0] 29).im2 6 rfl).2 (And.intro ((SC.box [.int .i64 rK, .slice v0 rN vc0] 29).im3 5 rfl).1 (And.intro ((SC.box [.int .i64 rK, .slice v0 rN vc0] 29).im3 5 rfl).2.1 ((SC.box [.int .i64 rK, .slice v0 rN vc0] 29).im3 5 rfl).2.2)))) | have SCb := hide (And.intro ((SC.box [.int .i64 rK, .slice v0 rN vc0] 29).im2 5 rfl).1 (And.intro ((SC.box [.int .i64 rK, .slice v0 rN vc0] 29).im2 5 rfl).2 (And.intro ((SC.box [.int .i64 rK, .slice v0 rN vc0] 29).im3 4 rfl).1 (And.intro ((SC.box [.int .i64 rK, .slice v0 rN vc0] 29).im3 4 rfl).2.1 ((SC.box [.int .i64 rK, .slice v0 rN vc0] 29).im3 4 rfl).2.2))))); (try have SCf := hide (And.intro ((SC.fill2 (.int .i64 rK) (.slice v0 rN vc0)).im2 5 rfl).1 (And.intro ((SC.fill2 (.int .i64 rK) (.slice v0 rN vc0)).im2 5 rfl).2 (And.intro ((SC.fill2 (.int .i64 rK) (.slice v0 rN vc0)).im3 4 rfl).1 (And.intro ((SC.fill2 (.int .i64 rK) (.slice v0 rN vc0)).im3 4 rfl).2.1 ((SC.fill2 (.int .i64 rK) (.slice v0 rN vc0)).im3 4 rfl).2.2))))); (try (obtain ⟨z0, z1⟩ := SC.im2 0 rfl; obtain ⟨e0, e1⟩ := SC.fr2 0 rfl))))
          all_goals
            clear SDs SZs SYs SD SZ SY S0s S0z S0 S1s S1z S1 SCs SCz SCb
            go_wp2_with fail
            go_meet
            refine ⟨_, v0, vc0, vb0, rfl, rfl, ?_⟩
            first | with_reducible exact (SC.box [.int .i64 rK, .slice v0 rN vc0] 29).dr1 | with_reducible exact (SC.fill2 (.int .i64 rK) (.slice v0 rN vc0)).dr1 | with_reducible exact (SC.box [.int .i64 rK, .slice v0 rN vc0] 29).drew.dr1 | with_reducible exact (SC.fill2 (.int .i64 rK) (.slice v0 rN vc0)).drew.dr1
        case rest =>
          obtain ⟨c31, v0, vc0, vb0, rfl, rfl, HS30'⟩ := hcut
          have HS30 := hide HS30'
          clear SDs SZs SYs SD SZ SY HS30' HS29 cf0 cf1 ca0 ca1 ca2
          obtain ⟨i0, i1⟩ := HS30.out.im2 0 rfl
          obtain ⟨j0, j1⟩ := HS30.out.im2 3 rfl
          have pA := (HS30.out.nthO 0 rfl).px
          have pB := (HS30.out.nthO 3 rfl).px
          go_wp2_with fail
          refine (cE _ _ _ _ _ pA pB).mono ?_
          rintro e w32 ⟨rfl, hb⟩
          have HS33 := hide (HS30.out.next hb)
          clear HS30 hb i0 i1 j0 j1 pA pB
          obtain ⟨i0, i1⟩ := HS33.out.im2 1 rfl
          go_wp2_with fail
          refine (cH _ _ _ _ (HS33.out.nthO 1 rfl).i).mono ?_
          rintro e w34 ⟨rfl, hb⟩
          have HS35 := hide (HS33.out.next hb)
          clear HS33 hb i0 i1
          have HB := hide HS35.out.below
          clear HS35
          go_wp2_with fail
          go_ret
          exact ⟨rfl, HB.out⟩

end Go.Proofs.Ytefgpdfbgkhncaa

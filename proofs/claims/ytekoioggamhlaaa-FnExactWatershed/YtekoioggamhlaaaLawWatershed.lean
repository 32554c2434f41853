/- The law on Watershed, walked. -/
import Derived.Test.YtekoioggamhlaaaWsj
import Derived.Test.YtekoioggamhlaaaHom
import Derived.Deep.RegionHeld
import Derived.Deep.DeepCutAuto
namespace Go.Proofs.Ytekoioggamhlaaa
open Go.RowKit

set_option maxRecDepth 100000 in
set_option maxHeartbeats 4000000 in
theorem fnExactWatershed_walk (W0 H0 : Int) (a0 : Option Addr) (n0 cap0 : Nat) (f0 : Nat → Int) (hl0 : n0 ≤ maxLen) (W1 H1 : Int) (a1 : Option Addr) (n1 cap1 : Nat) (f1 : Nat → Int) (hl1 : n1 ≤ maxLen) (w : World) (h0 : Px a0 n0 f0 w) (h1 : Px a1 n1 f1 w) :
    Calls Try.prog 4 #[im W0 H0 a0 n0 cap0, im W1 H1 a1 n1 cap1] w fun e w' => e = .returned (.bool true) ∧ Below w.heap.size w w' := by
  unfold maxLen at hl0 hl1
  have HS0 := hide (((St.start w).box [.int .i64 W0, .int .i64 H0, .slice a0 n0 cap0] 32).box' [.int .i64 W1, .int .i64 H1, .slice a1 n1 cap1] 32 (b := w.heap.size + 1) (by simp))
  have HP0 := hide h0
  have HP1 := hide h1
  clear h0 h1
  have hz0 := szImage_any W0 H0 a0 n0 cap0 (1048576) (by omega) (by omega) (by omega)
  by_cases hb0 : (1048576 : Int) < n0
  · rw [if_pos hb0] at hz0
    clear hb0 hl0 hl1
    go_enter Try.func4, Try.ntmps4
    go_wp2_with fail
    refine (hz0 _).mono ?_
    rintro e wz0 ⟨rfl, hb⟩
    have HS1 := hide (HS0.out.next hb)
    clear hb HS0
    have HB := hide HS1.out.below
    go_wp2_with fail
    go_ret
    exact ⟨rfl, HB.out⟩
  rw [if_neg hb0] at hz0
  have hn0 : ¬ (1048576 - (n0 : Int) : Int) < 0 := by omega
  have hz1 := szImage_any W1 H1 a1 n1 cap1 (1048576 - (n0 : Int)) (by omega) (by omega) (by omega)
  by_cases hb1 : (1048576 - (n0 : Int) : Int) < n1
  · rw [if_pos hb1] at hz1
    clear hb1 hl0 hl1
    go_enter Try.func4, Try.ntmps4
    go_wp2_with fail
    refine (hz0 _).mono ?_
    rintro e wz0 ⟨rfl, hb⟩
    have HS1 := hide (HS0.out.next hb)
    clear hb HS0
    obtain ⟨i0, i1, i2⟩ := HS1.out.im3 0 rfl
    go_wp2_with fail
    refine (hz1 _).mono ?_
    rintro e wz1 ⟨rfl, hb⟩
    have HS2 := hide (HS1.out.next hb)
    clear hb HS1
    clear i0 i1 i2
    have HB := hide HS2.out.below
    go_wp2_with fail
    go_ret
    exact ⟨rfl, HB.out⟩
  rw [if_neg hb1] at hz1
  have hn1 : ¬ (1048576 - (n0 : Int) - (n1 : Int) : Int) < 0 := by omega
  have hL0 : n0 ≤ 1048576 := by omega
  have hL1 : n1 ≤ 1048576 := by omega
  have hN : n0 + n1 ≤ 1048576 := by omega
  clear hl0 hb0 hl1 hb1
  have cT0 := fun w' h => toImage_any W0 H0 a0 n0 cap0 f0 hL0 w' h
  have cA0 := fun b b' w' h h' => eqImage_any W0 H0 (some ⟨b, 0, none⟩) (some ⟨b', 0, none⟩) n0 n0 n0 f0 hL0 w' h h'
  have cT1 := fun w' h => toImage_any W1 H1 a1 n1 cap1 f1 hL1 w' h
  have cA1 := fun b b' w' h h' => eqImage_any W1 H1 (some ⟨b, 0, none⟩) (some ⟨b', 0, none⟩) n1 n1 n1 f1 hL1 w' h h'
  have cS := fun b0 b1 w' h0 h1 => specWatershed_any W0 H0 (some ⟨b0, 0, none⟩) n0 n0 f0 hL0 W1 H1 (some ⟨b1, 0, none⟩) n1 n1 f1 hL1 w' h0 h1
  have cI := fun b0 b1 w' h0 h1 => implWatershed_any W0 H0 (some ⟨b0, 0, none⟩) n0 n0 f0 hL0 W1 H1 (some ⟨b1, 0, none⟩) n1 n1 f1 hL1 w' h0 h1
  unfold ImR at cS cI
  have hrn : pickN (shdB W0 H0 n0 f0 W1 H1 n1 f1) n0 ≤ 1048576 := Nat.le_trans (pickN_le _ _) hL0
  generalize pickI (shdB W0 H0 n0 f0 W1 H1 n1 f1) W0 = rW at *
  generalize pickI (shdB W0 H0 n0 f0 W1 H1 n1 f1) H0 = rH at *
  generalize pickN (shdB W0 H0 n0 f0 W1 H1 n1 f1) n0 = rN at *
  generalize shdV W0 H0 n0 f0 f1 = s at *
  have cE := fun x y c1 c2 w' h h' => eqImage_any rW rH x y rN c1 c2 s hrn w' h h'
  have cN := fun x b c1 => markImage_any rW rH x b rN c1 s 1 (by omega) (by omega) hrn
  have cH := fun x b c1 => heldImage_any rW rH x b rN c1 1 (by omega) (by omega) hrn
  have q0 : ¬ 1 + (rN : Int) < 0 := by omega
  have q1 : (1 + (rN : Int) != 1 + (rN : Int)) = false := by simp
  have cM0 := fun b b' => markImage_any W0 H0 (some ⟨b, 0, none⟩) b' n0 n0 f0 (1) (by omega) (by omega) hL0
  have cM1 := fun b b' => markImage_any W1 H1 (some ⟨b, 0, none⟩) b' n1 n1 f1 (1 + (n0 : Int)) (by omega) (by omega) hL1
  have q2 : ¬ 1 + (n0 : Int) + (n1 : Int) < 0 := by omega
  clear hN
  go_enter Try.func4, Try.ntmps4
  go_wp2_with fail
  refine (hz0 _).mono ?_
  rintro e wz0 ⟨rfl, hb⟩
  have HS1 := hide (HS0.out.next hb)
  clear hb HS0
  obtain ⟨i0, i1, i2⟩ := HS1.out.im3 0 rfl
  go_wp2_with fail
  refine (hz1 _).mono ?_
  rintro e wz1 ⟨rfl, hb⟩
  have HS2 := hide (HS1.out.next hb)
  clear hb HS1
  clear i0 i1 i2
  clear hz0 hz1
  have SD := HS2.out.drew
  have SZ := (HS2.out.box [.int .i64 0, .int .i64 0, .slice none 0 0] 26).drew
  have SY := HS2.out.drew.box [.int .i64 0, .int .i64 0, .slice none 0 0] 26
  have SDs := hide (And.intro (SD.im3 1 rfl).1 (And.intro (SD.im3 1 rfl).2.1 (And.intro (SD.im3 1 rfl).2.2 (And.intro (SD.im3 0 rfl).1 (And.intro (SD.im3 0 rfl).2.1 (SD.im3 0 rfl).2.2)))))
  have SZs := hide (And.intro (SZ.im3 2 rfl).1 (And.intro (SZ.im3 2 rfl).2.1 (And.intro (SZ.im3 2 rfl).2.2 (And.intro (SZ.im3 1 rfl).1 (And.intro (SZ.im3 1 rfl).2.1 (SZ.im3 1 rfl).2.2)))))
  have SYs := hide (And.intro (SY.im3 2 rfl).1 (And.intro (SY.im3 2 rfl).2.1 (And.intro (SY.im3 2 rfl).2.2 (And.intro (SY.im3 1 rfl).1 (And.intro (SY.im3 1 rfl).2.1 (SY.im3 1 rfl).2.2)))))
  obtain ⟨cf00, cf01, cf02⟩ := HS2.out.im3 1 rfl
  obtain ⟨cf10, cf11, cf12⟩ := HS2.out.im3 0 rfl
  go_upto_region 8 with fail
  go_cut [6] (fun sl wc => ∃ c x y t, sl = .pointer (some ⟨c, 0, none⟩) ∧ St w [(c, [.int .i64 rW, .int .i64 rH, .slice x rN y]), (w.heap.size + 1, [.int .i64 W1, .int .i64 H1, .slice a1 n1 cap1]), (w.heap.size, [.int .i64 W0, .int .i64 H0, .slice a0 n0 cap0])] [(x, t, rN, (fun k => .int .i64 (s k)))] wc)
  case first =>
    go_region_held (fun w' => w'.cell? ⟨w.heap.size, 0, none⟩ = some (.int .i64 W0) ∧ w'.cell? ⟨w.heap.size, 1, none⟩ = some (.int .i64 H0) ∧ w'.cell? ⟨w.heap.size, 2, none⟩ = some (.slice a0 n0 cap0) ∧ w'.cell? ⟨w.heap.size + 1, 0, none⟩ = some (.int .i64 W1) ∧ w'.cell? ⟨w.heap.size + 1, 1, none⟩ = some (.int .i64 H1) ∧ w'.cell? ⟨w.heap.size + 1, 2, none⟩ = some (.slice a1 n1 cap1))
      ((first | (with_reducible exact SDs.out) | (with_reducible exact SZs.out) | (with_reducible exact SYs.out) | (with_reducible exact S0s.out) | (with_reducible exact S0z.out) | (with_reducible exact S1s.out) | (with_reducible exact S1z.out) | (with_reducible exact SCs.out) | (with_reducible exact SCz.out) | (with_reducible exact SCb.out) | (with_reducible exact SCf.out)))
      (first
        | (go_at_call 11; (with_reducible refine (cT0 _ (HP0.out.below (by first | exact SD.below | exact SZ.below | exact SY.below))).mono ?_); rintro e wA0 ⟨bb0, rfl, hg0, -, hr0, hb0⟩; (first | (with_reducible have S0 := SD.own hb0 hr0.v (.inr hg0)) | (with_reducible have S0 := SZ.own hb0 hr0.v (.inr hg0)) | (with_reducible have S0 := SY.own hb0 hr0.v (.inr hg0))); clear hb0 hr0 hg0; (first | have S0s := hide (And.intro (S0.im3 2 rfl).1 (And.intro (S0.im3 2 rfl).2.1 (And.intro (S0.im3 2 rfl).2.2 (And.intro (S0.im3 1 rfl).1 (And.intro (S0.im3 1 rfl).2.1 (S0.im3 1 rfl).2.2))))) | have S0s := hide (And.intro (S0.im3 1 rfl).1 (And.intro (S0.im3 1 rfl).2.1 (And.intro (S0.im3 1 rfl).2.2 (And.intro (S0.im3 0 rfl).1 (And.intro (S0.im3 0 rfl).2.1 (S0.im3 0 rfl).2.2)))))); (first | have S0z := hide (And.intro ((S0.box [.int .i64 0, .int .i64 0, .slice none 0 0] 26).im3 3 rfl).1 (And.intro ((S0.box [.int .i64 0, .int .i64 0, .slice none 0 0] 26).im3 3 rfl).2.1 (And.intro ((S0.box [.int .i64 0, .int .i64 0, .slice none 0 0] 26).im3 3 rfl).2.2 (And.intro ((S0.box [.int .i64 0, .int .i64 0, .slice none 0 0] 26).im3 2 rfl).1 (And.intro ((S0.box [.int .i64 0, .int .i64 0, .slice none 0 0] 26).im3 2 rfl).2.1 ((S0.box [.int .i64 0, .int .i64 0, .slice none 0 0] 26).im3 2 rfl).2.2))))) | have S0z := hide (And.intro ((S0.box [.int .i64 0, .int .i64 0, .slice none 0 0] 26).im3 2 rfl).1 (And.intro ((S0.box [.int .i64 0, .int .i64 0, .slice none 0 0] 26).im3 2 rfl).2.1 (And.intro ((S0.box [.int .i64 0, .int .i64 0, .slice none 0 0] 26).im3 2 rfl).2.2 (And.intro ((S0.box [.int .i64 0, .int .i64 0, .slice none 0 0] 26).im3 1 rfl).1 (And.intro ((S0.box [.int .i64 0, .int .i64 0, .slice none 0 0] 26).im3 1 rfl).2.1 ((S0.box [.int .i64 0, .int .i64 0, .slice none 0 0] 26).im3 1 rfl).2.2)))))))
        | (go_at_call 11; (with_reducible refine (cT1 _ (HP1.out.below (by first | exact S0.below | exact (S0.box [.int .i64 0, .int .i64 0, .slice none 0 0] 26).below))).mono ?_); rintro e wA1 ⟨bb1, rfl, hg1, -, hr1, hb1⟩; (first | (with_reducible have S1 := S0.own hb1 hr1.v (.inr hg1)) | (with_reducible have S1 := (S0.box [.int .i64 0, .int .i64 0, .slice none 0 0] 26).own hb1 hr1.v (.inr hg1))); clear hb1 hr1 hg1; (first | have S1s := hide (And.intro (S1.im3 2 rfl).1 (And.intro (S1.im3 2 rfl).2.1 (And.intro (S1.im3 2 rfl).2.2 (And.intro (S1.im3 1 rfl).1 (And.intro (S1.im3 1 rfl).2.1 (S1.im3 1 rfl).2.2))))) | have S1s := hide (And.intro (S1.im3 1 rfl).1 (And.intro (S1.im3 1 rfl).2.1 (And.intro (S1.im3 1 rfl).2.2 (And.intro (S1.im3 0 rfl).1 (And.intro (S1.im3 0 rfl).2.1 (S1.im3 0 rfl).2.2)))))); (first | have S1z := hide (And.intro ((S1.box [.int .i64 0, .int .i64 0, .slice none 0 0] 26).im3 3 rfl).1 (And.intro ((S1.box [.int .i64 0, .int .i64 0, .slice none 0 0] 26).im3 3 rfl).2.1 (And.intro ((S1.box [.int .i64 0, .int .i64 0, .slice none 0 0] 26).im3 3 rfl).2.2 (And.intro ((S1.box [.int .i64 0, .int .i64 0, .slice none 0 0] 26).im3 2 rfl).1 (And.intro ((S1.box [.int .i64 0, .int .i64 0, .slice none 0 0] 26).im3 2 rfl).2.1 ((S1.box [.int .i64 0, .int .i64 0, .slice none 0 0] 26).im3 2 rfl).2.2))))) | have S1z := hide (And.intro ((S1.box [.int .i64 0, .int .i64 0, .slice none 0 0] 26).im3 2 rfl).1 (And.intro ((S1.box [.int .i64 0, .int .i64 0, .slice none 0 0] 26).im3 2 rfl).2.1 (And.intro ((S1.box [.int .i64 0, .int .i64 0, .slice none 0 0] 26).im3 2 rfl).2.2 (And.intro ((S1.box [.int .i64 0, .int .i64 0, .slice none 0 0] 26).im3 1 rfl).1 (And.intro ((S1.box [.int .i64 0, .int .i64 0, .slice none 0 0] 26).im3 1 rfl).2.1 ((S1.box [.int .i64 0, .int .i64 0, .slice none 0 0] 26).im3 1 rfl).2.2)))))))
        | (go_at_call 7; (with_reducible refine (cS _ _ _ (by first | exact (S1.nthO 1 rfl).px | exact ((S1.box [.int .i64 0, .int .i64 0, .slice none 0 0] 26).nthO 1 rfl).px) (by first | exact (S1.nthO 0 rfl).px | exact ((S1.box [.int .i64 0, .int .i64 0, .slice none 0 0] 26).nthO 0 rfl).px)).mono ?_); rintro e wC ⟨p0, pc0, pb0, rfl, hoC, hC1, hbC⟩; (first | (with_reducible have SC := S1.own hbC hoC.v hC1) | (with_reducible have SC := (S1.box [.int .i64 0, .int .i64 0, .slice none 0 0] 26).own hbC hoC.v hC1)); clear hbC hoC hC1; (first | have SCs := hide (And.intro (SC.im3 2 rfl).1 (And.intro (SC.im3 2 rfl).2.1 (And.intro (SC.im3 2 rfl).2.2 (And.intro (SC.im3 1 rfl).1 (And.intro (SC.im3 1 rfl).2.1 (SC.im3 1 rfl).2.2))))) | have SCs := hide (And.intro (SC.im3 1 rfl).1 (And.intro (SC.im3 1 rfl).2.1 (And.intro (SC.im3 1 rfl).2.2 (And.intro (SC.im3 0 rfl).1 (And.intro (SC.im3 0 rfl).2.1 (SC.im3 0 rfl).2.2)))))); (first | have SCz := hide (And.intro ((SC.box [.int .i64 0, .int .i64 0, .slice none 0 0] 26).im3 3 rfl).1 (And.intro ((SC.box [.int .i64 0, .int .i64 0, .slice none 0 0] 26).im3 3 rfl).2.1 (And.intro ((SC.box [.int .i64 0, .int .i64 0, .slice none 0 0] 26).im3 3 rfl).2.2 (And.intro ((SC.box [.int .i64 0, .int .i64 0, .slice none 0 0] 26).im3 2 rfl).1 (And.intro ((SC.box [.int .i64 0, .int .i64 0, .slice none 0 0] 26).im3 2 rfl).2.1 ((SC.box [.int .i64 0, .int .i64 0, .slice none 0 0] 26).im3 2 rfl).2.2))))) | have SCz := hide (And.intro ((SC.box [.int .i64 0, .int .i64 0, .slice none 0 0] 26).im3 2 rfl).1 (And.intro ((SC.box [.int .i64 0, .int .i64 0, .slice none 0 0] 26).im3 2 rfl).2.1 (And.intro ((SC.box [.int .i64 0, .int .i64 0, .slice none 0 0] 26).im3 2 rfl).2.2 (And.intro ((SC.box [.int .i64 0, .int .i64 0, .slice none 0 0] 26).im3 1 rfl).1 (And.intro ((SC.box [.int .i64 0, .int .i64 0, .slice none 0 0] 26).im3 1 rfl).2.1 ((SC.box [.int .i64 0, .int .i64 0, .slice none 0 0] 26).im3 1 rfl).2.2)))))); (first | have SCb := hide (And.intro ((SC.box [.int .i64 rW, .int .i64 rH, .slice p0 rN pc0] 26).im3 3 rfl).1 (And.intro ((SC.box [.int .i64 rW, .int .i64 rH, .slice p0 rN pc0] 26).im3 3 rfl).2.1 (And.intro ((SC.box [.int .i64 rW, .int .i64 rH, .slice p0 rN pc0] 26).im3 3 rfl).2.2 (And.intro ((SC.box [.int .i64 rW, .int .i64 rH, .slice p0 rN pc0] 26).im3 2 rfl).1 (And.intro ((SC.box [.int .i64 rW, .int .i64 rH, .slice p0 rN pc0] 26).im3 2 rfl).2.1 ((SC.box [.int .i64 rW, .int .i64 rH, .slice p0 rN pc0] 26).im3 2 rfl).2.2))))) | have SCb := hide (And.intro ((SC.box [.int .i64 rW, .int .i64 rH, .slice p0 rN pc0] 26).im3 2 rfl).1 (And.intro ((SC.box [.int .i64 rW, .int .i64 rH, .slice p0 rN pc0] 26).im3 2 rfl).2.1 (And.intro ((SC.box [.int .i64 rW, .int .i64 rH, .slice p0 rN pc0] 26).im3 2 rfl).2.2 (And.intro ((SC.box [.int .i64 rW, .int .i64 rH, .slice p0 rN pc0] 26).im3 1 rfl).1 (And.intro ((SC.box [.int .i64 rW, .int .i64 rH, .slice p0 rN pc0] 26).im3 1 rfl).2.1 ((SC.box [.int .i64 rW, .int .i64 rH, .slice p0 rN pc0] 26).im3 1 rfl).2.2)))))); (try have SCf := hide (And.intro ((SC.fill3 (.int .i64 rW) (.int .i64 rH) (.slice p0 rN pc0)).im3 2 rfl).1 (And.intro ((SC.fill3 (.int .i64 rW) (.int .i64 rH) (.slice p0 rN pc0)).im3 2 rfl).2.1 (And.intro ((SC.fill3 (.int .i64 rW) (.int .i64 rH) (.slice p0 rN pc0)).im3 2 rfl).2.2 (And.intro ((SC.fill3 (.int .i64 rW) (.int .i64 rH) (.slice p0 rN pc0)).im3 1 rfl).1 (And.intro ((SC.fill3 (.int .i64 rW) (.int .i64 rH) (.slice p0 rN pc0)).im3 1 rfl).2.1 ((SC.fill3 (.int .i64 rW) (.int .i64 rH) (.slice p0 rN pc0)).im3 1 rfl).2.2)))))); obtain ⟨z0, z1, z2⟩ := SC.im3 0 rfl; obtain ⟨e0, e1, e2⟩ := SC.fr3 0 rfl))
    all_goals
      clear SDs SZs SYs SD SZ SY S0s S0z S0 S1s S1z S1 SCs SCz SCb
      go_wp2_with fail
      go_meet
      refine ⟨_, p0, pc0, pb0, rfl, ?_⟩
      first | with_reducible exact (SC.box [.int .i64 rW, .int .i64 rH, .slice p0 rN pc0] 26).dr2 | with_reducible exact (SC.fill3 (.int .i64 rW) (.int .i64 rH) (.slice p0 rN pc0)).dr2 | with_reducible exact (SC.box [.int .i64 rW, .int .i64 rH, .slice p0 rN pc0] 26).drew.dr2 | with_reducible exact (SC.fill3 (.int .i64 rW) (.int .i64 rH) (.slice p0 rN pc0)).drew.dr2
  case rest =>
    obtain ⟨c12, p0, pc0, pb0, rfl, HS11'⟩ := hcut
    have HS11 := hide HS11'
    clear SDs SZs SYs SD SZ SY HS11' HS2 cf00 cf01 cf02 cf10 cf11 cf12
    clear cS
    obtain ⟨i0, i1, i2⟩ := HS11.out.im3 2 rfl
    go_wp2_with fail
    refine (cT0 _ (HP0.out.below HS11.out.below)).mono ?_
    rintro e w13 ⟨x0, rfl, hg, -, hr, hb⟩
    have HS15 := hide ((HS11.out.own hb hr.v (.inr hg)).box [.int .i64 W0, .int .i64 H0, .slice (some ⟨x0, 0, none⟩) n0 n0] 26)
    generalize hxw14 : w13.alloc (.cells [.int .i64 W0, .int .i64 H0, .slice (some ⟨x0, 0, none⟩) n0 n0].toArray 26) = w14 at HS15
    have hyw14 : w13.alloc (.cells #[.int .i64 W0, .int .i64 H0, .slice (some ⟨x0, 0, none⟩) n0 n0] 26) = w14 := hxw14
    clear hxw14
    clear HS11 hb hr hg i0 i1 i2 
    obtain ⟨i0, i1, i2⟩ := HS15.out.im3 2 rfl
    go_wp2_with fail
    refine (cT1 _ (HP1.out.below HS15.out.below)).mono ?_
    rintro e w16 ⟨x1, rfl, hg, -, hr, hb⟩
    have HS18 := hide ((HS15.out.own hb hr.v (.inr hg)).box [.int .i64 W1, .int .i64 H1, .slice (some ⟨x1, 0, none⟩) n1 n1] 26)
    generalize hxw17 : w16.alloc (.cells [.int .i64 W1, .int .i64 H1, .slice (some ⟨x1, 0, none⟩) n1 n1].toArray 26) = w17 at HS18
    have hyw17 : w16.alloc (.cells #[.int .i64 W1, .int .i64 H1, .slice (some ⟨x1, 0, none⟩) n1 n1] 26) = w17 := hxw17
    clear hxw17
    clear HS15 hb hr hg i0 i1 i2 hyw14
    obtain ⟨cf00, cf01, cf02⟩ := HS18.out.im3 1 rfl
    have pp0 := (HS18.out.nthO 1 rfl).px
    obtain ⟨cf10, cf11, cf12⟩ := HS18.out.im3 0 rfl
    have pp1 := (HS18.out.nthO 0 rfl).px
    go_wp2_with fail
    refine (cI _ _ _ pp0 pp1).mono ?_
    rintro e w19 ⟨g0, gc0, gb0, rfl, ho, h1, hb⟩
    have HS21 := hide ((HS18.out.own hb ho.v h1).box [.int .i64 rW, .int .i64 rH, .slice g0 rN gc0] 26)
    generalize hxw20 : w19.alloc (.cells [.int .i64 rW, .int .i64 rH, .slice g0 rN gc0].toArray 26) = w20 at HS21
    have hyw20 : w19.alloc (.cells #[.int .i64 rW, .int .i64 rH, .slice g0 rN gc0] 26) = w20 := hxw20
    clear hxw20
    clear HS18 hb ho h1 hyw17 cf00 cf01 cf02 pp0 cf10 cf11 cf12 pp1
    obtain ⟨i0, i1, i2⟩ := HS21.out.im3 0 rfl
    obtain ⟨j0, j1, j2⟩ := HS21.out.im3 3 rfl
    have pA := (HS21.out.nthO 0 rfl).px
    have pB := (HS21.out.nthO 3 rfl).px
    go_wp2_with fail
    refine (cE _ _ _ _ _ pA pB).mono ?_
    rintro e w22 ⟨rfl, hb⟩
    have HS23 := hide (HS21.out.next hb)
    clear HS21 hb i0 i1 i2 j0 j1 j2 pA pB hyw20
    have HD24 := hide HS23.out.drew
    obtain ⟨i0, i1, i2⟩ := HS23.out.im3 2 rfl
    obtain ⟨j0, j1, j2⟩ := HS23.out.im3 5 rfl
    go_upto_region 14 with fail
    go_cut [44] (fun sl wd => sl = .bool false ∧ St w [(w19.heap.size, [.int .i64 rW, .int .i64 rH, .slice g0 rN gc0]), (w16.heap.size, [.int .i64 W1, .int .i64 H1, .slice (some ⟨x1, 0, none⟩) n1 n1]), (w13.heap.size, [.int .i64 W0, .int .i64 H0, .slice (some ⟨x0, 0, none⟩) n0 n0]), (c12, [.int .i64 rW, .int .i64 rH, .slice p0 rN pc0]), (w.heap.size + 1, [.int .i64 W1, .int .i64 H1, .slice a1 n1 cap1]), (w.heap.size, [.int .i64 W0, .int .i64 H0, .slice a0 n0 cap0])] [(g0, gb0, rN, (fun k => .int .i64 (s k))), (some ⟨x1, 0, none⟩, x1, n1, (fun k => .int .i64 (f1 k))), (some ⟨x0, 0, none⟩, x0, n0, (fun k => .int .i64 (f0 k))), (p0, pb0, rN, (fun k => .int .i64 (s k)))] wd)
    case first =>
      go_region_with (first
        | (go_at_call 11; (with_reducible refine (cT0 _ (HP0.out.below HD24.out.below)).mono ?_); rintro e wP ⟨bP, rfl, -, -, hr, hb⟩; have HQ := hide (HD24.out.next hb); obtain ⟨k0, k1, k2⟩ := HQ.out.im3 2 rfl)
        | (go_at_call 12; (with_reducible refine (cA0 _ _ _ (HQ.out.nthO 2 rfl).px hr.px).mono ?_); rintro e wQ ⟨rfl, hbQ⟩))
      all_goals
        have HQ2 := hide (HQ.out.next hbQ)
        clear hr hb hbQ HQ k0 k1 k2 i0 i1 i2 j0 j1 j2 HD24 HS23
        go_wp2_with fail
        go_meet
        exact ⟨rfl, HQ2.out⟩
    case rest =>
      obtain ⟨rfl, HS25'⟩ := hcut
      have HS25 := hide HS25'
      clear HD24 HS23 i0 i1 i2 j0 j1 j2 HS25'
      have HD26 := hide HS25.out.drew
      obtain ⟨i0, i1, i2⟩ := HS25.out.im3 1 rfl
      obtain ⟨j0, j1, j2⟩ := HS25.out.im3 4 rfl
      go_upto_region 16 with fail
      go_cut [49] (fun sl wd => sl = .bool false ∧ St w [(w19.heap.size, [.int .i64 rW, .int .i64 rH, .slice g0 rN gc0]), (w16.heap.size, [.int .i64 W1, .int .i64 H1, .slice (some ⟨x1, 0, none⟩) n1 n1]), (w13.heap.size, [.int .i64 W0, .int .i64 H0, .slice (some ⟨x0, 0, none⟩) n0 n0]), (c12, [.int .i64 rW, .int .i64 rH, .slice p0 rN pc0]), (w.heap.size + 1, [.int .i64 W1, .int .i64 H1, .slice a1 n1 cap1]), (w.heap.size, [.int .i64 W0, .int .i64 H0, .slice a0 n0 cap0])] [(g0, gb0, rN, (fun k => .int .i64 (s k))), (some ⟨x1, 0, none⟩, x1, n1, (fun k => .int .i64 (f1 k))), (some ⟨x0, 0, none⟩, x0, n0, (fun k => .int .i64 (f0 k))), (p0, pb0, rN, (fun k => .int .i64 (s k)))] wd)
      case first =>
        go_region_with (first
          | (go_at_call 11; (with_reducible refine (cT1 _ (HP1.out.below HD26.out.below)).mono ?_); rintro e wP ⟨bP, rfl, -, -, hr, hb⟩; have HQ := hide (HD26.out.next hb); obtain ⟨k0, k1, k2⟩ := HQ.out.im3 1 rfl)
          | (go_at_call 12; (with_reducible refine (cA1 _ _ _ (HQ.out.nthO 1 rfl).px hr.px).mono ?_); rintro e wQ ⟨rfl, hbQ⟩))
        all_goals
          have HQ2 := hide (HQ.out.next hbQ)
          clear hr hb hbQ HQ k0 k1 k2 i0 i1 i2 j0 j1 j2 HD26 HS25
          go_wp2_with fail
          go_meet
          exact ⟨rfl, HQ2.out⟩
      case rest =>
        obtain ⟨rfl, HS27'⟩ := hcut
        have HS27 := hide HS27'
        clear HD26 HS25 i0 i1 i2 j0 j1 j2 HS27'
        obtain ⟨i0, i1, i2⟩ := HS27.out.im3 2 rfl
        go_wp2_with fail
        refine (cM0 _ _ _ (HS27.out.nthO 2 rfl).bk.i).mono ?_
        rintro e w28 ⟨rfl, ho, hk⟩
        have HS29 : Hid (St w [(w19.heap.size, [.int .i64 rW, .int .i64 rH, .slice g0 rN gc0]), (w16.heap.size, [.int .i64 W1, .int .i64 H1, .slice (some ⟨x1, 0, none⟩) n1 n1]), (w13.heap.size, [.int .i64 W0, .int .i64 H0, .slice (some ⟨x0, 0, none⟩) n0 n0]), (c12, [.int .i64 rW, .int .i64 rH, .slice p0 rN pc0]), (w.heap.size + 1, [.int .i64 W1, .int .i64 H1, .slice a1 n1 cap1]), (w.heap.size, [.int .i64 W0, .int .i64 H0, .slice a0 n0 cap0])] [(g0, gb0, rN, (fun k => .int .i64 (s k))), (some ⟨x1, 0, none⟩, x1, n1, (fun k => .int .i64 (f1 k))), (some ⟨x0, 0, none⟩, x0, n0, (fun k => .int .i64 (1 + (k : Int)))), (p0, pb0, rN, (fun k => .int .i64 (s k)))] w28) := HS27.out.mark (O1 := [_, _]) hk ho.v
        clear HS27 ho hk i0 i1 i2 cM0
        obtain ⟨i0, i1, i2⟩ := HS29.out.im3 1 rfl
        go_wp2_with fail
        refine (cM1 _ _ _ (HS29.out.nthO 1 rfl).bk.i).mono ?_
        rintro e w30 ⟨rfl, ho, hk⟩
        have HS31 : Hid (St w [(w19.heap.size, [.int .i64 rW, .int .i64 rH, .slice g0 rN gc0]), (w16.heap.size, [.int .i64 W1, .int .i64 H1, .slice (some ⟨x1, 0, none⟩) n1 n1]), (w13.heap.size, [.int .i64 W0, .int .i64 H0, .slice (some ⟨x0, 0, none⟩) n0 n0]), (c12, [.int .i64 rW, .int .i64 rH, .slice p0 rN pc0]), (w.heap.size + 1, [.int .i64 W1, .int .i64 H1, .slice a1 n1 cap1]), (w.heap.size, [.int .i64 W0, .int .i64 H0, .slice a0 n0 cap0])] [(g0, gb0, rN, (fun k => .int .i64 (s k))), (some ⟨x1, 0, none⟩, x1, n1, (fun k => .int .i64 (1 + (n0 : Int) + (k : Int)))), (some ⟨x0, 0, none⟩, x0, n0, (fun k => .int .i64 (1 + (k : Int)))), (p0, pb0, rN, (fun k => .int .i64 (s k)))] w30) := HS29.out.mark (O1 := [_]) hk ho.v
        clear HS29 ho hk i0 i1 i2 cM1
        obtain ⟨i0, i1, i2⟩ := HS31.out.im3 0 rfl
        obtain ⟨j0, j1, j2⟩ := HS31.out.im3 3 rfl
        have pA := (HS31.out.nthO 0 rfl).px
        have pB := (HS31.out.nthO 3 rfl).px
        go_wp2_with fail
        refine (cE _ _ _ _ _ pA pB).mono ?_
        rintro e w32 ⟨rfl, hb⟩
        have HS33 := hide (HS31.out.next hb)
        clear HS31 hb i0 i1 i2 j0 j1 j2 pA pB 
        obtain ⟨i0, i1, i2⟩ := HS33.out.im3 0 rfl
        go_wp2_with fail
        refine (cN _ _ _ _ (HS33.out.nthO 0 rfl).bk.i).mono ?_
        rintro e w34 ⟨rfl, ho, hk⟩
        have HS35 : Hid (St w [(w19.heap.size, [.int .i64 rW, .int .i64 rH, .slice g0 rN gc0]), (w16.heap.size, [.int .i64 W1, .int .i64 H1, .slice (some ⟨x1, 0, none⟩) n1 n1]), (w13.heap.size, [.int .i64 W0, .int .i64 H0, .slice (some ⟨x0, 0, none⟩) n0 n0]), (c12, [.int .i64 rW, .int .i64 rH, .slice p0 rN pc0]), (w.heap.size + 1, [.int .i64 W1, .int .i64 H1, .slice a1 n1 cap1]), (w.heap.size, [.int .i64 W0, .int .i64 H0, .slice a0 n0 cap0])] [(g0, gb0, rN, (fun k => .int .i64 (1 + (k : Int)))), (some ⟨x1, 0, none⟩, x1, n1, (fun k => .int .i64 (1 + (n0 : Int) + (k : Int)))), (some ⟨x0, 0, none⟩, x0, n0, (fun k => .int .i64 (1 + (k : Int)))), (p0, pb0, rN, (fun k => .int .i64 (s k)))] w34) := HS33.out.mark (O1 := []) hk ho.v
        clear HS33 ho hk i0 i1 i2
        obtain ⟨i0, i1, i2⟩ := HS35.out.im3 0 rfl
        go_wp2_with fail
        refine (cH _ _ _ _ (HS35.out.nthO 0 rfl).i).mono ?_
        rintro e w36 ⟨rfl, hb⟩
        have HS37 := hide (HS35.out.next hb)
        clear HS35 hb i0 i1 i2
        have SD := HS37.out.drew
        have SZ := (HS37.out.box [.int .i64 0, .int .i64 0, .slice none 0 0] 26).drew
        have SY := HS37.out.drew.box [.int .i64 0, .int .i64 0, .slice none 0 0] 26
        have SDs := hide (And.intro (SD.im3 5 rfl).1 (And.intro (SD.im3 5 rfl).2.1 (And.intro (SD.im3 5 rfl).2.2 (And.intro (SD.im3 4 rfl).1 (And.intro (SD.im3 4 rfl).2.1 (SD.im3 4 rfl).2.2)))))
        have SZs := hide (And.intro (SZ.im3 6 rfl).1 (And.intro (SZ.im3 6 rfl).2.1 (And.intro (SZ.im3 6 rfl).2.2 (And.intro (SZ.im3 5 rfl).1 (And.intro (SZ.im3 5 rfl).2.1 (SZ.im3 5 rfl).2.2)))))
        have SYs := hide (And.intro (SY.im3 6 rfl).1 (And.intro (SY.im3 6 rfl).2.1 (And.intro (SY.im3 6 rfl).2.2 (And.intro (SY.im3 5 rfl).1 (And.intro (SY.im3 5 rfl).2.1 (SY.im3 5 rfl).2.2)))))
        obtain ⟨cf00, cf01, cf02⟩ := HS37.out.im3 5 rfl
        obtain ⟨cf10, cf11, cf12⟩ := HS37.out.im3 4 rfl
        go_upto_region 31 with fail
        go_cut [13] (fun sl wc => ∃ c x y t, sl = .pointer (some ⟨c, 0, none⟩) ∧ St w [(c, [.int .i64 rW, .int .i64 rH, .slice x rN y]), (w19.heap.size, [.int .i64 rW, .int .i64 rH, .slice g0 rN gc0]), (w16.heap.size, [.int .i64 W1, .int .i64 H1, .slice (some ⟨x1, 0, none⟩) n1 n1]), (w13.heap.size, [.int .i64 W0, .int .i64 H0, .slice (some ⟨x0, 0, none⟩) n0 n0]), (c12, [.int .i64 rW, .int .i64 rH, .slice p0 rN pc0]), (w.heap.size + 1, [.int .i64 W1, .int .i64 H1, .slice a1 n1 cap1]), (w.heap.size, [.int .i64 W0, .int .i64 H0, .slice a0 n0 cap0])] [(x, t, rN, (fun k => .int .i64 (s k))), (g0, gb0, rN, (fun k => .int .i64 (1 + (k : Int)))), (some ⟨x1, 0, none⟩, x1, n1, (fun k => .int .i64 (1 + (n0 : Int) + (k : Int)))), (some ⟨x0, 0, none⟩, x0, n0, (fun k => .int .i64 (1 + (k : Int)))), (p0, pb0, rN, (fun k => .int .i64 (s k)))] wc)
        case first =>
          go_region_held (fun w' => w'.cell? ⟨w.heap.size, 0, none⟩ = some (.int .i64 W0) ∧ w'.cell? ⟨w.heap.size, 1, none⟩ = some (.int .i64 H0) ∧ w'.cell? ⟨w.heap.size, 2, none⟩ = some (.slice a0 n0 cap0) ∧ w'.cell? ⟨w.heap.size + 1, 0, none⟩ = some (.int .i64 W1) ∧ w'.cell? ⟨w.heap.size + 1, 1, none⟩ = some (.int .i64 H1) ∧ w'.cell? ⟨w.heap.size + 1, 2, none⟩ = some (.slice a1 n1 cap1))
            ((first | (with_reducible exact SDs.out) | (with_reducible exact SZs.out) | (with_reducible exact SYs.out) | (with_reducible exact S0s.out) | (with_reducible exact S0z.out) | (with_reducible exact S1s.out) | (with_reducible exact S1z.out) | (with_reducible exact SCs.out) | (with_reducible exact SCz.out) | (with_reducible exact SCb.out) | (with_reducible exact SCf.out)))
            (first
              | (go_at_call 11; (with_reducible refine (cT0 _ (HP0.out.below (by first | exact SD.below | exact SZ.below | exact SY.below))).mono ?_); rintro e wA0 ⟨bb0, rfl, hg0, -, hr0, hb0⟩; (first | (with_reducible have S0 := SD.own hb0 hr0.v (.inr hg0)) | (with_reducible have S0 := SZ.own hb0 hr0.v (.inr hg0)) | (with_reducible have S0 := SY.own hb0 hr0.v (.inr hg0))); clear hb0 hr0 hg0; (first | have S0s := hide (And.intro (S0.im3 6 rfl).1 (And.intro (S0.im3 6 rfl).2.1 (And.intro (S0.im3 6 rfl).2.2 (And.intro (S0.im3 5 rfl).1 (And.intro (S0.im3 5 rfl).2.1 (S0.im3 5 rfl).2.2))))) | have S0s := hide (And.intro (S0.im3 5 rfl).1 (And.intro (S0.im3 5 rfl).2.1 (And.intro (S0.im3 5 rfl).2.2 (And.intro (S0.im3 4 rfl).1 (And.intro (S0.im3 4 rfl).2.1 (S0.im3 4 rfl).2.2)))))); (first | have S0z := hide (And.intro ((S0.box [.int .i64 0, .int .i64 0, .slice none 0 0] 26).im3 7 rfl).1 (And.intro ((S0.box [.int .i64 0, .int .i64 0, .slice none 0 0] 26).im3 7 rfl).2.1 (And.intro ((S0.box [.int .i64 0, .int .i64 0, .slice none 0 0] 26).im3 7 rfl).2.2 (And.intro ((S0.box [.int .i64 0, .int .i64 0, .slice none 0 0] 26).im3 6 rfl).1 (And.intro ((S0.box [.int .i64 0, .int .i64 0, .slice none 0 0] 26).im3 6 rfl).2.1 ((S0.box [.int .i64 0, .int .i64 0, .slice none 0 0] 26).im3 6 rfl).2.2))))) | have S0z := hide (And.intro ((S0.box [.int .i64 0, .int .i64 0, .slice none 0 0] 26).im3 6 rfl).1 (And.intro ((S0.box [.int .i64 0, .int .i64 0, .slice none 0 0] 26).im3 6 rfl).2.1 (And.intro ((S0.box [.int .i64 0, .int .i64 0, .slice none 0 0] 26).im3 6 rfl).2.2 (And.intro ((S0.box [.int .i64 0, .int .i64 0, .slice none 0 0] 26).im3 5 rfl).1 (And.intro ((S0.box [.int .i64 0, .int .i64 0, .slice none 0 0] 26).im3 5 rfl).2.1 ((S0.box [.int .i64 0, .int .i64 0, .slice none 0 0] 26).im3 5 rfl).2.2)))))))
              | (go_at_call 11; (with_reducible refine (cT1 _ (HP1.out.below (by first | exact S0.below | exact (S0.box [.int .i64 0, .int .i64 0, .slice none 0 0] 26).below))).mono ?_); rintro e wA1 ⟨bb1, rfl, hg1, -, hr1, hb1⟩; (first | (with_reducible have S1 := S0.own hb1 hr1.v (.inr hg1)) | (with_reducible have S1 := (S0.box [.int .i64 0, .int .i64 0, .slice none 0 0] 26).own hb1 hr1.v (.inr hg1))); clear hb1 hr1 hg1; (first | have S1s := hide (And.intro (S1.im3 6 rfl).1 (And.intro (S1.im3 6 rfl).2.1 (And.intro (S1.im3 6 rfl).2.2 (And.intro (S1.im3 5 rfl).1 (And.intro (S1.im3 5 rfl).2.1 (S1.im3 5 rfl).2.2))))) | have S1s := hide (And.intro (S1.im3 5 rfl).1 (And.intro (S1.im3 5 rfl).2.1 (And.intro (S1.im3 5 rfl).2.2 (And.intro (S1.im3 4 rfl).1 (And.intro (S1.im3 4 rfl).2.1 (S1.im3 4 rfl).2.2)))))); (first | have S1z := hide (And.intro ((S1.box [.int .i64 0, .int .i64 0, .slice none 0 0] 26).im3 7 rfl).1 (And.intro ((S1.box [.int .i64 0, .int .i64 0, .slice none 0 0] 26).im3 7 rfl).2.1 (And.intro ((S1.box [.int .i64 0, .int .i64 0, .slice none 0 0] 26).im3 7 rfl).2.2 (And.intro ((S1.box [.int .i64 0, .int .i64 0, .slice none 0 0] 26).im3 6 rfl).1 (And.intro ((S1.box [.int .i64 0, .int .i64 0, .slice none 0 0] 26).im3 6 rfl).2.1 ((S1.box [.int .i64 0, .int .i64 0, .slice none 0 0] 26).im3 6 rfl).2.2))))) | have S1z := hide (And.intro ((S1.box [.int .i64 0, .int .i64 0, .slice none 0 0] 26).im3 6 rfl).1 (And.intro ((S1.box [.int .i64 0, .int .i64 0, .slice none 0 0] 26).im3 6 rfl).2.1 (And.intro ((S1.box [.int .i64 0, .int .i64 0, .slice none 0 0] 26).im3 6 rfl).2.2 (And.intro ((S1.box [.int .i64 0, .int .i64 0, .slice none 0 0] 26).im3 5 rfl).1 (And.intro ((S1.box [.int .i64 0, .int .i64 0, .slice none 0 0] 26).im3 5 rfl).2.1 ((S1.box [.int .i64 0, .int .i64 0, .slice none 0 0] 26).im3 5 rfl).2.2)))))))
              | (go_at_call 8; (with_reducible refine (cI _ _ _ (by first | exact (S1.nthO 1 rfl).px | exact ((S1.box [.int .i64 0, .int .i64 0, .slice none 0 0] 26).nthO 1 rfl).px) (by first | exact (S1.nthO 0 rfl).px | exact ((S1.box [.int .i64 0, .int .i64 0, .slice none 0 0] 26).nthO 0 rfl).px)).mono ?_); rintro e wC ⟨v0, vc0, vb0, rfl, hoC, hC1, hbC⟩; (first | (with_reducible have SC := S1.own hbC hoC.v hC1) | (with_reducible have SC := (S1.box [.int .i64 0, .int .i64 0, .slice none 0 0] 26).own hbC hoC.v hC1)); clear hbC hoC hC1; (first | have SCs := hide (And.intro (SC.im3 6 rfl).1 (And.intro (SC.im3 6 rfl).2.1 (And.intro (SC.im3 6 rfl).2.2 (And.intro (SC.im3 5 rfl).1 (And.intro (SC.im3 5 rfl).2.1 (SC.im3 5 rfl).2.2))))) | have SCs := hide (And.intro (SC.im3 5 rfl).1 (And.intro (SC.im3 5 rfl).2.1 (And.intro (SC.im3 5 rfl).2.2 (And.intro (SC.im3 4 rfl).1 (And.intro (SC.im3 4 rfl).2.1 (SC.im3 4 rfl).2.2)))))); (first | have SCz := hide (And.intro ((SC.box [.int .i64 0, .int .i64 0, .slice none 0 0] 26).im3 7 rfl).1 (And.intro ((SC.box [.int .i64 0, .int .i64 0, .slice none 0 0] 26).im3 7 rfl).2.1 (And.intro ((SC.box [.int .i64 0, .int .i64 0, .slice none 0 0] 26).im3 7 rfl).2.2 (And.intro ((SC.box [.int .i64 0, .int .i64 0, .slice none 0 0] 26).im3 6 rfl).1 (And.intro ((SC.box [.int .i64 0, .int .i64 0, .slice none 0 0] 26).im3 6 rfl).2.1 ((SC.box [.int .i64 0, .int .i64 0, .slice none 0 0] 26).im3 6 rfl).2.2))))) | have SCz := hide (And.intro ((SC.box [.int .i64 0, .int .i64 0, .slice none 0 0] 26).im3 6 rfl).1 (And.intro ((SC.box [.int .i64 0, .int .i64 0, .slice none 0 0] 26).im3 6 rfl).2.1 (And.intro ((SC.box [.int .i64 0, .int .i64 0, .slice none 0 0] 26).im3 6 rfl).2.2 (And.intro ((SC.box [.int .i64 0, .int .i64 0, .slice none 0 0] 26).im3 5 rfl).1 (And.intro ((SC.box [.int .i64 0, .int .i64 0, .slice none 0 0] 26).im3 5 rfl).2.1 ((SC.box [.int .i64 0, .int .i64 0, .slice none 0 0] 26).im3 5 rfl).2.2)))))); (first | have SCb := hide (And.intro ((SC.box [.int .i64 rW, .int .i64 rH, .slice v0 rN vc0] 26).im3 7 rfl).1 (And.intro ((SC.box [.int .i64 rW, .int .i64 rH, .slice v0 rN vc0] 26).im3 7 rfl).2.1 (And.intro ((SC.box [.int .i64 rW, .int .i64 rH, .slice v0 rN vc0] 26).im3 7 rfl).2.2 (And.intro ((SC.box [.int .i64 rW, .int .i64 rH, .slice v0 rN vc0] 26).im3 6 rfl).1 (And.intro ((SC.box [.int .i64 rW, .int .i64 rH, .slice v0 rN vc0] 26).im3 6 rfl).2.1 ((SC.box [.int .i64 rW, .int .i64 rH, .slice v0 rN vc0] 26).im3 6 rfl).2.2))))) | have SCb := hide (And.intro ((SC.box [.int .i64 rW, .int .i64 rH, .slice v0 rN vc0] 26).im3 6 rfl).1 (And.intro ((SC.box [.int .i64 rW, .int .i64 rH, .slice v0 rN vc0] 26).im3 6 rfl).2.1 (And.intro ((SC.box [.int .i64 rW, .int .i64 rH, .slice v0 rN vc0] 26).im3 6 rfl).2.2 (And.intro ((SC.box [.int .i64 rW, .int .i64 rH, .slice v0 rN vc0] 26).im3 5 rfl).1 (And.intro ((SC.box [.int .i64 rW, .int .i64 rH, .slice v0 rN vc0] 26).im3 5 rfl).2.1 ((SC.box [.int .i64 rW, .int .i64 rH, .slice v0 rN vc0] 26).im3 5 rfl).2.2)))))); (try have SCf := hide (And.intro ((SC.fill3 (.int .i64 rW) (.int .i64 rH) (.slice v0 rN vc0)).im3 6 rfl).1 (And.intro ((SC.fill3 (.int .i64 rW) (.int .i64 rH) (.slice v0 rN vc0)).im3 6 rfl).2.1 (And.intro ((SC.fill3 (.int .i64 rW) (.int .i64 rH) (.slice v0 rN vc0)).im3 6 rfl).2.2 (And.intro ((SC.fill3 (.int .i64 rW) (.int .i64 rH) (.slice v0 rN vc0)).im3 5 rfl).1 (And.intro ((SC.fill3 (.int .i64 rW) (.int .i64 rH) (.slice v0 rN vc0)).im3 5 rfl).2.1 ((SC.fill3 (.int .i64 rW) (.int .i64 rH) (.slice v0 rN vc0)).im3 5 rfl).2.2)))))); obtain ⟨z0, z1, z2⟩ := SC.im3 0 rfl; obtain ⟨e0, e1, e2⟩ := SC.fr3 0 rfl))
          all_goals
            clear SDs SZs SYs SD SZ SY S0s S0z S0 S1s S1z S1 SCs SCz SCb
            go_wp2_with fail
            go_meet
            refine ⟨_, v0, vc0, vb0, rfl, ?_⟩
            first | with_reducible exact (SC.box [.int .i64 rW, .int .i64 rH, .slice v0 rN vc0] 26).dr2 | with_reducible exact (SC.fill3 (.int .i64 rW) (.int .i64 rH) (.slice v0 rN vc0)).dr2 | with_reducible exact (SC.box [.int .i64 rW, .int .i64 rH, .slice v0 rN vc0] 26).drew.dr2 | with_reducible exact (SC.fill3 (.int .i64 rW) (.int .i64 rH) (.slice v0 rN vc0)).drew.dr2
        case rest =>
          obtain ⟨c39, v0, vc0, vb0, rfl, HS38'⟩ := hcut
          have HS38 := hide HS38'
          clear SDs SZs SYs SD SZ SY HS38' HS37 cf00 cf01 cf02 cf10 cf11 cf12
          obtain ⟨i0, i1, i2⟩ := HS38.out.im3 0 rfl
          obtain ⟨j0, j1, j2⟩ := HS38.out.im3 4 rfl
          have pA := (HS38.out.nthO 0 rfl).px
          have pB := (HS38.out.nthO 4 rfl).px
          go_wp2_with fail
          refine (cE _ _ _ _ _ pA pB).mono ?_
          rintro e w40 ⟨rfl, hb⟩
          have HS41 := hide (HS38.out.next hb)
          clear HS38 hb i0 i1 i2 j0 j1 j2 pA pB 
          obtain ⟨i0, i1, i2⟩ := HS41.out.im3 1 rfl
          go_wp2_with fail
          refine (cH _ _ _ _ (HS41.out.nthO 1 rfl).i).mono ?_
          rintro e w42 ⟨rfl, hb⟩
          have HS43 := hide (HS41.out.next hb)
          clear HS41 hb i0 i1 i2
          have HB := hide HS43.out.below
          clear HS43
          go_wp2_with fail
          go_ret
          exact ⟨rfl, HB.out⟩

end Go.Proofs.Ytekoioggamhlaaa

/- The law on Unfold, walked. -/
import Derived.Test.YtjjoeojikbbnfaaUnA
import Derived.Deep.RegionHeld
import Derived.Deep.DeepCutAuto
namespace Go.Proofs.Ytjjoeojikbbnfaa
open Go.RowKit

set_option maxRecDepth 100000 in
set_option maxHeartbeats 20000000 in
theorem fnExactUnfold_walk (W0 H0 : Int) (a0 : Option Addr) (n0 cap0 : Nat) (f0 : Nat → Int) (hl0 : n0 ≤ maxLen) (W1 H1 : Int) (a1 : Option Addr) (n1 cap1 : Nat) (f1 : Nat → Int) (hl1 : n1 ≤ maxLen) (W2 H2 : Int) (a2 : Option Addr) (n2 cap2 : Nat) (f2 : Nat → Int) (hl2 : n2 ≤ maxLen) (W3 H3 : Int) (a3 : Option Addr) (n3 cap3 : Nat) (f3 : Nat → Int) (hl3 : n3 ≤ maxLen) (w : World) (h0 : Px a0 n0 f0 w) (h1 : Px a1 n1 f1 w) (h2 : Px a2 n2 f2 w) (h3 : Px a3 n3 f3 w) :
    Calls Try.prog 3 #[im W0 H0 a0 n0 cap0, im W1 H1 a1 n1 cap1, im W2 H2 a2 n2 cap2, im W3 H3 a3 n3 cap3] w fun e w' => e = .returned (.bool true) ∧ Below w.heap.size w w' := by
  unfold maxLen at hl0 hl1 hl2 hl3
  have HS0 := hide (((((St.start w).box [.int .i64 W0, .int .i64 H0, .slice a0 n0 cap0] 24).box' [.int .i64 W1, .int .i64 H1, .slice a1 n1 cap1] 24 (b := w.heap.size + 1) (by simp)).box' [.int .i64 W2, .int .i64 H2, .slice a2 n2 cap2] 24 (b := w.heap.size + 2) (by simp)).box' [.int .i64 W3, .int .i64 H3, .slice a3 n3 cap3] 24 (b := w.heap.size + 3) (by simp))
  have HP0 := hide h0
  have HP1 := hide h1
  have HP2 := hide h2
  have HP3 := hide h3
  clear h0 h1 h2 h3
  have hz0 := szImage_any W0 H0 a0 n0 cap0 (1048576) (by omega) (by omega) (by omega)
  by_cases hb0 : (1048576 : Int) < n0
  · rw [if_pos hb0] at hz0
    clear hb0 hl0 hl1 hl2 hl3
    go_enter Try.func3, Try.ntmps3
    go_wp2_with fail
    refine (hz0 _).mono ?_
    rintro e wz0 ⟨rfl, hb⟩
    have HS1 := hide (HS0.out.next hb)
    clear hb HS0
    have HB := hide HS1.out.below
    go_wp2_with fail
    go_ret
    exact ⟨rfl, HB.out⟩
  rw [if_neg hb0] at hz0
  have hn0 : ¬ (1048576 - (n0 : Int) : Int) < 0 := by omega
  have hz1 := szImage_any W1 H1 a1 n1 cap1 (1048576 - (n0 : Int)) (by omega) (by omega) (by omega)
  by_cases hb1 : (1048576 - (n0 : Int) : Int) < n1
  · rw [if_pos hb1] at hz1
    clear hb1 hl0 hl1 hl2 hl3
    go_enter Try.func3, Try.ntmps3
    go_wp2_with fail
    refine (hz0 _).mono ?_
    rintro e wz0 ⟨rfl, hb⟩
    have HS1 := hide (HS0.out.next hb)
    clear hb HS0
    obtain ⟨i0, i1, i2⟩ := HS1.out.im3 2 rfl
    go_wp2_with fail
    refine (hz1 _).mono ?_
    rintro e wz1 ⟨rfl, hb⟩
    have HS2 := hide (HS1.out.next hb)
    clear hb HS1
    clear i0 i1 i2
    have HB := hide HS2.out.below
    go_wp2_with fail
    go_ret
    exact ⟨rfl, HB.out⟩
  rw [if_neg hb1] at hz1
  have hn1 : ¬ (1048576 - (n0 : Int) - (n1 : Int) : Int) < 0 := by omega
  have hz2 := szImage_any W2 H2 a2 n2 cap2 (1048576 - (n0 : Int) - (n1 : Int)) (by omega) (by omega) (by omega)
  by_cases hb2 : (1048576 - (n0 : Int) - (n1 : Int) : Int) < n2
  · rw [if_pos hb2] at hz2
    clear hb2 hl0 hl1 hl2 hl3
    go_enter Try.func3, Try.ntmps3
    go_wp2_with fail
    refine (hz0 _).mono ?_
    rintro e wz0 ⟨rfl, hb⟩
    have HS1 := hide (HS0.out.next hb)
    clear hb HS0
    obtain ⟨i0, i1, i2⟩ := HS1.out.im3 2 rfl
    go_wp2_with fail
    refine (hz1 _).mono ?_
    rintro e wz1 ⟨rfl, hb⟩
    have HS2 := hide (HS1.out.next hb)
    clear hb HS1
    clear i0 i1 i2
    obtain ⟨i0, i1, i2⟩ := HS2.out.im3 1 rfl
    go_wp2_with fail
    refine (hz2 _).mono ?_
    rintro e wz2 ⟨rfl, hb⟩
    have HS3 := hide (HS2.out.next hb)
    clear hb HS2
    clear i0 i1 i2
    have HB := hide HS3.out.below
    go_wp2_with fail
    go_ret
    exact ⟨rfl, HB.out⟩
  rw [if_neg hb2] at hz2
  have hn2 : ¬ (1048576 - (n0 : Int) - (n1 : Int) - (n2 : Int) : Int) < 0 := by omega
  have hz3 := szImage_any W3 H3 a3 n3 cap3 (1048576 - (n0 : Int) - (n1 : Int) - (n2 : Int)) (by omega) (by omega) (by omega)
  by_cases hb3 : (1048576 - (n0 : Int) - (n1 : Int) - (n2 : Int) : Int) < n3
  · rw [if_pos hb3] at hz3
    clear hb3 hl0 hl1 hl2 hl3
    go_enter Try.func3, Try.ntmps3
    go_wp2_with fail
    refine (hz0 _).mono ?_
    rintro e wz0 ⟨rfl, hb⟩
    have HS1 := hide (HS0.out.next hb)
    clear hb HS0
    obtain ⟨i0, i1, i2⟩ := HS1.out.im3 2 rfl
    go_wp2_with fail
    refine (hz1 _).mono ?_
    rintro e wz1 ⟨rfl, hb⟩
    have HS2 := hide (HS1.out.next hb)
    clear hb HS1
    clear i0 i1 i2
    obtain ⟨i0, i1, i2⟩ := HS2.out.im3 1 rfl
    go_wp2_with fail
    refine (hz2 _).mono ?_
    rintro e wz2 ⟨rfl, hb⟩
    have HS3 := hide (HS2.out.next hb)
    clear hb HS2
    clear i0 i1 i2
    obtain ⟨i0, i1, i2⟩ := HS3.out.im3 0 rfl
    go_wp2_with fail
    refine (hz3 _).mono ?_
    rintro e wz3 ⟨rfl, hb⟩
    have HS4 := hide (HS3.out.next hb)
    clear hb HS3
    clear i0 i1 i2
    have HB := hide HS4.out.below
    go_wp2_with fail
    go_ret
    exact ⟨rfl, HB.out⟩
  rw [if_neg hb3] at hz3
  have hn3 : ¬ (1048576 - (n0 : Int) - (n1 : Int) - (n2 : Int) - (n3 : Int) : Int) < 0 := by omega
  have hL0 : n0 ≤ 1048576 := by omega
  have hL1 : n1 ≤ 1048576 := by omega
  have hL2 : n2 ≤ 1048576 := by omega
  have hL3 : n3 ≤ 1048576 := by omega
  have hN : n0 + n1 + n2 + n3 ≤ 1048576 := by omega
  clear hl0 hb0 hl1 hb1 hl2 hb2 hl3 hb3
  have cT0 := fun w' h => toImage_any W0 H0 a0 n0 cap0 f0 hL0 w' h
  have cA0 := fun b b' w' h h' => eqImage_any W0 H0 (some ⟨b, 0, none⟩) (some ⟨b', 0, none⟩) n0 n0 n0 f0 hL0 w' h h'
  have cT1 := fun w' h => toImage_any W1 H1 a1 n1 cap1 f1 hL1 w' h
  have cA1 := fun b b' w' h h' => eqImage_any W1 H1 (some ⟨b, 0, none⟩) (some ⟨b', 0, none⟩) n1 n1 n1 f1 hL1 w' h h'
  have cT2 := fun w' h => toImage_any W2 H2 a2 n2 cap2 f2 hL2 w' h
  have cA2 := fun b b' w' h h' => eqImage_any W2 H2 (some ⟨b, 0, none⟩) (some ⟨b', 0, none⟩) n2 n2 n2 f2 hL2 w' h h'
  have cT3 := fun w' h => toImage_any W3 H3 a3 n3 cap3 f3 hL3 w' h
  have cA3 := fun b b' w' h h' => eqImage_any W3 H3 (some ⟨b, 0, none⟩) (some ⟨b', 0, none⟩) n3 n3 n3 f3 hL3 w' h h'
  have cS := fun b0 b1 b2 b3 w' h0 h1 h2 h3 => specUnfold_any W0 H0 (some ⟨b0, 0, none⟩) n0 n0 f0 hL0 W1 H1 (some ⟨b1, 0, none⟩) n1 n1 f1 hL1 W2 H2 (some ⟨b2, 0, none⟩) n2 n2 f2 hL2 W3 H3 (some ⟨b3, 0, none⟩) n3 n3 f3 hL3 w' h0 h1 h2 h3
  have cI := fun b0 b1 b2 b3 w' h0 h1 h2 h3 => implUnfold_any W0 H0 (some ⟨b0, 0, none⟩) n0 n0 f0 hL0 W1 H1 (some ⟨b1, 0, none⟩) n1 n1 f1 hL1 W2 H2 (some ⟨b2, 0, none⟩) n2 n2 f2 hL2 W3 H3 (some ⟨b3, 0, none⟩) n3 n3 f3 hL3 w' h0 h1 h2 h3
  unfold ImRI at cS cI
  have hrn : unN (unfB W0 H0 n0 f0 W1 H1 n1 f1 W2 H2 n2 f2 W3 H3 n3 f3) n2 ≤ 1048576 := by unfold unN; split <;> omega
  generalize unW (unfB W0 H0 n0 f0 W1 H1 n1 f1 W2 H2 n2 f2 W3 H3 n3 f3) W2 = rW at *
  generalize unW (unfB W0 H0 n0 f0 W1 H1 n1 f1 W2 H2 n2 f2 W3 H3 n3 f3) H2 = rH at *
  generalize unN (unfB W0 H0 n0 f0 W1 H1 n1 f1 W2 H2 n2 f2 W3 H3 n3 f3) n2 = rN at *
  generalize curF n0 f0 f1 f2 f3 n0 = s at *
  generalize unC (unfB W0 H0 n0 f0 W1 H1 n1 f1 W2 H2 n2 f2 W3 H3 n3 f3) (cntF n0 f0 f1 f2 f3 n0) = rC at *
  have qc : (rC != rC) = false := by simp
  have cE := fun x y c1 c2 w' h h' => eqImage_any rW rH x y rN c1 c2 s hrn w' h h'
  have cN := fun x b c1 => markImage_any rW rH x b rN c1 s 1 (by omega) (by omega) hrn
  have cH := fun x b c1 => heldImage_any rW rH x b rN c1 1 (by omega) (by omega) hrn
  have q0 : ¬ 1 + (rN : Int) < 0 := by omega
  have q1 : (1 + (rN : Int) != 1 + (rN : Int)) = false := by simp
  have cM0 := fun b b' => markImage_any W0 H0 (some ⟨b, 0, none⟩) b' n0 n0 f0 (1) (by omega) (by omega) hL0
  have cM1 := fun b b' => markImage_any W1 H1 (some ⟨b, 0, none⟩) b' n1 n1 f1 (1 + (n0 : Int)) (by omega) (by omega) hL1
  have cM2 := fun b b' => markImage_any W2 H2 (some ⟨b, 0, none⟩) b' n2 n2 f2 (1 + (n0 : Int) + (n1 : Int)) (by omega) (by omega) hL2
  have cM3 := fun b b' => markImage_any W3 H3 (some ⟨b, 0, none⟩) b' n3 n3 f3 (1 + (n0 : Int) + (n1 : Int) + (n2 : Int)) (by omega) (by omega) hL3
  have q2 : ¬ 1 + (n0 : Int) + (n1 : Int) + (n2 : Int) + (n3 : Int) < 0 := by omega
  clear hN
  go_enter Try.func3, Try.ntmps3
  go_wp2_with fail
  refine (hz0 _).mono ?_
  rintro e wz0 ⟨rfl, hb⟩
  have HS1 := hide (HS0.out.next hb)
  clear hb HS0
  obtain ⟨i0, i1, i2⟩ := HS1.out.im3 2 rfl
  go_wp2_with fail
  refine (hz1 _).mono ?_
  rintro e wz1 ⟨rfl, hb⟩
  have HS2 := hide (HS1.out.next hb)
  clear hb HS1
  clear i0 i1 i2
  obtain ⟨i0, i1, i2⟩ := HS2.out.im3 1 rfl
  go_wp2_with fail
  refine (hz2 _).mono ?_
  rintro e wz2 ⟨rfl, hb⟩
  have HS3 := hide (HS2.out.next hb)
  clear hb HS2
  clear i0 i1 i2
  obtain ⟨i0, i1, i2⟩ := HS3.out.im3 0 rfl
  go_wp2_with fail
  refine (hz3 _).mono ?_
  rintro e wz3 ⟨rfl, hb⟩
  have HS4 := hide (HS3.out.next hb)
  clear hb HS3
  clear i0 i1 i2
  clear hz0 hz1 hz2 hz3
  have SD := HS4.out.drew
  have SZ := (HS4.out.box [.int .i64 0, .int .i64 0, .slice none 0 0] 26).drew
  have SY := HS4.out.drew.box [.int .i64 0, .int .i64 0, .slice none 0 0] 26
  have SDs := hide (And.intro (SD.im3 3 rfl).1 (And.intro (SD.im3 3 rfl).2.1 (And.intro (SD.im3 3 rfl).2.2 (And.intro (SD.im3 2 rfl).1 (And.intro (SD.im3 2 rfl).2.1 (And.intro (SD.im3 2 rfl).2.2 (And.intro (SD.im3 1 rfl).1 (And.intro (SD.im3 1 rfl).2.1 (And.intro (SD.im3 1 rfl).2.2 (And.intro (SD.im3 0 rfl).1 (And.intro (SD.im3 0 rfl).2.1 (SD.im3 0 rfl).2.2)))))))))))
  have SZs := hide (And.intro (SZ.im3 4 rfl).1 (And.intro (SZ.im3 4 rfl).2.1 (And.intro (SZ.im3 4 rfl).2.2 (And.intro (SZ.im3 3 rfl).1 (And.intro (SZ.im3 3 rfl).2.1 (And.intro (SZ.im3 3 rfl).2.2 (And.intro (SZ.im3 2 rfl).1 (And.intro (SZ.im3 2 rfl).2.1 (And.intro (SZ.im3 2 rfl).2.2 (And.intro (SZ.im3 1 rfl).1 (And.intro (SZ.im3 1 rfl).2.1 (SZ.im3 1 rfl).2.2)))))))))))
  have SYs := hide (And.intro (SY.im3 4 rfl).1 (And.intro (SY.im3 4 rfl).2.1 (And.intro (SY.im3 4 rfl).2.2 (And.intro (SY.im3 3 rfl).1 (And.intro (SY.im3 3 rfl).2.1 (And.intro (SY.im3 3 rfl).2.2 (And.intro (SY.im3 2 rfl).1 (And.intro (SY.im3 2 rfl).2.1 (And.intro (SY.im3 2 rfl).2.2 (And.intro (SY.im3 1 rfl).1 (And.intro (SY.im3 1 rfl).2.1 (SY.im3 1 rfl).2.2)))))))))))
  obtain ⟨cf00, cf01, cf02⟩ := HS4.out.im3 3 rfl
  obtain ⟨cf10, cf11, cf12⟩ := HS4.out.im3 2 rfl
  obtain ⟨cf20, cf21, cf22⟩ := HS4.out.im3 1 rfl
  obtain ⟨cf30, cf31, cf32⟩ := HS4.out.im3 0 rfl
  go_upto_region 14 with fail
  go_cut [10, 11] (fun sl sc wc => ∃ c x y t, sl = .pointer (some ⟨c, 0, none⟩) ∧ sc = .int .i64 rC ∧ St w [(c, [.int .i64 rW, .int .i64 rH, .slice x rN y]), (w.heap.size + 3, [.int .i64 W3, .int .i64 H3, .slice a3 n3 cap3]), (w.heap.size + 2, [.int .i64 W2, .int .i64 H2, .slice a2 n2 cap2]), (w.heap.size + 1, [.int .i64 W1, .int .i64 H1, .slice a1 n1 cap1]), (w.heap.size, [.int .i64 W0, .int .i64 H0, .slice a0 n0 cap0])] [(x, t, rN, (fun k => .int .i64 (s k)))] wc)
  case first => as_aux_lemma =>
    go_region_held (fun w' => w'.cell? ⟨w.heap.size, 0, none⟩ = some (.int .i64 W0) ∧ w'.cell? ⟨w.heap.size, 1, none⟩ = some (.int .i64 H0) ∧ w'.cell? ⟨w.heap.size, 2, none⟩ = some (.slice a0 n0 cap0) ∧ w'.cell? ⟨w.heap.size + 1, 0, none⟩ = some (.int .i64 W1) ∧ w'.cell? ⟨w.heap.size + 1, 1, none⟩ = some (.int .i64 H1) ∧ w'.cell? ⟨w.heap.size + 1, 2, none⟩ = some (.slice a1 n1 cap1) ∧ w'.cell? ⟨w.heap.size + 2, 0, none⟩ = some (.int .i64 W2) ∧ w'.cell? ⟨w.heap.size + 2, 1, none⟩ = some (.int .i64 H2) ∧ w'.cell? ⟨w.heap.size + 2, 2, none⟩ = some (.slice a2 n2 cap2) ∧ w'.cell? ⟨w.heap.size + 3, 0, none⟩ = some (.int .i64 W3) ∧ w'.cell? ⟨w.heap.size + 3, 1, none⟩ = some (.int .i64 H3) ∧ w'.cell? ⟨w.heap.size + 3, 2, none⟩ = some (.slice a3 n3 cap3))
      ((first | (with_reducible exact SDs.out) | (with_reducible exact SZs.out) | (with_reducible exact SYs.out) | (with_reducible exact S0s.out) | (with_reducible exact S0z.out) | (with_reducible exact S1s.out) | (with_reducible exact S1z.out) | (with_reducible exact S2s.out) | (with_reducible exact S2z.out) | (with_reducible exact S3s.out) | (with_reducible exact S3z.out) | (with_reducible exact SCs.out) | (with_reducible exact SCz.out) | (with_reducible exact SCb.out) | (with_reducible exact SCf.out)))
      (first
        | (go_at_call 6; (with_reducible refine (cT0 _ (HP0.out.below (by first | exact SD.below | exact SZ.below | exact SY.below))).mono ?_); rintro e wA0 ⟨bb0, rfl, hg0, -, hr0, hb0⟩; (first | (with_reducible have S0 := SD.own hb0 hr0.v (.inr hg0)) | (with_reducible have S0 := SZ.own hb0 hr0.v (.inr hg0)) | (with_reducible have S0 := SY.own hb0 hr0.v (.inr hg0))); clear hb0 hr0 hg0; (first | have S0s := hide (And.intro (S0.im3 4 rfl).1 (And.intro (S0.im3 4 rfl).2.1 (And.intro (S0.im3 4 rfl).2.2 (And.intro (S0.im3 3 rfl).1 (And.intro (S0.im3 3 rfl).2.1 (And.intro (S0.im3 3 rfl).2.2 (And.intro (S0.im3 2 rfl).1 (And.intro (S0.im3 2 rfl).2.1 (And.intro (S0.im3 2 rfl).2.2 (And.intro (S0.im3 1 rfl).1 (And.intro (S0.im3 1 rfl).2.1 (S0.im3 1 rfl).2.2))))))))))) | have S0s := hide (And.intro (S0.im3 3 rfl).1 (And.intro (S0.im3 3 rfl).2.1 (And.intro (S0.im3 3 rfl).2.2 (And.intro (S0.im3 2 rfl).1 (And.intro (S0.im3 2 rfl).2.1 (And.intro (S0.im3 2 rfl).2.2 (And.intro (S0.im3 1 rfl).1 (And.intro (S0.im3 1 rfl).2.1 (And.intro (S0.im3 1 rfl).2.2 (And.intro (S0.im3 0 rfl).1 (And.intro (S0.im3 0 rfl).2.1 (S0.im3 0 rfl).2.2)))))))))))); (first | have S0z := hide (And.intro ((S0.box [.int .i64 0, .int .i64 0, .slice none 0 0] 26).im3 5 rfl).1 (And.intro ((S0.box [.int .i64 0, .int .i64 0, .slice none 0 0] 26).im3 5 rfl).2.1 (And.intro ((S0.box [.int .i64 0, .int .i64 0, .slice none 0 0] 26).im3 5 rfl).2.2 (And.intro ((S0.box [.int .i64 0, .int .i64 0, .slice none 0 0] 26).im3 4 rfl).1 (And.intro ((S0.box [.int .i64 0, .int .i64 0, .slice none 0 0] 26).im3 4 rfl).2.1 (And.intro ((S0.box [.int .i64 0, .int .i64 0, .slice none 0 0] 26).im3 4 rfl).2.2 (And.intro ((S0.box [.int .i64 0, .int .i64 0, .slice none 0 0] 26).im3 3 rfl).1 (And.intro ((S0.box [.int .i64 0, .int .i64 0, .slice none 0 0] 26).im3 3 rfl).2.1 (And.intro ((S0.box [.int .i64 0, .int .i64 0, .slice none 0 0] 26).im3 3 rfl).2.2 (And.intro ((S0.box [.int .i64 0, .int .i64 0, .slice none 0 0] 26).im3 2 rfl).1 (And.intro ((S0.box [.int .i64 0, .int .i64 0, .slice none 0 0] 26).im3 2 rfl).2.1 ((S0.box [.int .i64 0, .int .i64 0, .slice none 0 0] 26).im3 2 rfl).2.2))))))))))) | have S0z := hide (And.intro ((S0.box [.int .i64 0, .int .i64 0, .slice none 0 0] 26).im3 4 rfl).1 (And.intro ((S0.box [.int .i64 0, .int .i64 0, .slice none 0 0] 26).im3 4 rfl).2.1 (And.intro ((S0.box [.int .i64 0, .int .i64 0, .slice none 0 0] 26).im3 4 rfl).2.2 (And.intro ((S0.box [.int .i64 0, .int .i64 0, .slice none 0 0] 26).im3 3 rfl).1 (And.intro ((S0.box [.int .i64 0, .int .i64 0, .slice none 0 0] 26).im3 3 rfl).2.1 (And.intro ((S0.box [.int .i64 0, .int .i64 0, .slice none 0 0] 26).im3 3 rfl).2.2 (And.intro ((S0.box [.int .i64 0, .int .i64 0, .slice none 0 0] 26).im3 2 rfl).1 (And.intro ((S0.box [.int .i64 0, .int .i64 0, .slice none 0 0] 26).im3 2 rfl).2.1 (And.intro ((S0.box [.int .i64 0, .int .i64 0, .slice none 0 0] 26).im3 2 rfl).2.2 (And.intro ((S0.box [.int .i64 0, .int .i64 0, .slice none 0 0] 26).im3 1 rfl).1 (And.intro ((S0.box [.int .i64 0, .int .i64 0, .slice none 0 0] 26).im3 1 rfl).2.1 ((S0.box [.int .i64 0, .int .i64 0, .slice none 0 0] 26).im3 1 rfl).2.2)))))))))))))
        | (go_at_call 6; (with_reducible refine (cT1 _ (HP1.out.below (by first | exact S0.below | exact (S0.box [.int .i64 0, .int .i64 0, .slice none 0 0] 26).below))).mono ?_); rintro e wA1 ⟨bb1, rfl, hg1, -, hr1, hb1⟩; (first | (with_reducible have S1 := S0.own hb1 hr1.v (.inr hg1)) | (with_reducible have S1 := (S0.box [.int .i64 0, .int .i64 0, .slice none 0 0] 26).own hb1 hr1.v (.inr hg1))); clear hb1 hr1 hg1; (first | have S1s := hide (And.intro (S1.im3 4 rfl).1 (And.intro (S1.im3 4 rfl).2.1 (And.intro (S1.im3 4 rfl).2.2 (And.intro (S1.im3 3 rfl).1 (And.intro (S1.im3 3 rfl).2.1 (And.intro (S1.im3 3 rfl).2.2 (And.intro (S1.im3 2 rfl).1 (And.intro (S1.im3 2 rfl).2.1 (And.intro (S1.im3 2 rfl).2.2 (And.intro (S1.im3 1 rfl).1 (And.intro (S1.im3 1 rfl).2.1 (S1.im3 1 rfl).2.2))))))))))) | have S1s := hide (And.intro (S1.im3 3 rfl).1 (And.intro (S1.im3 3 rfl).2.1 (And.intro (S1.im3 3 rfl).2.2 (And.intro (S1.im3 2 rfl).1 (And.intro (S1.im3 2 rfl).2.1 (And.intro (S1.im3 2 rfl).2.2 (And.intro (S1.im3 1 rfl).1 (And.intro (S1.im3 1 rfl).2.1 (And.intro (S1.im3 1 rfl).2.2 (And.intro (S1.im3 0 rfl).1 (And.intro (S1.im3 0 rfl).2.1 (S1.im3 0 rfl).2.2)))))))))))); (first | have S1z := hide (And.intro ((S1.box [.int .i64 0, .int .i64 0, .slice none 0 0] 26).im3 5 rfl).1 (And.intro ((S1.box [.int .i64 0, .int .i64 0, .slice none 0 0] 26).im3 5 rfl).2.1 (And.intro ((S1.box [.int .i64 0, .int .i64 0, .slice none 0 0] 26).im3 5 rfl).2.2 (And.intro ((S1.box [.int .i64 0, .int .i64 0, .slice none 0 0] 26).im3 4 rfl).1 (And.intro ((S1.box [.int .i64 0, .int .i64 0, .slice none 0 0] 26).im3 4 rfl).2.1 (And.intro ((S1.box [.int .i64 0, .int .i64 0, .slice none 0 0] 26).im3 4 rfl).2.2 (And.intro ((S1.box [.int .i64 0, .int .i64 0, .slice none 0 0] 26).im3 3 rfl).1 (And.intro ((S1.box [.int .i64 0, .int .i64 0, .slice none 0 0] 26).im3 3 rfl).2.1 (And.intro ((S1.box [.int .i64 0, .int .i64 0, .slice none 0 0] 26).im3 3 rfl).2.2 (And.intro ((S1.box [.int .i64 0, .int .i64 0, .slice none 0 0] 26).im3 2 rfl).1 (And.intro ((S1.box [.int .i64 0, .int .i64 0, .slice none 0 0] 26).im3 2 rfl).2.1 ((S1.box [.int .i64 0, .int .i64 0, .slice none 0 0] 26).im3 2 rfl).2.2))))))))))) | have S1z := hide (And.intro ((S1.box [.int .i64 0, .int .i64 0, .slice none 0 0] 26).im3 4 rfl).1 (And.intro ((S1.box [.int .i64 0, .int .i64 0, .slice none 0 0] 26).im3 4 rfl).2.1 (And.intro ((S1.box [.int .i64 0, .int .i64 0, .slice none 0 0] 26).im3 4 rfl).2.2 (And.intro ((S1.box [.int .i64 0, .int .i64 0, .slice none 0 0] 26).im3 3 rfl).1 (And.intro ((S1.box [.int .i64 0, .int .i64 0, .slice none 0 0] 26).im3 3 rfl).2.1 (And.intro ((S1.box [.int .i64 0, .int .i64 0, .slice none 0 0] 26).im3 3 rfl).2.2 (And.intro ((S1.box [.int .i64 0, .int .i64 0, .slice none 0 0] 26).im3 2 rfl).1 (And.intro ((S1.box [.int .i64 0, .int .i64 0, .slice none 0 0] 26).im3 2 rfl).2.1 (And.intro ((S1.box [.int .i64 0, .int .i64 0, .slice none 0 0] 26).im3 2 rfl).2.2 (And.intro ((S1.box [.int .i64 0, .int .i64 0, .slice none 0 0] 26).im3 1 rfl).1 (And.intro ((S1.box [.int .i64 0, .int .i64 0, .slice none 0 0] 26).im3 1 rfl).2.1 ((S1.box [.int .i64 0, .int .i64 0, .slice none 0 0] 26).im3 1 rfl).2.2)))))))))))))
        | (go_at_call 6; (with_reducible refine (cT2 _ (HP2.out.below (by first | exact S1.below | exact (S1.box [.int .i64 0, .int .i64 0, .slice none 0 0] 26).below))).mono ?_); rintro e wA2 ⟨bb2, rfl, hg2, -, hr2, hb2⟩; (first | (with_reducible have S2 := S1.own hb2 hr2.v (.inr hg2)) | (with_reducible have S2 := (S1.box [.int .i64 0, .int .i64 0, .slice none 0 0] 26).own hb2 hr2.v (.inr hg2))); clear hb2 hr2 hg2; (first | have S2s := hide (And.intro (S2.im3 4 rfl).1 (And.intro (S2.im3 4 rfl).2.1 (And.intro (S2.im3 4 rfl).2.2 (And.intro (S2.im3 3 rfl).1 (And.intro (S2.im3 3 rfl).2.1 (And.intro (S2.im3 3 rfl).2.2 (And.intro (S2.im3 2 rfl).1 (And.intro (S2.im3 2 rfl).2.1 (And.intro (S2.im3 2 rfl).2.2 (And.intro (S2.im3 1 rfl).1 (And.intro (S2.im3 1 rfl).2.1 (S2.im3 1 rfl).2.2))))))))))) | have S2s := hide (And.intro (S2.im3 3 rfl).1 (And.intro (S2.im3 3 rfl).2.1 (And.intro (S2.im3 3 rfl).2.2 (And.intro (S2.im3 2 rfl).1 (And.intro (S2.im3 2 rfl).2.1 (And.intro (S2.im3 2 rfl).2.2 (And.intro (S2.im3 1 rfl).1 (And.intro (S2.im3 1 rfl).2.1 (And.intro (S2.im3 1 rfl).2.2 (And.intro (S2.im3 0 rfl).1 (And.intro (S2.im3 0 rfl).2.1 (S2.im3 0 rfl).2.2)))))))))))); (first | have S2z := hide (And.intro ((S2.box [.int .i64 0, .int .i64 0, .slice none 0 0] 26).im3 5 rfl).1 (And.intro ((S2.box [.int .i64 0, .int .i64 0, .slice none 0 0] 26).im3 5 rfl).2.1 (And.intro ((S2.box [.int .i64 0, .int .i64 0, .slice none 0 0] 26).im3 5 rfl).2.2 (And.intro ((S2.box [.int .i64 0, .int .i64 0, .slice none 0 0] 26).im3 4 rfl).1 (And.intro ((S2.box [.int .i64 0, .int .i64 0, .slice none 0 0] 26).im3 4 rfl).2.1 (And.intro ((S2.box [.int .i64 0, .int .i64 0, .slice none 0 0] 26).im3 4 rfl).2.2 (And.intro ((S2.box [.int .i64 0, .int .i64 0, .slice none 0 0] 26).im3 3 rfl).1 (And.intro ((S2.box [.int .i64 0, .int .i64 0, .slice none 0 0] 26).im3 3 rfl).2.1 (And.intro ((S2.box [.int .i64 0, .int .i64 0, .slice none 0 0] 26).im3 3 rfl).2.2 (And.intro ((S2.box [.int .i64 0, .int .i64 0, .slice none 0 0] 26).im3 2 rfl).1 (And.intro ((S2.box [.int .i64 0, .int .i64 0, .slice none 0 0] 26).im3 2 rfl).2.1 ((S2.box [.int .i64 0, .int .i64 0, .slice none 0 0] 26).im3 2 rfl).2.2))))))))))) | have S2z := hide (And.intro ((S2.box [.int .i64 0, .int .i64 0, .slice none 0 0] 26).im3 4 rfl).1 (And.intro ((S2.box [.int .i64 0, .int .i64 0, .slice none 0 0] 26).im3 4 rfl).2.1 (And.intro ((S2.box [.int .i64 0, .int .i64 0, .slice none 0 0] 26).im3 4 rfl).2.2 (And.intro ((S2.box [.int .i64 0, .int .i64 0, .slice none 0 0] 26).im3 3 rfl).1 (And.intro ((S2.box [.int .i64 0, .int .i64 0, .slice none 0 0] 26).im3 3 rfl).2.1 (And.intro ((S2.box [.int .i64 0, .int .i64 0, .slice none 0 0] 26).im3 3 rfl).2.2 (And.intro ((S2.box [.int .i64 0, .int .i64 0, .slice none 0 0] 26).im3 2 rfl).1 (And.intro ((S2.box [.int .i64 0, .int .i64 0, .slice none 0 0] 26).im3 2 rfl).2.1 (And.intro ((S2.box [.int .i64 0, .int .i64 0, .slice none 0 0] 26).im3 2 rfl).2.2 (And.intro ((S2.box [.int .i64 0, .int .i64 0, .slice none 0 0] 26).im3 1 rfl).1 (And.intro ((S2.box [.int .i64 0, .int .i64 0, .slice none 0 0] 26).im3 1 rfl).2.1 ((S2.box [.int .i64 0, .int .i64 0, .slice none 0 0] 26).im3 1 rfl).2.2)))))))))))))
        | (go_at_call 6; (with_reducible refine (cT3 _ (HP3.out.below (by first | exact S2.below | exact (S2.box [.int .i64 0, .int .i64 0, .slice none 0 0] 26).below))).mono ?_); rintro e wA3 ⟨bb3, rfl, hg3, -, hr3, hb3⟩; (first | (with_reducible have S3 := S2.own hb3 hr3.v (.inr hg3)) | (with_reducible have S3 := (S2.box [.int .i64 0, .int .i64 0, .slice none 0 0] 26).own hb3 hr3.v (.inr hg3))); clear hb3 hr3 hg3; (first | have S3s := hide (And.intro (S3.im3 4 rfl).1 (And.intro (S3.im3 4 rfl).2.1 (And.intro (S3.im3 4 rfl).2.2 (And.intro (S3.im3 3 rfl).1 (And.intro (S3.im3 3 rfl).2.1 (And.intro (S3.im3 3 rfl).2.2 (And.intro (S3.im3 2 rfl).1 (And.intro (S3.im3 2 rfl).2.1 (And.intro (S3.im3 2 rfl).2.2 (And.intro (S3.im3 1 rfl).1 (And.intro (S3.im3 1 rfl).2.1 (S3.im3 1 rfl).2.2))))))))))) | have S3s := hide (And.intro (S3.im3 3 rfl).1 (And.intro (S3.im3 3 rfl).2.1 (And.intro (S3.im3 3 rfl).2.2 (And.intro (S3.im3 2 rfl).1 (And.intro (S3.im3 2 rfl).2.1 (And.intro (S3.im3 2 rfl).2.2 (And.intro (S3.im3 1 rfl).1 (And.intro (S3.im3 1 rfl).2.1 (And.intro (S3.im3 1 rfl).2.2 (And.intro (S3.im3 0 rfl).1 (And.intro (S3.im3 0 rfl).2.1 (S3.im3 0 rfl).2.2)))))))))))); (first | have S3z := hide (And.intro ((S3.box [.int .i64 0, .int .i64 0, .slice none 0 0] 26).im3 5 rfl).1 (And.intro ((S3.box [.int .i64 0, .int .i64 0, .slice none 0 0] 26).im3 5 rfl).2.1 (And.intro ((S3.box [.int .i64 0, .int .i64 0, .slice none 0 0] 26).im3 5 rfl).2.2 (And.intro ((S3.box [.int .i64 0, .int .i64 0, .slice none 0 0] 26).im3 4 rfl).1 (And.intro ((S3.box [.int .i64 0, .int .i64 0, .slice none 0 0] 26).im3 4 rfl).2.1 (And.intro ((S3.box [.int .i64 0, .int .i64 0, .slice none 0 0] 26).im3 4 rfl).2.2 (And.intro ((S3.box [.int .i64 0, .int .i64 0, .slice none 0 0] 26).im3 3 rfl).1 (And.intro ((S3.box [.int .i64 0, .int .i64 0, .slice none 0 0] 26).im3 3 rfl).2.1 (And.intro ((S3.box [.int .i64 0, .int .i64 0, .slice none 0 0] 26).im3 3 rfl).2.2 (And.intro ((S3.box [.int .i64 0, .int .i64 0, .slice none 0 0] 26).im3 2 rfl).1 (And.intro ((S3.box [.int .i64 0, .int .i64 0, .slice none 0 0] 26).im3 2 rfl).2.1 ((S3.box [.int .i64 0, .int .i64 0, .slice none 0 0] 26).im3 2 rfl).2.2))))))))))) | have S3z := hide (And.intro ((S3.box [.int .i64 0, .int .i64 0, .slice none 0 0] 26).im3 4 rfl).1 (And.intro ((S3.box [.int .i64 0, .int .i64 0, .slice none 0 0] 26).im3 4 rfl).2.1 (And.intro ((S3.box [.int .i64 0, .int .i64 0, .slice none 0 0] 26).im3 4 rfl).2.2 (And.intro ((S3.box [.int .i64 0, .int .i64 0, .slice none 0 0] 26).im3 3 rfl).1 (And.intro ((S3.box [.int .i64 0, .int .i64 0, .slice none 0 0] 26).im3 3 rfl).2.1 (And.intro ((S3.box [.int .i64 0, .int .i64 0, .slice none 0 0] 26).im3 3 rfl).2.2 (And.intro ((S3.box [.int .i64 0, .int .i64 0, .slice none 0 0] 26).im3 2 rfl).1 (And.intro ((S3.box [.int .i64 0, .int .i64 0, .slice none 0 0] 26).im3 2 rfl).2.1 (And.intro ((S3.box [.int .i64 0, .int .i64 0, .slice none 0 0] 26).im3 2 rfl).2.2 (And.intro ((S3.box [.int .i64 0, .int .i64 0, .slice none 0 0] 26).im3 1 rfl).1 (And.intro ((S3.box [.int .i64 0, .int .i64 0, .slice none 0 0] 26).im3 1 rfl).2.1 ((S3.box [.int .i64 0, .int .i64 0, .slice none 0 0] 26).im3 1 rfl).2.2)))))))))))))
        | (go_at_call 5; (with_reducible refine (cS _ _ _ _ _ (by first | exact (S3.nthO 3 rfl).px | exact ((S3.box [.int .i64 0, .int .i64 0, .slice none 0 0] 26).nthO 3 rfl).px) (by first | exact (S3.nthO 2 rfl).px | exact ((S3.box [.int .i64 0, .int .i64 0, .slice none 0 0] 26).nthO 2 rfl).px) (by first | exact (S3.nthO 1 rfl).px | exact ((S3.box [.int .i64 0, .int .i64 0, .slice none 0 0] 26).nthO 1 rfl).px) (by first | exact (S3.nthO 0 rfl).px | exact ((S3.box [.int .i64 0, .int .i64 0, .slice none 0 0] 26).nthO 0 rfl).px)).mono ?_); rintro e wC ⟨p0, pc0, pb0, rfl, hoC, hC1, hbC⟩; (first | (with_reducible have SC := S3.own hbC hoC.v hC1) | (with_reducible have SC := (S3.box [.int .i64 0, .int .i64 0, .slice none 0 0] 26).own hbC hoC.v hC1)); clear hbC hoC hC1; (first | have SCs := hide (And.intro (SC.im3 4 rfl).1 (And.intro (SC.im3 4 rfl).2.1 (And.intro (SC.im3 4 rfl).2.2 (And.intro (SC.im3 3 rfl).1 (And.intro (SC.im3 3 rfl).2.1 (And.intro (SC.im3 3 rfl).2.2 (And.intro (SC.im3 2 rfl).1 (And.intro (SC.im3 2 rfl).2.1 (And.intro (SC.im3 2 rfl).2.2 (And.intro (SC.im3 1 rfl).1 (And.intro (SC.im3 1 rfl).2.1 (SC.im3 1 rfl).2.2))))))))))) | have SCs := hide (And.intro (SC.im3 3 rfl).1 (And.intro (SC.im3 3 rfl).2.1 (And.intro (SC.im3 3 rfl).2.2 (And.intro (SC.im3 2 rfl).1 (And.intro (SC.im3 2 rfl).2.1 (And.intro (SC.im3 2 rfl).2.2 (And.intro (SC.im3 1 rfl).1 (And.intro (SC.im3 1 rfl).2.1 (And.intro (SC.im3 1 rfl).2.2 (And.intro (SC.im3 0 rfl).1 (And.intro (SC.im3 0 rfl).2.1 (SC.im3 0 rfl).2.2)))))))))))); (first | have SCz := hide (And.intro ((SC.box [.int .i64 0, .int .i64 0, .slice none 0 0] 26).im3 5 rfl).1 (And.intro ((SC.box [.int .i64 0, .int .i64 0, .slice none 0 0] 26).im3 5 rfl).2.1 (And.intro ((SC.box [.int .i64 0, .int .i64 0, .slice none 0 0] 26).im3 5 rfl).2.2 (And.intro ((SC.box [.int .i64 0, .int .i64 0, .slice none 0 0] 26).im3 4 rfl).1 (And.intro ((SC.box [.int .i64 0, .int .i64 0, .slice none 0 0] 26).im3 4 rfl).2.1 (And.intro ((SC.box [.int .i64 0, .int .i64 0, .slice none 0 0] 26).im3 4 rfl).2.2 (And.intro ((SC.box [.int .i64 0, .int .i64 0, .slice none 0 0] 26).im3 3 rfl).1 (And.intro ((SC.box [.int .i64 0, .int .i64 0, .slice none 0 0] 26).im3 3 rfl).2.1 (And.intro ((SC.box [.int .i64 0, .int .i64 0, .slice none 0 0] 26).im3 3 rfl).2.2 (And.intro ((SC.box [.int .i64 0, .int .i64 0, .slice none 0 0] 26).im3 2 rfl).1 (And.intro ((SC.box [.int .i64 0, .int .i64 0, .slice none 0 0] 26).im3 2 rfl).2.1 ((SC.box [.int .i64 0, .int .i64 0, .slice none 0 0] 26).im3 2 rfl).2.2))))))))))) | have SCz := hide (And.intro ((SC.box [.int .i64 0, .int .i64 0, .slice none 0 0] 26).im3 4 rfl).1 (And.intro ((SC.box [.int .i64 0, .int .i64 0, .slice none 0 0] 26).im3 4 rfl).2.1 (And.intro ((SC.box [.int .i64 0, .int .i64 0, .slice none 0 0] 26).im3 4 rfl).2.2 (And.intro ((SC.box [.int .i64 0, .int .i64 0, .slice none 0 0] 26).im3 3 rfl).1 (And.intro ((SC.box [.int .i64 0, .int .i64 0, .slice none 0 0] 26).im3 3 rfl).2.1 (And.intro ((SC.box [.int .i64 0, .int .i64 0, .slice none 0 0] 26).im3 3 rfl).2.2 (And.intro ((SC.box [.int .i64 0, .int .i64 0, .slice none 0 0] 26).im3 2 rfl).1 (And.intro ((SC.box [.int .i64 0, .int .i64 0, .slice none 0 0] 26).im3 2 rfl).2.1 (And.intro ((SC.box [.int .i64 0, .int .i64 0, .slice none 0 0] 26).im3 2 rfl).2.2 (And.intro ((SC.box [.int .i64 0, .int .i64 0, .slice none 0 0] 26).im3 1 rfl).1 (And.intro ((SC.box [.int .i64 0, .int .i64 0, .slice none 0 0] 26).im3 1 rfl).2.1 ((SC.box [.int .i64 0, .int .i64 0, .slice none 0 0] 26).im3 1 rfl).2.2)))))))))))); (first | have SCb := hide (And.intro ((SC.box [.int .i64 rW, .int .i64 rH, .slice p0 rN pc0] 26).im3 5 rfl).1 (And.intro ((SC.box [.int .i64 rW, .int .i64 rH, .slice p0 rN pc0] 26).im3 5 rfl).2.1 (And.intro ((SC.box [.int .i64 rW, .int .i64 rH, .slice p0 rN pc0] 26).im3 5 rfl).2.2 (And.intro ((SC.box [.int .i64 rW, .int .i64 rH, .slice p0 rN pc0] 26).im3 4 rfl).1 (And.intro ((SC.box [.int .i64 rW, .int .i64 rH, .slice p0 rN pc0] 26).im3 4 rfl).2.1 (And.intro ((SC.box [.int .i64 rW, .int .i64 rH, .slice p0 rN pc0] 26).im3 4 rfl).2.2 (And.intro ((SC.box [.int .i64 rW, .int .i64 rH, .slice p0 rN pc0] 26).im3 3 rfl).1 (And.intro ((SC.box [.int .i64 rW, .int .i64 rH, .slice p0 rN pc0] 26).im3 3 rfl).2.1 (And.intro ((SC.box [.int .i64 rW, .int .i64 rH, .slice p0 rN pc0] 26).im3 3 rfl).2.2 (And.intro ((SC.box [.int .i64 rW, .int .i64 rH, .slice p0 rN pc0] 26).im3 2 rfl).1 (And.intro ((SC.box [.int .i64 rW, .int .i64 rH, .slice p0 rN pc0] 26).im3 2 rfl).2.1 ((SC.box [.int .i64 rW, .int .i64 rH, .slice p0 rN pc0] 26).im3 2 rfl).2.2))))))))))) | have SCb := hide (And.intro ((SC.box [.int .i64 rW, .int .i64 rH, .slice p0 rN pc0] 26).im3 4 rfl).1 (And.intro ((SC.box [.int .i64 rW, .int .i64 rH, .slice p0 rN pc0] 26).im3 4 rfl).2.1 (And.intro ((SC.box [.int .i64 rW, .int .i64 rH, .slice p0 rN pc0] 26).im3 4 rfl).2.2 (And.intro ((SC.box [.int .i64 rW, .int .i64 rH, .slice p0 rN pc0] 26).im3 3 rfl).1 (And.intro ((SC.box [.int .i64 rW, .int .i64 rH, .slice p0 rN pc0] 26).im3 3 rfl).2.1 (And.intro ((SC.box [.int .i64 rW, .int .i64 rH, .slice p0 rN pc0] 26).im3 3 rfl).2.2 (And.intro ((SC.box [.int .i64 rW, .int .i64 rH, .slice p0 rN pc0] 26).im3 2 rfl).1 (And.intro ((SC.box [.int .i64 rW, .int .i64 rH, .slice p0 rN pc0] 26).im3 2 rfl).2.1 (And.intro ((SC.box [.int .i64 rW, .int .i64 rH, .slice p0 rN pc0] 26).im3 2 rfl).2.2 (And.intro ((SC.box [.int .i64 rW, .int .i64 rH, .slice p0 rN pc0] 26).im3 1 rfl).1 (And.intro ((SC.box [.int .i64 rW, .int .i64 rH, .slice p0 rN pc0] 26).im3 1 rfl).2.1 ((SC.box [.int .i64 rW, .int .i64 rH, .slice p0 rN pc0] 26).im3 1 rfl).2.2)))))))))))); (try have SCf := hide (And.intro ((SC.fill3 (.int .i64 rW) (.int .i64 rH) (.slice p0 rN pc0)).im3 4 rfl).1 (And.intro ((SC.fill3 (.int .i64 rW) (.int .i64 rH) (.slice p0 rN pc0)).im3 4 rfl).2.1 (And.intro ((SC.fill3 (.int .i64 rW) (.int .i64 rH) (.slice p0 rN pc0)).im3 4 rfl).2.2 (And.intro ((SC.fill3 (.int .i64 rW) (.int .i64 rH) (.slice p0 rN pc0)).im3 3 rfl).1 (And.intro ((SC.fill3 (.int .i64 rW) (.int .i64 rH) (.slice p0 rN pc0)).im3 3 rfl).2.1 (And.intro ((SC.fill3 (.int .i64 rW) (.int .i64 rH) (.slice p0 rN pc0)).im3 3 rfl).2.2 (And.intro ((SC.fill3 (.int .i64 rW) (.int .i64 rH) (.slice p0 rN pc0)).im3 2 rfl).1 (And.intro ((SC.fill3 (.int .i64 rW) (.int .i64 rH) (.slice p0 rN pc0)).im3 2 rfl).2.1 (And.intro ((SC.fill3 (.int .i64 rW) (.int .i64 rH) (.slice p0 rN pc0)).im3 2 rfl).2.2 (And.intro ((SC.fill3 (.int .i64 rW) (.int .i64 rH) (.slice p0 rN pc0)).im3 1 rfl).1 (And.intro ((SC.fill3 (.int .i64 rW) (.int .i64 rH) (.slice p0 rN pc0)).im3 1 rfl).2.1 ((SC.fill3 (.int .i64 rW) (.int .i64 rH) (.slice p0 rN pc0)).im3 1 rfl).2.2)))))))))))); obtain ⟨z0, z1, z2⟩ := SC.im3 0 rfl; obtain ⟨e0, e1, e2⟩ := SC.fr3 0 rfl))
    all_goals
      clear SDs SZs SYs SD SZ SY S0s S0z S0 S1s S1z S1 S2s S2z S2 S3s S3z S3 SCs SCz SCb
      go_wp2_with fail
      go_meet
      refine ⟨_, p0, pc0, pb0, rfl, rfl, ?_⟩
      first | with_reducible exact (SC.box [.int .i64 rW, .int .i64 rH, .slice p0 rN pc0] 26).dr4 | with_reducible exact (SC.fill3 (.int .i64 rW) (.int .i64 rH) (.slice p0 rN pc0)).dr4 | with_reducible exact (SC.box [.int .i64 rW, .int .i64 rH, .slice p0 rN pc0] 26).drew.dr4 | with_reducible exact (SC.fill3 (.int .i64 rW) (.int .i64 rH) (.slice p0 rN pc0)).drew.dr4
  case rest => as_aux_lemma =>
    obtain ⟨c12, p0, pc0, pb0, rfl, rfl, HS11'⟩ := hcut
    have HS11 := hide HS11'
    clear SDs SZs SYs SD SZ SY HS11' HS4 cf00 cf01 cf02 cf10 cf11 cf12 cf20 cf21 cf22 cf30 cf31 cf32
    clear cS
    obtain ⟨i0, i1, i2⟩ := HS11.out.im3 4 rfl
    go_wp2_with fail
    refine (cT0 _ (HP0.out.below HS11.out.below)).mono ?_
    rintro e w13 ⟨x0, rfl, hg, -, hr, hb⟩
    have HS15 := hide ((HS11.out.own hb hr.v (.inr hg)).box [.int .i64 W0, .int .i64 H0, .slice (some ⟨x0, 0, none⟩) n0 n0] 26)
    generalize hxw14 : w13.alloc (.cells [.int .i64 W0, .int .i64 H0, .slice (some ⟨x0, 0, none⟩) n0 n0].toArray 26) = w14 at HS15
    have hyw14 : w13.alloc (.cells #[.int .i64 W0, .int .i64 H0, .slice (some ⟨x0, 0, none⟩) n0 n0] 26) = w14 := hxw14
    clear hxw14
    clear HS11 hb hr hg i0 i1 i2 
    obtain ⟨i0, i1, i2⟩ := HS15.out.im3 4 rfl
    go_wp2_with fail
    refine (cT1 _ (HP1.out.below HS15.out.below)).mono ?_
    rintro e w16 ⟨x1, rfl, hg, -, hr, hb⟩
    have HS18 := hide ((HS15.out.own hb hr.v (.inr hg)).box [.int .i64 W1, .int .i64 H1, .slice (some ⟨x1, 0, none⟩) n1 n1] 26)
    generalize hxw17 : w16.alloc (.cells [.int .i64 W1, .int .i64 H1, .slice (some ⟨x1, 0, none⟩) n1 n1].toArray 26) = w17 at HS18
    have hyw17 : w16.alloc (.cells #[.int .i64 W1, .int .i64 H1, .slice (some ⟨x1, 0, none⟩) n1 n1] 26) = w17 := hxw17
    clear hxw17
    clear HS15 hb hr hg i0 i1 i2 hyw14
    obtain ⟨i0, i1, i2⟩ := HS18.out.im3 4 rfl
    go_wp2_with fail
    refine (cT2 _ (HP2.out.below HS18.out.below)).mono ?_
    rintro e w19 ⟨x2, rfl, hg, -, hr, hb⟩
    have HS21 := hide ((HS18.out.own hb hr.v (.inr hg)).box [.int .i64 W2, .int .i64 H2, .slice (some ⟨x2, 0, none⟩) n2 n2] 26)
    generalize hxw20 : w19.alloc (.cells [.int .i64 W2, .int .i64 H2, .slice (some ⟨x2, 0, none⟩) n2 n2].toArray 26) = w20 at HS21
    have hyw20 : w19.alloc (.cells #[.int .i64 W2, .int .i64 H2, .slice (some ⟨x2, 0, none⟩) n2 n2] 26) = w20 := hxw20
    clear hxw20
    clear HS18 hb hr hg i0 i1 i2 hyw17
    obtain ⟨i0, i1, i2⟩ := HS21.out.im3 4 rfl
    go_wp2_with fail
    refine (cT3 _ (HP3.out.below HS21.out.below)).mono ?_
    rintro e w22 ⟨x3, rfl, hg, -, hr, hb⟩
    have HS24 := hide ((HS21.out.own hb hr.v (.inr hg)).box [.int .i64 W3, .int .i64 H3, .slice (some ⟨x3, 0, none⟩) n3 n3] 26)
    generalize hxw23 : w22.alloc (.cells [.int .i64 W3, .int .i64 H3, .slice (some ⟨x3, 0, none⟩) n3 n3].toArray 26) = w23 at HS24
    have hyw23 : w22.alloc (.cells #[.int .i64 W3, .int .i64 H3, .slice (some ⟨x3, 0, none⟩) n3 n3] 26) = w23 := hxw23
    clear hxw23
    clear HS21 hb hr hg i0 i1 i2 hyw20
    obtain ⟨cf00, cf01, cf02⟩ := HS24.out.im3 3 rfl
    have pp0 := (HS24.out.nthO 3 rfl).px
    obtain ⟨cf10, cf11, cf12⟩ := HS24.out.im3 2 rfl
    have pp1 := (HS24.out.nthO 2 rfl).px
    obtain ⟨cf20, cf21, cf22⟩ := HS24.out.im3 1 rfl
    have pp2 := (HS24.out.nthO 1 rfl).px
    obtain ⟨cf30, cf31, cf32⟩ := HS24.out.im3 0 rfl
    have pp3 := (HS24.out.nthO 0 rfl).px
    go_wp2_with fail
    refine (cI _ _ _ _ _ pp0 pp1 pp2 pp3).mono ?_
    rintro e w25 ⟨g0, gc0, gb0, rfl, ho, h1, hb⟩
    have HS27 := hide ((HS24.out.own hb ho.v h1).box [.int .i64 rW, .int .i64 rH, .slice g0 rN gc0] 26)
    generalize hxw26 : w25.alloc (.cells [.int .i64 rW, .int .i64 rH, .slice g0 rN gc0].toArray 26) = w26 at HS27
    have hyw26 : w25.alloc (.cells #[.int .i64 rW, .int .i64 rH, .slice g0 rN gc0] 26) = w26 := hxw26
    clear hxw26
    clear HS24 hb ho h1 hyw23 cf00 cf01 cf02 pp0 cf10 cf11 cf12 pp1 cf20 cf21 cf22 pp2 cf30 cf31 cf32 pp3
    obtain ⟨i0, i1, i2⟩ := HS27.out.im3 0 rfl
    obtain ⟨j0, j1, j2⟩ := HS27.out.im3 5 rfl
    have pA := (HS27.out.nthO 0 rfl).px
    have pB := (HS27.out.nthO 5 rfl).px
    go_wp2_with fail
    refine (cE _ _ _ _ _ pA pB).mono ?_
    rintro e w28 ⟨rfl, hb⟩
    have HS29 := hide (HS27.out.next hb)
    clear HS27 hb i0 i1 i2 j0 j1 j2 pA pB hyw26
    have HD30 := hide HS29.out.drew
    obtain ⟨i0, i1, i2⟩ := HS29.out.im3 4 rfl
    obtain ⟨j0, j1, j2⟩ := HS29.out.im3 9 rfl
    go_upto_region 22 with fail
    go_cut [84] (fun sl wd => sl = .bool false ∧ St w [(w25.heap.size, [.int .i64 rW, .int .i64 rH, .slice g0 rN gc0]), (w22.heap.size, [.int .i64 W3, .int .i64 H3, .slice (some ⟨x3, 0, none⟩) n3 n3]), (w19.heap.size, [.int .i64 W2, .int .i64 H2, .slice (some ⟨x2, 0, none⟩) n2 n2]), (w16.heap.size, [.int .i64 W1, .int .i64 H1, .slice (some ⟨x1, 0, none⟩) n1 n1]), (w13.heap.size, [.int .i64 W0, .int .i64 H0, .slice (some ⟨x0, 0, none⟩) n0 n0]), (c12, [.int .i64 rW, .int .i64 rH, .slice p0 rN pc0]), (w.heap.size + 3, [.int .i64 W3, .int .i64 H3, .slice a3 n3 cap3]), (w.heap.size + 2, [.int .i64 W2, .int .i64 H2, .slice a2 n2 cap2]), (w.heap.size + 1, [.int .i64 W1, .int .i64 H1, .slice a1 n1 cap1]), (w.heap.size, [.int .i64 W0, .int .i64 H0, .slice a0 n0 cap0])] [(g0, gb0, rN, (fun k => .int .i64 (s k))), (some ⟨x3, 0, none⟩, x3, n3, (fun k => .int .i64 (f3 k))), (some ⟨x2, 0, none⟩, x2, n2, (fun k => .int .i64 (f2 k))), (some ⟨x1, 0, none⟩, x1, n1, (fun k => .int .i64 (f1 k))), (some ⟨x0, 0, none⟩, x0, n0, (fun k => .int .i64 (f0 k))), (p0, pb0, rN, (fun k => .int .i64 (s k)))] wd)
    case first => as_aux_lemma =>
      go_region_with (first
        | (go_at_call 6; (with_reducible refine (cT0 _ (HP0.out.below HD30.out.below)).mono ?_); rintro e wP ⟨bP, rfl, -, -, hr, hb⟩; have HQ := hide (HD30.out.next hb); obtain ⟨k0, k1, k2⟩ := HQ.out.im3 4 rfl)
        | (go_at_call 8; (with_reducible refine (cA0 _ _ _ (HQ.out.nthO 4 rfl).px hr.px).mono ?_); rintro e wQ ⟨rfl, hbQ⟩))
      all_goals
        have HQ2 := hide (HQ.out.next hbQ)
        clear hr hb hbQ HQ k0 k1 k2 i0 i1 i2 j0 j1 j2 HD30 HS29
        go_wp2_with fail
        go_meet
        exact ⟨rfl, HQ2.out⟩
    case rest => as_aux_lemma =>
      obtain ⟨rfl, HS31'⟩ := hcut
      have HS31 := hide HS31'
      clear HD30 HS29 i0 i1 i2 j0 j1 j2 HS31'
      have HD32 := hide HS31.out.drew
      obtain ⟨i0, i1, i2⟩ := HS31.out.im3 3 rfl
      obtain ⟨j0, j1, j2⟩ := HS31.out.im3 8 rfl
      go_upto_region 24 with fail
      go_cut [89] (fun sl wd => sl = .bool false ∧ St w [(w25.heap.size, [.int .i64 rW, .int .i64 rH, .slice g0 rN gc0]), (w22.heap.size, [.int .i64 W3, .int .i64 H3, .slice (some ⟨x3, 0, none⟩) n3 n3]), (w19.heap.size, [.int .i64 W2, .int .i64 H2, .slice (some ⟨x2, 0, none⟩) n2 n2]), (w16.heap.size, [.int .i64 W1, .int .i64 H1, .slice (some ⟨x1, 0, none⟩) n1 n1]), (w13.heap.size, [.int .i64 W0, .int .i64 H0, .slice (some ⟨x0, 0, none⟩) n0 n0]), (c12, [.int .i64 rW, .int .i64 rH, .slice p0 rN pc0]), (w.heap.size + 3, [.int .i64 W3, .int .i64 H3, .slice a3 n3 cap3]), (w.heap.size + 2, [.int .i64 W2, .int .i64 H2, .slice a2 n2 cap2]), (w.heap.size + 1, [.int .i64 W1, .int .i64 H1, .slice a1 n1 cap1]), (w.heap.size, [.int .i64 W0, .int .i64 H0, .slice a0 n0 cap0])] [(g0, gb0, rN, (fun k => .int .i64 (s k))), (some ⟨x3, 0, none⟩, x3, n3, (fun k => .int .i64 (f3 k))), (some ⟨x2, 0, none⟩, x2, n2, (fun k => .int .i64 (f2 k))), (some ⟨x1, 0, none⟩, x1, n1, (fun k => .int .i64 (f1 k))), (some ⟨x0, 0, none⟩, x0, n0, (fun k => .int .i64 (f0 k))), (p0, pb0, rN, (fun k => .int .i64 (s k)))] wd)
      case first => as_aux_lemma =>
        go_region_with (first
          | (go_at_call 6; (with_reducible refine (cT1 _ (HP1.out.below HD32.out.below)).mono ?_); rintro e wP ⟨bP, rfl, -, -, hr, hb⟩; have HQ := hide (HD32.out.next hb); obtain ⟨k0, k1, k2⟩ := HQ.out.im3 3 rfl)
          | (go_at_call 8; (with_reducible refine (cA1 _ _ _ (HQ.out.nthO 3 rfl).px hr.px).mono ?_); rintro e wQ ⟨rfl, hbQ⟩))
        all_goals
          have HQ2 := hide (HQ.out.next hbQ)
          clear hr hb hbQ HQ k0 k1 k2 i0 i1 i2 j0 j1 j2 HD32 HS31
          go_wp2_with fail
          go_meet
          exact ⟨rfl, HQ2.out⟩
      case rest => as_aux_lemma =>
        obtain ⟨rfl, HS33'⟩ := hcut
        have HS33 := hide HS33'
        clear HD32 HS31 i0 i1 i2 j0 j1 j2 HS33'
        have HD34 := hide HS33.out.drew
        obtain ⟨i0, i1, i2⟩ := HS33.out.im3 2 rfl
        obtain ⟨j0, j1, j2⟩ := HS33.out.im3 7 rfl
        go_upto_region 26 with fail
        go_cut [94] (fun sl wd => sl = .bool false ∧ St w [(w25.heap.size, [.int .i64 rW, .int .i64 rH, .slice g0 rN gc0]), (w22.heap.size, [.int .i64 W3, .int .i64 H3, .slice (some ⟨x3, 0, none⟩) n3 n3]), (w19.heap.size, [.int .i64 W2, .int .i64 H2, .slice (some ⟨x2, 0, none⟩) n2 n2]), (w16.heap.size, [.int .i64 W1, .int .i64 H1, .slice (some ⟨x1, 0, none⟩) n1 n1]), (w13.heap.size, [.int .i64 W0, .int .i64 H0, .slice (some ⟨x0, 0, none⟩) n0 n0]), (c12, [.int .i64 rW, .int .i64 rH, .slice p0 rN pc0]), (w.heap.size + 3, [.int .i64 W3, .int .i64 H3, .slice a3 n3 cap3]), (w.heap.size + 2, [.int .i64 W2, .int .i64 H2, .slice a2 n2 cap2]), (w.heap.size + 1, [.int .i64 W1, .int .i64 H1, .slice a1 n1 cap1]), (w.heap.size, [.int .i64 W0, .int .i64 H0, .slice a0 n0 cap0])] [(g0, gb0, rN, (fun k => .int .i64 (s k))), (some ⟨x3, 0, none⟩, x3, n3, (fun k => .int .i64 (f3 k))), (some ⟨x2, 0, none⟩, x2, n2, (fun k => .int .i64 (f2 k))), (some ⟨x1, 0, none⟩, x1, n1, (fun k => .int .i64 (f1 k))), (some ⟨x0, 0, none⟩, x0, n0, (fun k => .int .i64 (f0 k))), (p0, pb0, rN, (fun k => .int .i64 (s k)))] wd)
        case first => as_aux_lemma =>
          go_region_with (first
            | (go_at_call 6; (with_reducible refine (cT2 _ (HP2.out.below HD34.out.below)).mono ?_); rintro e wP ⟨bP, rfl, -, -, hr, hb⟩; have HQ := hide (HD34.out.next hb); obtain ⟨k0, k1, k2⟩ := HQ.out.im3 2 rfl)
            | (go_at_call 8; (with_reducible refine (cA2 _ _ _ (HQ.out.nthO 2 rfl).px hr.px).mono ?_); rintro e wQ ⟨rfl, hbQ⟩))
          all_goals
            have HQ2 := hide (HQ.out.next hbQ)
            clear hr hb hbQ HQ k0 k1 k2 i0 i1 i2 j0 j1 j2 HD34 HS33
            go_wp2_with fail
            go_meet
            exact ⟨rfl, HQ2.out⟩
        case rest => as_aux_lemma =>
          obtain ⟨rfl, HS35'⟩ := hcut
          have HS35 := hide HS35'
          clear HD34 HS33 i0 i1 i2 j0 j1 j2 HS35'
          have HD36 := hide HS35.out.drew
          obtain ⟨i0, i1, i2⟩ := HS35.out.im3 1 rfl
          obtain ⟨j0, j1, j2⟩ := HS35.out.im3 6 rfl
          go_upto_region 28 with fail
          go_cut [99] (fun sl wd => sl = .bool false ∧ St w [(w25.heap.size, [.int .i64 rW, .int .i64 rH, .slice g0 rN gc0]), (w22.heap.size, [.int .i64 W3, .int .i64 H3, .slice (some ⟨x3, 0, none⟩) n3 n3]), (w19.heap.size, [.int .i64 W2, .int .i64 H2, .slice (some ⟨x2, 0, none⟩) n2 n2]), (w16.heap.size, [.int .i64 W1, .int .i64 H1, .slice (some ⟨x1, 0, none⟩) n1 n1]), (w13.heap.size, [.int .i64 W0, .int .i64 H0, .slice (some ⟨x0, 0, none⟩) n0 n0]), (c12, [.int .i64 rW, .int .i64 rH, .slice p0 rN pc0]), (w.heap.size + 3, [.int .i64 W3, .int .i64 H3, .slice a3 n3 cap3]), (w.heap.size + 2, [.int .i64 W2, .int .i64 H2, .slice a2 n2 cap2]), (w.heap.size + 1, [.int .i64 W1, .int .i64 H1, .slice a1 n1 cap1]), (w.heap.size, [.int .i64 W0, .int .i64 H0, .slice a0 n0 cap0])] [(g0, gb0, rN, (fun k => .int .i64 (s k))), (some ⟨x3, 0, none⟩, x3, n3, (fun k => .int .i64 (f3 k))), (some ⟨x2, 0, none⟩, x2, n2, (fun k => .int .i64 (f2 k))), (some ⟨x1, 0, none⟩, x1, n1, (fun k => .int .i64 (f1 k))), (some ⟨x0, 0, none⟩, x0, n0, (fun k => .int .i64 (f0 k))), (p0, pb0, rN, (fun k => .int .i64 (s k)))] wd)
          case first => as_aux_lemma =>
            go_region_with (first
              | (go_at_call 6; (with_reducible refine (cT3 _ (HP3.out.below HD36.out.below)).mono ?_); rintro e wP ⟨bP, rfl, -, -, hr, hb⟩; have HQ := hide (HD36.out.next hb); obtain ⟨k0, k1, k2⟩ := HQ.out.im3 1 rfl)
              | (go_at_call 8; (with_reducible refine (cA3 _ _ _ (HQ.out.nthO 1 rfl).px hr.px).mono ?_); rintro e wQ ⟨rfl, hbQ⟩))
            all_goals
              have HQ2 := hide (HQ.out.next hbQ)
              clear hr hb hbQ HQ k0 k1 k2 i0 i1 i2 j0 j1 j2 HD36 HS35
              go_wp2_with fail
              go_meet
              exact ⟨rfl, HQ2.out⟩
          case rest => as_aux_lemma =>
            obtain ⟨rfl, HS37'⟩ := hcut
            have HS37 := hide HS37'
            clear HD36 HS35 i0 i1 i2 j0 j1 j2 HS37'
            obtain ⟨i0, i1, i2⟩ := HS37.out.im3 4 rfl
            go_wp2_with fail
            refine (cM0 _ _ _ (HS37.out.nthO 4 rfl).bk.i).mono ?_
            rintro e w38 ⟨rfl, ho, hk⟩
            have HS39 : Hid (St w [(w25.heap.size, [.int .i64 rW, .int .i64 rH, .slice g0 rN gc0]), (w22.heap.size, [.int .i64 W3, .int .i64 H3, .slice (some ⟨x3, 0, none⟩) n3 n3]), (w19.heap.size, [.int .i64 W2, .int .i64 H2, .slice (some ⟨x2, 0, none⟩) n2 n2]), (w16.heap.size, [.int .i64 W1, .int .i64 H1, .slice (some ⟨x1, 0, none⟩) n1 n1]), (w13.heap.size, [.int .i64 W0, .int .i64 H0, .slice (some ⟨x0, 0, none⟩) n0 n0]), (c12, [.int .i64 rW, .int .i64 rH, .slice p0 rN pc0]), (w.heap.size + 3, [.int .i64 W3, .int .i64 H3, .slice a3 n3 cap3]), (w.heap.size + 2, [.int .i64 W2, .int .i64 H2, .slice a2 n2 cap2]), (w.heap.size + 1, [.int .i64 W1, .int .i64 H1, .slice a1 n1 cap1]), (w.heap.size, [.int .i64 W0, .int .i64 H0, .slice a0 n0 cap0])] [(g0, gb0, rN, (fun k => .int .i64 (s k))), (some ⟨x3, 0, none⟩, x3, n3, (fun k => .int .i64 (f3 k))), (some ⟨x2, 0, none⟩, x2, n2, (fun k => .int .i64 (f2 k))), (some ⟨x1, 0, none⟩, x1, n1, (fun k => .int .i64 (f1 k))), (some ⟨x0, 0, none⟩, x0, n0, (fun k => .int .i64 (1 + (k : Int)))), (p0, pb0, rN, (fun k => .int .i64 (s k)))] w38) := HS37.out.mark (O1 := [_, _, _, _]) hk ho.v
            clear HS37 ho hk i0 i1 i2 cM0
            obtain ⟨i0, i1, i2⟩ := HS39.out.im3 3 rfl
            go_wp2_with fail
            refine (cM1 _ _ _ (HS39.out.nthO 3 rfl).bk.i).mono ?_
            rintro e w40 ⟨rfl, ho, hk⟩
            have HS41 : Hid (St w [(w25.heap.size, [.int .i64 rW, .int .i64 rH, .slice g0 rN gc0]), (w22.heap.size, [.int .i64 W3, .int .i64 H3, .slice (some ⟨x3, 0, none⟩) n3 n3]), (w19.heap.size, [.int .i64 W2, .int .i64 H2, .slice (some ⟨x2, 0, none⟩) n2 n2]), (w16.heap.size, [.int .i64 W1, .int .i64 H1, .slice (some ⟨x1, 0, none⟩) n1 n1]), (w13.heap.size, [.int .i64 W0, .int .i64 H0, .slice (some ⟨x0, 0, none⟩) n0 n0]), (c12, [.int .i64 rW, .int .i64 rH, .slice p0 rN pc0]), (w.heap.size + 3, [.int .i64 W3, .int .i64 H3, .slice a3 n3 cap3]), (w.heap.size + 2, [.int .i64 W2, .int .i64 H2, .slice a2 n2 cap2]), (w.heap.size + 1, [.int .i64 W1, .int .i64 H1, .slice a1 n1 cap1]), (w.heap.size, [.int .i64 W0, .int .i64 H0, .slice a0 n0 cap0])] [(g0, gb0, rN, (fun k => .int .i64 (s k))), (some ⟨x3, 0, none⟩, x3, n3, (fun k => .int .i64 (f3 k))), (some ⟨x2, 0, none⟩, x2, n2, (fun k => .int .i64 (f2 k))), (some ⟨x1, 0, none⟩, x1, n1, (fun k => .int .i64 (1 + (n0 : Int) + (k : Int)))), (some ⟨x0, 0, none⟩, x0, n0, (fun k => .int .i64 (1 + (k : Int)))), (p0, pb0, rN, (fun k => .int .i64 (s k)))] w40) := HS39.out.mark (O1 := [_, _, _]) hk ho.v
            clear HS39 ho hk i0 i1 i2 cM1
            obtain ⟨i0, i1, i2⟩ := HS41.out.im3 2 rfl
            go_wp2_with fail
            refine (cM2 _ _ _ (HS41.out.nthO 2 rfl).bk.i).mono ?_
            rintro e w42 ⟨rfl, ho, hk⟩
            have HS43 : Hid (St w [(w25.heap.size, [.int .i64 rW, .int .i64 rH, .slice g0 rN gc0]), (w22.heap.size, [.int .i64 W3, .int .i64 H3, .slice (some ⟨x3, 0, none⟩) n3 n3]), (w19.heap.size, [.int .i64 W2, .int .i64 H2, .slice (some ⟨x2, 0, none⟩) n2 n2]), (w16.heap.size, [.int .i64 W1, .int .i64 H1, .slice (some ⟨x1, 0, none⟩) n1 n1]), (w13.heap.size, [.int .i64 W0, .int .i64 H0, .slice (some ⟨x0, 0, none⟩) n0 n0]), (c12, [.int .i64 rW, .int .i64 rH, .slice p0 rN pc0]), (w.heap.size + 3, [.int .i64 W3, .int .i64 H3, .slice a3 n3 cap3]), (w.heap.size + 2, [.int .i64 W2, .int .i64 H2, .slice a2 n2 cap2]), (w.heap.size + 1, [.int .i64 W1, .int .i64 H1, .slice a1 n1 cap1]), (w.heap.size, [.int .i64 W0, .int .i64 H0, .slice a0 n0 cap0])] [(g0, gb0, rN, (fun k => .int .i64 (s k))), (some ⟨x3, 0, none⟩, x3, n3, (fun k => .int .i64 (f3 k))), (some ⟨x2, 0, none⟩, x2, n2, (fun k => .int .i64 (1 + (n0 : Int) + (n1 : Int) + (k : Int)))), (some ⟨x1, 0, none⟩, x1, n1, (fun k => .int .i64 (1 + (n0 : Int) + (k : Int)))), (some ⟨x0, 0, none⟩, x0, n0, (fun k => .int .i64 (1 + (k : Int)))), (p0, pb0, rN, (fun k => .int .i64 (s k)))] w42) := HS41.out.mark (O1 := [_, _]) hk ho.v
            clear HS41 ho hk i0 i1 i2 cM2
            obtain ⟨i0, i1, i2⟩ := HS43.out.im3 1 rfl
            go_wp2_with fail
            refine (cM3 _ _ _ (HS43.out.nthO 1 rfl).bk.i).mono ?_
            rintro e w44 ⟨rfl, ho, hk⟩
            have HS45 : Hid (St w [(w25.heap.size, [.int .i64 rW, .int .i64 rH, .slice g0 rN gc0]), (w22.heap.size, [.int .i64 W3, .int .i64 H3, .slice (some ⟨x3, 0, none⟩) n3 n3]), (w19.heap.size, [.int .i64 W2, .int .i64 H2, .slice (some ⟨x2, 0, none⟩) n2 n2]), (w16.heap.size, [.int .i64 W1, .int .i64 H1, .slice (some ⟨x1, 0, none⟩) n1 n1]), (w13.heap.size, [.int .i64 W0, .int .i64 H0, .slice (some ⟨x0, 0, none⟩) n0 n0]), (c12, [.int .i64 rW, .int .i64 rH, .slice p0 rN pc0]), (w.heap.size + 3, [.int .i64 W3, .int .i64 H3, .slice a3 n3 cap3]), (w.heap.size + 2, [.int .i64 W2, .int .i64 H2, .slice a2 n2 cap2]), (w.heap.size + 1, [.int .i64 W1, .int .i64 H1, .slice a1 n1 cap1]), (w.heap.size, [.int .i64 W0, .int .i64 H0, .slice a0 n0 cap0])] [(g0, gb0, rN, (fun k => .int .i64 (s k))), (some ⟨x3, 0, none⟩, x3, n3, (fun k => .int .i64 (1 + (n0 : Int) + (n1 : Int) + (n2 : Int) + (k : Int)))), (some ⟨x2, 0, none⟩, x2, n2, (fun k => .int .i64 (1 + (n0 : Int) + (n1 : Int) + (k : Int)))), (some ⟨x1, 0, none⟩, x1, n1, (fun k => .int .i64 (1 + (n0 : Int) + (k : Int)))), (some ⟨x0, 0, none⟩, x0, n0, (fun k => .int .i64 (1 + (k : Int)))), (p0, pb0, rN, (fun k => .int .i64 (s k)))] w44) := HS43.out.mark (O1 := [_]) hk ho.v
            clear HS43 ho hk i0 i1 i2 cM3
            obtain ⟨i0, i1, i2⟩ := HS45.out.im3 0 rfl
            obtain ⟨j0, j1, j2⟩ := HS45.out.im3 5 rfl
            have pA := (HS45.out.nthO 0 rfl).px
            have pB := (HS45.out.nthO 5 rfl).px
            go_wp2_with fail
            refine (cE _ _ _ _ _ pA pB).mono ?_
            rintro e w46 ⟨rfl, hb⟩
            have HS47 := hide (HS45.out.next hb)
            clear HS45 hb i0 i1 i2 j0 j1 j2 pA pB 
            obtain ⟨i0, i1, i2⟩ := HS47.out.im3 0 rfl
            go_wp2_with fail
            refine (cN _ _ _ _ (HS47.out.nthO 0 rfl).bk.i).mono ?_
            rintro e w48 ⟨rfl, ho, hk⟩
            have HS49 : Hid (St w [(w25.heap.size, [.int .i64 rW, .int .i64 rH, .slice g0 rN gc0]), (w22.heap.size, [.int .i64 W3, .int .i64 H3, .slice (some ⟨x3, 0, none⟩) n3 n3]), (w19.heap.size, [.int .i64 W2, .int .i64 H2, .slice (some ⟨x2, 0, none⟩) n2 n2]), (w16.heap.size, [.int .i64 W1, .int .i64 H1, .slice (some ⟨x1, 0, none⟩) n1 n1]), (w13.heap.size, [.int .i64 W0, .int .i64 H0, .slice (some ⟨x0, 0, none⟩) n0 n0]), (c12, [.int .i64 rW, .int .i64 rH, .slice p0 rN pc0]), (w.heap.size + 3, [.int .i64 W3, .int .i64 H3, .slice a3 n3 cap3]), (w.heap.size + 2, [.int .i64 W2, .int .i64 H2, .slice a2 n2 cap2]), (w.heap.size + 1, [.int .i64 W1, .int .i64 H1, .slice a1 n1 cap1]), (w.heap.size, [.int .i64 W0, .int .i64 H0, .slice a0 n0 cap0])] [(g0, gb0, rN, (fun k => .int .i64 (1 + (k : Int)))), (some ⟨x3, 0, none⟩, x3, n3, (fun k => .int .i64 (1 + (n0 : Int) + (n1 : Int) + (n2 : Int) + (k : Int)))), (some ⟨x2, 0, none⟩, x2, n2, (fun k => .int .i64 (1 + (n0 : Int) + (n1 : Int) + (k : Int)))), (some ⟨x1, 0, none⟩, x1, n1, (fun k => .int .i64 (1 + (n0 : Int) + (k : Int)))), (some ⟨x0, 0, none⟩, x0, n0, (fun k => .int .i64 (1 + (k : Int)))), (p0, pb0, rN, (fun k => .int .i64 (s k)))] w48) := HS47.out.mark (O1 := []) hk ho.v
            clear HS47 ho hk i0 i1 i2
            obtain ⟨i0, i1, i2⟩ := HS49.out.im3 0 rfl
            go_wp2_with fail
            refine (cH _ _ _ _ (HS49.out.nthO 0 rfl).i).mono ?_
            rintro e w50 ⟨rfl, hb⟩
            have HS51 := hide (HS49.out.next hb)
            clear HS49 hb i0 i1 i2
            have SD := HS51.out.drew
            have SZ := (HS51.out.box [.int .i64 0, .int .i64 0, .slice none 0 0] 26).drew
            have SY := HS51.out.drew.box [.int .i64 0, .int .i64 0, .slice none 0 0] 26
            have SDs := hide (And.intro (SD.im3 9 rfl).1 (And.intro (SD.im3 9 rfl).2.1 (And.intro (SD.im3 9 rfl).2.2 (And.intro (SD.im3 8 rfl).1 (And.intro (SD.im3 8 rfl).2.1 (And.intro (SD.im3 8 rfl).2.2 (And.intro (SD.im3 7 rfl).1 (And.intro (SD.im3 7 rfl).2.1 (And.intro (SD.im3 7 rfl).2.2 (And.intro (SD.im3 6 rfl).1 (And.intro (SD.im3 6 rfl).2.1 (SD.im3 6 rfl).2.2)))))))))))
            have SZs := hide (And.intro (SZ.im3 10 rfl).1 (And.intro (SZ.im3 10 rfl).2.1 (And.intro (SZ.im3 10 rfl).2.2 (And.intro (SZ.im3 9 rfl).1 (And.intro (SZ.im3 9 rfl).2.1 (And.intro (SZ.im3 9 rfl).2.2 (And.intro (SZ.im3 8 rfl).1 (And.intro (SZ.im3 8 rfl).2.1 (And.intro (SZ.im3 8 rfl).2.2 (And.intro (SZ.im3 7 rfl).1 (And.intro (SZ.im3 7 rfl).2.1 (SZ.im3 7 rfl).2.2)))))))))))
            have SYs := hide (And.intro (SY.im3 10 rfl).1 (And.intro (SY.im3 10 rfl).2.1 (And.intro (SY.im3 10 rfl).2.2 (And.intro (SY.im3 9 rfl).1 (And.intro (SY.im3 9 rfl).2.1 (And.intro (SY.im3 9 rfl).2.2 (And.intro (SY.im3 8 rfl).1 (And.intro (SY.im3 8 rfl).2.1 (And.intro (SY.im3 8 rfl).2.2 (And.intro (SY.im3 7 rfl).1 (And.intro (SY.im3 7 rfl).2.1 (SY.im3 7 rfl).2.2)))))))))))
            obtain ⟨cf00, cf01, cf02⟩ := HS51.out.im3 9 rfl
            obtain ⟨cf10, cf11, cf12⟩ := HS51.out.im3 8 rfl
            obtain ⟨cf20, cf21, cf22⟩ := HS51.out.im3 7 rfl
            obtain ⟨cf30, cf31, cf32⟩ := HS51.out.im3 6 rfl
            go_upto_region 45 with fail
            go_cut [21, 22] (fun sl sc wc => ∃ c x y t, sl = .pointer (some ⟨c, 0, none⟩) ∧ sc = .int .i64 rC ∧ St w [(c, [.int .i64 rW, .int .i64 rH, .slice x rN y]), (w25.heap.size, [.int .i64 rW, .int .i64 rH, .slice g0 rN gc0]), (w22.heap.size, [.int .i64 W3, .int .i64 H3, .slice (some ⟨x3, 0, none⟩) n3 n3]), (w19.heap.size, [.int .i64 W2, .int .i64 H2, .slice (some ⟨x2, 0, none⟩) n2 n2]), (w16.heap.size, [.int .i64 W1, .int .i64 H1, .slice (some ⟨x1, 0, none⟩) n1 n1]), (w13.heap.size, [.int .i64 W0, .int .i64 H0, .slice (some ⟨x0, 0, none⟩) n0 n0]), (c12, [.int .i64 rW, .int .i64 rH, .slice p0 rN pc0]), (w.heap.size + 3, [.int .i64 W3, .int .i64 H3, .slice a3 n3 cap3]), (w.heap.size + 2, [.int .i64 W2, .int .i64 H2, .slice a2 n2 cap2]), (w.heap.size + 1, [.int .i64 W1, .int .i64 H1, .slice a1 n1 cap1]), (w.heap.size, [.int .i64 W0, .int .i64 H0, .slice a0 n0 cap0])] [(x, t, rN, (fun k => .int .i64 (s k))), (g0, gb0, rN, (fun k => .int .i64 (1 + (k : Int)))), (some ⟨x3, 0, none⟩, x3, n3, (fun k => .int .i64 (1 + (n0 : Int) + (n1 : Int) + (n2 : Int) + (k : Int)))), (some ⟨x2, 0, none⟩, x2, n2, (fun k => .int .i64 (1 + (n0 : Int) + (n1 : Int) + (k : Int)))), (some ⟨x1, 0, none⟩, x1, n1, (fun k => .int .i64 (1 + (n0 : Int) + (k : Int)))), (some ⟨x0, 0, none⟩, x0, n0, (fun k => .int .i64 (1 + (k : Int)))), (p0, pb0, rN, (fun k => .int .i64 (s k)))] wc)
            case first => as_aux_lemma =>
              go_region_held (fun w' => w'.cell? ⟨w.heap.size, 0, none⟩ = some (.int .i64 W0) ∧ w'.cell? ⟨w.heap.size, 1, none⟩ = some (.int .i64 H0) ∧ w'.cell? ⟨w.heap.size, 2, none⟩ = some (.slice a0 n0 cap0) ∧ w'.cell? ⟨w.heap.size + 1, 0, none⟩ = some (.int .i64 W1) ∧ w'.cell? ⟨w.heap.size + 1, 1, none⟩ = some (.int .i64 H1) ∧ w'.cell? ⟨w.heap.size + 1, 2, none⟩ = some (.slice a1 n1 cap1) ∧ w'.cell? ⟨w.heap.size + 2, 0, none⟩ = some (.int .i64 W2) ∧ w'.cell? ⟨w.heap.size + 2, 1, none⟩ = some (.int .i64 H2) ∧ w'.cell? ⟨w.heap.size + 2, 2, none⟩ = some (.slice a2 n2 cap2) ∧ w'.cell? ⟨w.heap.size + 3, 0, none⟩ = some (.int .i64 W3) ∧ w'.cell? ⟨w.heap.size + 3, 1, none⟩ = some (.int .i64 H3) ∧ w'.cell? ⟨w.heap.size + 3, 2, none⟩ = some (.slice a3 n3 cap3))
                ((first | (with_reducible exact SDs.out) | (with_reducible exact SZs.out) | (with_reducible exact SYs.out) | (with_reducible exact S0s.out) | (with_reducible exact S0z.out) | (with_reducible exact S1s.out) | (with_reducible exact S1z.out) | (with_reducible exact S2s.out) | (with_reducible exact S2z.out) | (with_reducible exact S3s.out) | (with_reducible exact S3z.out) | (with_reducible exact SCs.out) | (with_reducible exact SCz.out) | (with_reducible exact SCb.out) | (with_reducible exact SCf.out)))
                (first
                  | (go_at_call 6; (with_reducible refine (cT0 _ (HP0.out.below (by first | exact SD.below | exact SZ.below | exact SY.below))).mono ?_); rintro e wA0 ⟨bb0, rfl, hg0, -, hr0, hb0⟩; (first | (with_reducible have S0 := SD.own hb0 hr0.v (.inr hg0)) | (with_reducible have S0 := SZ.own hb0 hr0.v (.inr hg0)) | (with_reducible have S0 := SY.own hb0 hr0.v (.inr hg0))); clear hb0 hr0 hg0; (first | have S0s := hide (And.intro (S0.im3 10 rfl).1 (And.intro (S0.im3 10 rfl).2.1 (And.intro (S0.im3 10 rfl).2.2 (And.intro (S0.im3 9 rfl).1 (And.intro (S0.im3 9 rfl).2.1 (And.intro (S0.im3 9 rfl).2.2 (And.intro (S0.im3 8 rfl).1 (And.intro (S0.im3 8 rfl).2.1 (And.intro (S0.im3 8 rfl).2.2 (And.intro (S0.im3 7 rfl).1 (And.intro (S0.im3 7 rfl).2.1 (S0.im3 7 rfl).2.2))))))))))) | have S0s := hide (And.intro (S0.im3 9 rfl).1 (And.intro (S0.im3 9 rfl).2.1 (And.intro (S0.im3 9 rfl).2.2 (And.intro (S0.im3 8 rfl).1 (And.intro (S0.im3 8 rfl).2.1 (And.intro (S0.im3 8 rfl).2.2 (And.intro (S0.im3 7 rfl).1 (And.intro (S0.im3 7 rfl).2.1 (And.intro (S0.im3 7 rfl).2.2 (And.intro (S0.im3 6 rfl).1 (And.intro (S0.im3 6 rfl).2.1 (S0.im3 6 rfl).2.2)))))))))))); (first | have S0z := hide (And.intro ((S0.box [.int .i64 0, .int .i64 0, .slice none 0 0] 26).im3 11 rfl).1 (And.intro ((S0.box [.int .i64 0, .int .i64 0, .slice none 0 0] 26).im3 11 rfl).2.1 (And.intro ((S0.box [.int .i64 0, .int .i64 0, .slice none 0 0] 26).im3 11 rfl).2.2 (And.intro ((S0.box [.int .i64 0, .int .i64 0, .slice none 0 0] 26).im3 10 rfl).1 (And.intro ((S0.box [.int .i64 0, .int .i64 0, .slice none 0 0] 26).im3 10 rfl).2.1 (And.intro ((S0.box [.int .i64 0, .int .i64 0, .slice none 0 0] 26).im3 10 rfl).2.2 (And.intro ((S0.box [.int .i64 0, .int .i64 0, .slice none 0 0] 26).im3 9 rfl).1 (And.intro ((S0.box [.int .i64 0, .int .i64 0, .slice none 0 0] 26).im3 9 rfl).2.1 (And.intro ((S0.box [.int .i64 0, .int .i64 0, .slice none 0 0] 26).im3 9 rfl).2.2 (And.intro ((S0.box [.int .i64 0, .int .i64 0, .slice none 0 0] 26).im3 8 rfl).1 (And.intro ((S0.box [.int .i64 0, .int .i64 0, .slice none 0 0] 26).im3 8 rfl).2.1 ((S0.box [.int .i64 0, .int .i64 0, .slice none 0 0] 26).im3 8 rfl).2.2))))))))))) | have S0z := hide (And.intro ((S0.box [.int .i64 0, .int .i64 0, .slice none 0 0] 26).im3 10 rfl).1 (And.intro ((S0.box [.int .i64 0, .int .i64 0, .slice none 0 0] 26).im3 10 rfl).2.1 (And.intro ((S0.box [.int .i64 0, .int .i64 0, .slice none 0 0] 26).im3 10 rfl).2.2 (And.intro ((S0.box [.int .i64 0, .int .i64 0, .slice none 0 0] 26).im3 9 rfl).1 (And.intro ((S0.box [.int .i64 0, .int .i64 0, .slice none 0 0] 26).im3 9 rfl).2.1 (And.intro ((S0.box [.int .i64 0, .int .i64 0, .slice none 0 0] 26).im3 9 rfl).2.2 (And.intro ((S0.box [.int .i64 0, .int .i64 0, .slice none 0 0] 26).im3 8 rfl).1 (And.intro ((S0.box [.int .i64 0, .int .i64 0, .slice none 0 0] 26).im3 8 rfl).2.1 (And.intro ((S0.box [.int .i64 0, .int .i64 0, .slice none 0 0] 26).im3 8 rfl).2.2 (And.intro ((S0.box [.int .i64 0, .int .i64 0, .slice none 0 0] 26).im3 7 rfl).1 (And.intro ((S0.box [.int .i64 0, .int .i64 0, .slice none 0 0] 26).im3 7 rfl).2.1 ((S0.box [.int .i64 0, .int .i64 0, .slice none 0 0] 26).im3 7 rfl).2.2)))))))))))))
                  | (go_at_call 6; (with_reducible refine (cT1 _ (HP1.out.below (by first | exact S0.below | exact (S0.box [.int .i64 0, .int .i64 0, .slice none 0 0] 26).below))).mono ?_); rintro e wA1 ⟨bb1, rfl, hg1, -, hr1, hb1⟩; (first | (with_reducible have S1 := S0.own hb1 hr1.v (.inr hg1)) | (with_reducible have S1 := (S0.box [.int .i64 0, .int .i64 0, .slice none 0 0] 26).own hb1 hr1.v (.inr hg1))); clear hb1 hr1 hg1; (first | have S1s := hide (And.intro (S1.im3 10 rfl).1 (And.intro (S1.im3 10 rfl).2.1 (And.intro (S1.im3 10 rfl).2.2 (And.intro (S1.im3 9 rfl).1 (And.intro (S1.im3 9 rfl).2.1 (And.intro (S1.im3 9 rfl).2.2 (And.intro (S1.im3 8 rfl).1 (And.intro (S1.im3 8 rfl).2.1 (And.intro (S1.im3 8 rfl).2.2 (And.intro (S1.im3 7 rfl).1 (And.intro (S1.im3 7 rfl).2.1 (S1.im3 7 rfl).2.2))))))))))) | have S1s := hide (And.intro (S1.im3 9 rfl).1 (And.intro (S1.im3 9 rfl).2.1 (And.intro (S1.im3 9 rfl).2.2 (And.intro (S1.im3 8 rfl).1 (And.intro (S1.im3 8 rfl).2.1 (And.intro (S1.im3 8 rfl).2.2 (And.intro (S1.im3 7 rfl).1 (And.intro (S1.im3 7 rfl).2.1 (And.intro (S1.im3 7 rfl).2.2 (And.intro (S1.im3 6 rfl).1 (And.intro (S1.im3 6 rfl).2.1 (S1.im3 6 rfl).2.2)))))))))))); (first | have S1z := hide (And.intro ((S1.box [.int .i64 0, .int .i64 0, .slice none 0 0] 26).im3 11 rfl).1 (And.intro ((S1.box [.int .i64 0, .int .i64 0, .slice none 0 0] 26).im3 11 rfl).2.1 (And.intro ((S1.box [.int .i64 0, .int .i64 0, .slice none 0 0] 26).im3 11 rfl).2.2 (And.intro ((S1.box [.int .i64 0, .int .i64 0, .slice none 0 0] 26).im3 10 rfl).1 (And.intro ((S1.box [.int .i64 0, .int .i64 0, .slice none 0 0] 26).im3 10 rfl).2.1 (And.intro ((S1.box [.int .i64 0, .int .i64 0, .slice none 0 0] 26).im3 10 rfl).2.2 (And.intro ((S1.box [.int .i64 0, .int .i64 0, .slice none 0 0] 26).im3 9 rfl).1 (And.intro ((S1.box [.int .i64 0, .int .i64 0, .slice none 0 0] 26).im3 9 rfl).2.1 (And.intro ((S1.box [.int .i64 0, .int .i64 0, .slice none 0 0] 26).im3 9 rfl).2.2 (And.intro ((S1.box [.int .i64 0, .int .i64 0, .slice none 0 0] 26).im3 8 rfl).1 (And.intro ((S1.box [.int .i64 0, .int .i64 0, .slice none 0 0] 26).im3 8 rfl).2.1 ((S1.box [.int .i64 0, .int .i64 0, .slice none 0 0] 26).im3 8 rfl).2.2))))))))))) | have S1z := hide (And.intro ((S1.box [.int .i64 0, .int .i64 0, .slice none 0 0] 26).im3 10 rfl).1 (And.intro ((S1.box [.int .i64 0, .int .i64 0, .slice none 0 0] 26).im3 10 rfl).2.1 (And.intro ((S1.box [.int .i64 0, .int .i64 0, .slice none 0 0] 26).im3 10 rfl).2.2 (And.intro ((S1.box [.int .i64 0, .int .i64 0, .slice none 0 0] 26).im3 9 rfl).1 (And.intro ((S1.box [.int .i64 0, .int .i64 0, .slice none 0 0] 26).im3 9 rfl).2.1 (And.intro ((S1.box [.int .i64 0, .int .i64 0, .slice none 0 0] 26).im3 9 rfl).2.2 (And.intro ((S1.box [.int .i64 0, .int .i64 0, .slice none 0 0] 26).im3 8 rfl).1 (And.intro ((S1.box [.int .i64 0, .int .i64 0, .slice none 0 0] 26).im3 8 rfl).2.1 (And.intro ((S1.box [.int .i64 0, .int .i64 0, .slice none 0 0] 26).im3 8 rfl).2.2 (And.intro ((S1.box [.int .i64 0, .int .i64 0, .slice none 0 0] 26).im3 7 rfl).1 (And.intro ((S1.box [.int .i64 0, .int .i64 0, .slice none 0 0] 26).im3 7 rfl).2.1 ((S1.box [.int .i64 0, .int .i64 0, .slice none 0 0] 26).im3 7 rfl).2.2)))))))))))))
                  | (go_at_call 6; (with_reducible refine (cT2 _ (HP2.out.below (by first | exact S1.below | exact (S1.box [.int .i64 0, .int .i64 0, .slice none 0 0] 26).below))).mono ?_); rintro e wA2 ⟨bb2, rfl, hg2, -, hr2, hb2⟩; (first | (with_reducible have S2 := S1.own hb2 hr2.v (.inr hg2)) | (with_reducible have S2 := (S1.box [.int .i64 0, .int .i64 0, .slice none 0 0] 26).own hb2 hr2.v (.inr hg2))); clear hb2 hr2 hg2; (first | have S2s := hide (And.intro (S2.im3 10 rfl).1 (And.intro (S2.im3 10 rfl).2.1 (And.intro (S2.im3 10 rfl).2.2 (And.intro (S2.im3 9 rfl).1 (And.intro (S2.im3 9 rfl).2.1 (And.intro (S2.im3 9 rfl).2.2 (And.intro (S2.im3 8 rfl).1 (And.intro (S2.im3 8 rfl).2.1 (And.intro (S2.im3 8 rfl).2.2 (And.intro (S2.im3 7 rfl).1 (And.intro (S2.im3 7 rfl).2.1 (S2.im3 7 rfl).2.2))))))))))) | have S2s := hide (And.intro (S2.im3 9 rfl).1 (And.intro (S2.im3 9 rfl).2.1 (And.intro (S2.im3 9 rfl).2.2 (And.intro (S2.im3 8 rfl).1 (And.intro (S2.im3 8 rfl).2.1 (And.intro (S2.im3 8 rfl).2.2 (And.intro (S2.im3 7 rfl).1 (And.intro (S2.im3 7 rfl).2.1 (And.intro (S2.im3 7 rfl).2.2 (And.intro (S2.im3 6 rfl).1 (And.intro (S2.im3 6 rfl).2.1 (S2.im3 6 rfl).2.2)))))))))))); (first | have S2z := hide (And.intro ((S2.box [.int .i64 0, .int .i64 0, .slice none 0 0] 26).im3 11 rfl).1 (And.intro ((S2.box [.int .i64 0, .int .i64 0, .slice none 0 0] 26).im3 11 rfl).2.1 (And.intro ((S2.box [.int .i64 0, .int .i64 0, .slice none 0 0] 26).im3 11 rfl).2.2 (And.intro ((S2.box [.int .i64 0, .int .i64 0, .slice none 0 0] 26).im3 10 rfl).1 (And.intro ((S2.box [.int .i64 0, .int .i64 0, .slice none 0 0] 26).im3 10 rfl).2.1 (And.intro ((S2.box [.int .i64 0, .int .i64 0, .slice none 0 0] 26).im3 10 rfl).2.2 (And.intro ((S2.box [.int .i64 0, .int .i64 0, .slice none 0 0] 26).im3 9 rfl).1 (And.intro ((S2.box [.int .i64 0, .int .i64 0, .slice none 0 0] 26).im3 9 rfl).2.1 (And.intro ((S2.box [.int .i64 0, .int .i64 0, .slice none 0 0] 26).im3 9 rfl).2.2 (And.intro ((S2.box [.int .i64 0, .int .i64 0, .slice none 0 0] 26).im3 8 rfl).1 (And.intro ((S2.box [.int .i64 0, .int .i64 0, .slice none 0 0] 26).im3 8 rfl).2.1 ((S2.box [.int .i64 0, .int .i64 0, .slice none 0 0] 26).im3 8 rfl).2.2))))))))))) | have S2z := hide (And.intro ((S2.box [.int .i64 0, .int .i64 0, .slice none 0 0] 26).im3 10 rfl).1 (And.intro ((S2.box [.int .i64 0, .int .i64 0, .slice none 0 0] 26).im3 10 rfl).2.1 (And.intro ((S2.box [.int .i64 0, .int .i64 0, .slice none 0 0] 26).im3 10 rfl).2.2 (And.intro ((S2.box [.int .i64 0, .int .i64 0, .slice none 0 0] 26).im3 9 rfl).1 (And.intro ((S2.box [.int .i64 0, .int .i64 0, .slice none 0 0] 26).im3 9 rfl).2.1 (And.intro ((S2.box [.int .i64 0, .int .i64 0, .slice none 0 0] 26).im3 9 rfl).2.2 (And.intro ((S2.box [.int .i64 0, .int .i64 0, .slice none 0 0] 26).im3 8 rfl).1 (And.intro ((S2.box [.int .i64 0, .int .i64 0, .slice none 0 0] 26).im3 8 rfl).2.1 (And.intro ((S2.box [.int .i64 0, .int .i64 0, .slice none 0 0] 26).im3 8 rfl).2.2 (And.intro ((S2.box [.int .i64 0, .int .i64 0, .slice none 0 0] 26).im3 7 rfl).1 (And.intro ((S2.box [.int .i64 0, .int .i64 0, .slice none 0 0] 26).im3 7 rfl).2.1 ((S2.box [.int .i64 0, .int .i64 0, .slice none 0 0] 26).im3 7 rfl).2.2)))))))))))))
                  | (go_at_call 6; (with_reducible refine (cT3 _ (HP3.out.below (by first | exact S2.below | exact (S2.box [.int .i64 0, .int .i64 0, .slice none 0 0] 26).below))).mono ?_); rintro e wA3 ⟨bb3, rfl, hg3, -, hr3, hb3⟩; (first | (with_reducible have S3 := S2.own hb3 hr3.v (.inr hg3)) | (with_reducible have S3 := (S2.box [.int .i64 0, .int .i64 0, .slice none 0 0] 26).own hb3 hr3.v (.inr hg3))); clear hb3 hr3 hg3; (first | have S3s := hide (And.intro (S3.im3 10 rfl).1 (And.intro (S3.im3 10 rfl).2.1 (And.intro (S3.im3 10 rfl).2.2 (And.intro (S3.im3 9 rfl).1 (And.intro (S3.im3 9 rfl).2.1 (And.intro (S3.im3 9 rfl).2.2 (And.intro (S3.im3 8 rfl).1 (And.intro (S3.im3 8 rfl).2.1 (And.intro (S3.im3 8 rfl).2.2 (And.intro (S3.im3 7 rfl).1 (And.intro (S3.im3 7 rfl).2.1 (S3.im3 7 rfl).2.2))))))))))) | have S3s := hide (And.intro (S3.im3 9 rfl).1 (And.intro (S3.im3 9 rfl).2.1 (And.intro (S3.im3 9 rfl).2.2 (And.intro (S3.im3 8 rfl).1 (And.intro (S3.im3 8 rfl).2.1 (And.intro (S3.im3 8 rfl).2.2 (And.intro (S3.im3 7 rfl).1 (And.intro (S3.im3 7 rfl).2.1 (And.intro (S3.im3 7 rfl).2.2 (And.intro (S3.im3 6 rfl).1 (And.intro (S3.im3 6 rfl).2.1 (S3.im3 6 rfl).2.2)))))))))))); (first | have S3z := hide (And.intro ((S3.box [.int .i64 0, .int .i64 0, .slice none 0 0] 26).im3 11 rfl).1 (And.intro ((S3.box [.int .i64 0, .int .i64 0, .slice none 0 0] 26).im3 11 rfl).2.1 (And.intro ((S3.box [.int .i64 0, .int .i64 0, .slice none 0 0] 26).im3 11 rfl).2.2 (And.intro ((S3.box [.int .i64 0, .int .i64 0, .slice none 0 0] 26).im3 10 rfl).1 (And.intro ((S3.box [.int .i64 0, .int .i64 0, .slice none 0 0] 26).im3 10 rfl).2.1 (And.intro ((S3.box [.int .i64 0, .int .i64 0, .slice none 0 0] 26).im3 10 rfl).2.2 (And.intro ((S3.box [.int .i64 0, .int .i64 0, .slice none 0 0] 26).im3 9 rfl).1 (And.intro ((S3.box [.int .i64 0, .int .i64 0, .slice none 0 0] 26).im3 9 rfl).2.1 (And.intro ((S3.box [.int .i64 0, .int .i64 0, .slice none 0 0] 26).im3 9 rfl).2.2 (And.intro ((S3.box [.int .i64 0, .int .i64 0, .slice none 0 0] 26).im3 8 rfl).1 (And.intro ((S3.box [.int .i64 0, .int .i64 0, .slice none 0 0] 26).im3 8 rfl).2.1 ((S3.box [.int .i64 0, .int .i64 0, .slice none 0 0] 26).im3 8 rfl).2.2))))))))))) | have S3z := hide (And.intro ((S3.box [.int .i64 0, .int .i64 0, .slice none 0 0] 26).im3 10 rfl).1 (And.intro ((S3.box [.int .i64 0, .int .i64 0, .slice none 0 0] 26).im3 10 rfl).2.1 (And.intro ((S3.box [.int .i64 0, .int .i64 0, .slice none 0 0] 26).im3 10 rfl).2.2 (And.intro ((S3.box [.int .i64 0, .int .i64 0, .slice none 0 0] 26).im3 9 rfl).1 (And.intro ((S3.box [.int .i64 0, .int .i64 0, .slice none 0 0] 26).im3 9 rfl).2.1 (And.intro ((S3.box [.int .i64 0, .int .i64 0, .slice none 0 0] 26).im3 9 rfl).2.2 (And.intro ((S3.box [.int .i64 0, .int .i64 0, .slice none 0 0] 26).im3 8 rfl).1 (And.intro ((S3.box [.int .i64 0, .int .i64 0, .slice none 0 0] 26).im3 8 rfl).2.1 (And.intro ((S3.box [.int .i64 0, .int .i64 0, .slice none 0 0] 26).im3 8 rfl).2.2 (And.intro ((S3.box [.int .i64 0, .int .i64 0, .slice none 0 0] 26).im3 7 rfl).1 (And.intro ((S3.box [.int .i64 0, .int .i64 0, .slice none 0 0] 26).im3 7 rfl).2.1 ((S3.box [.int .i64 0, .int .i64 0, .slice none 0 0] 26).im3 7 rfl).2.2)))))))))))))
                  | (go_at_call 7; (with_reducible refine (cI _ _ _ _ _ (by first | exact (S3.nthO 3 rfl).px | exact ((S3.box [.int .i64 0, .int .i64 0, .slice none 0 0] 26).nthO 3 rfl).px) (by first | exact (S3.nthO 2 rfl).px | exact ((S3.box [.int .i64 0, .int .i64 0, .slice none 0 0] 26).nthO 2 rfl).px) (by first | exact (S3.nthO 1 rfl).px | exact ((S3.box [.int .i64 0, .int .i64 0, .slice none 0 0] 26).nthO 1 rfl).px) (by first | exact (S3.nthO 0 rfl).px | exact ((S3.box [.int .i64 0, .int .i64 0, .slice none 0 0] 26).nthO 0 rfl).px)).mono ?_); rintro e wC ⟨v0, vc0, vb0, rfl, hoC, hC1, hbC⟩; (first | (with_reducible have SC := S3.own hbC hoC.v hC1) | (with_reducible have SC := (S3.box [.int .i64 0, .int .i64 0, .slice none 0 0] 26).own hbC hoC.v hC1)); clear hbC hoC hC1; (first | have SCs := hide (And.intro (SC.im3 10 rfl).1 (And.intro (SC.im3 10 rfl).2.1 (And.intro (SC.im3 10 rfl).2.2 (And.intro (SC.im3 9 rfl).1 (And.intro (SC.im3 9 rfl).2.1 (And.intro (SC.im3 9 rfl).2.2 (And.intro (SC.im3 8 rfl).1 (And.intro (SC.im3 8 rfl).2.1 (And.intro (SC.im3 8 rfl).2.2 (And.intro (SC.im3 7 rfl).1 (And.intro (SC.im3 7 rfl).2.1 (SC.im3 7 rfl).2.2))))))))))) | have SCs := hide (And.intro (SC.im3 9 rfl).1 (And.intro (SC.im3 9 rfl).2.1 (And.intro (SC.im3 9 rfl).2.2 (And.intro (SC.im3 8 rfl).1 (And.intro (SC.im3 8 rfl).2.1 (And.intro (SC.im3 8 rfl).2.2 (And.intro (SC.im3 7 rfl).1 (And.intro (SC.im3 7 rfl).2.1 (And.intro (SC.im3 7 rfl).2.2 (And.intro (SC.im3 6 rfl).1 (And.intro (SC.im3 6 rfl).2.1 (SC.im3 6 rfl).2.2)))))))))))); (first | have SCz := hide (And.intro ((SC.box [.int .i64 0, .int .i64 0, .slice none 0 0] 26).im3 11 rfl).1 (And.intro ((SC.box [.int .i64 0, .int .i64 0, .slice none 0 0] 26).im3 11 rfl).2.1 (And.intro ((SC.box [.int .i64 0, .int .i64 0, .slice none 0 0] 26).im3 11 rfl).2.2 (And.intro ((SC.box [.int .i64 0, .int .i64 0, .slice none 0 0] 26).im3 10 rfl).1 (And.intro ((SC.box [.int .i64 0, .int .i64 0, .slice none 0 0] 26).im3 10 rfl).2.1 (And.intro ((SC.box [.int .i64 0, .int .i64 0, .slice none 0 0] 26).im3 10 rfl).2.2 (And.intro ((SC.box [.int .i64 0, .int .i64 0, .slice none 0 0] 26).im3 9 rfl).1 (And.intro ((SC.box [.int .i64 0, .int .i64 0, .slice none 0 0] 26).im3 9 rfl).2.1 (And.intro ((SC.box [.int .i64 0, .int .i64 0, .slice none 0 0] 26).im3 9 rfl).2.2 (And.intro ((SC.box [.int .i64 0, .int .i64 0, .slice none 0 0] 26).im3 8 rfl).1 (And.intro ((SC.box [.int .i64 0, .int .i64 0, .slice none 0 0] 26).im3 8 rfl).2.1 ((SC.box [.int .i64 0, .int .i64 0, .slice none 0 0] 26).im3 8 rfl).2.2))))))))))) | have SCz := hide (And.intro ((SC.box [.int .i64 0, .int .i64 0, .slice none 0 0] 26).im3 10 rfl).1 (And.intro ((SC.box [.int .i64 0, .int .i64 0, .slice none 0 0] 26).im3 10 rfl).2.1 (And.intro ((SC.box [.int .i64 0, .int .i64 0, .slice none 0 0] 26).im3 10 rfl).2.2 (And.intro ((SC.box [.int .i64 0, .int .i64 0, .slice none 0 0] 26).im3 9 rfl).1 (And.intro ((SC.box [.int .i64 0, .int .i64 0, .slice none 0 0] 26).im3 9 rfl).2.1 (And.intro ((SC.box [.int .i64 0, .int .i64 0, .slice none 0 0] 26).im3 9 rfl).2.2 (And.intro ((SC.box [.int .i64 0, .int .i64 0, .slice none 0 0] 26).im3 8 rfl).1 (And.intro ((SC.box [.int .i64 0, .int .i64 0, .slice none 0 0] 26).im3 8 rfl).2.1 (And.intro ((SC.box [.int .i64 0, .int .i64 0, .slice none 0 0] 26).im3 8 rfl).2.2 (And.intro ((SC.box [.int .i64 0, .int .i64 0, .slice none 0 0] 26).im3 7 rfl).1 (And.intro ((SC.box [.int .i64 0, .int .i64 0, .slice none 0 0] 26).im3 7 rfl).2.1 ((SC.box [.int .i64 0, .int .i64 0, .slice none 0 0] 26).im3 7 rfl).2.2)))))))))))); (first | have SCb := hide (And.intro ((SC.box [.int .i64 rW, .int .i64 rH, .slice v0 rN vc0] 26).im3 11 rfl).1 (And.intro ((SC.box [.int .i64 rW, .int .i64 rH, .slice v0 rN vc0] 26).im3 11 rfl).2.1 (And.intro ((SC.box [.int .i64 rW, .int .i64 rH, .slice v0 rN vc0] 26).im3 11 rfl).2.2 (And.intro ((SC.box [.int .i64 rW, .int .i64 rH, .slice v0 rN vc0] 26).im3 10 rfl).1 (And.intro ((SC.box [.int .i64 rW, .int .i64 rH, .slice v0 rN vc0] 26).im3 10 rfl).2.1 (And.intro ((SC.box [.int .i64 rW, .int .i64 rH, .slice v0 rN vc0] 26).im3 10 rfl).2.2 (And.intro ((SC.box [.int .i64 rW, .int .i64 rH, .slice v0 rN vc0] 26).im3 9 rfl).1 (And.intro ((SC.box [.int .i64 rW, .int .i64 rH, .slice v0 rN vc0] 26).im3 9 rfl).2.1 (And.intro ((SC.box [.int .i64 rW, .int .i64 rH, .slice v0 rN vc0] 26).im3 9 rfl).2.2 (And.intro ((SC.box [.int .i64 rW, .int .i64 rH, .slice v0 rN vc0] 26).im3 8 rfl).1 (And.intro ((SC.box [.int .i64 rW, .int .i64 rH, .slice v0 rN vc0] 26).im3 8 rfl).2.1 ((SC.box [.int .i64 rW, .int .i64 rH, .slice v0 rN vc0] 26).im3 8 rfl).2.2))))))))))) | have SCb := hide (And.intro ((SC.box [.int .i64 rW, .int .i64 rH, .slice v0 rN vc0] 26).im3 10 rfl).1 (And.intro ((SC.box [.int .i64 rW, .int .i64 rH, .slice v0 rN vc0] 26).im3 10 rfl).2.1 (And.intro ((SC.box [.int .i64 rW, .int .i64 rH, .slice v0 rN vc0] 26).im3 10 rfl).2.2 (And.intro ((SC.box [.int .i64 rW, .int .i64 rH, .slice v0 rN vc0] 26).im3 9 rfl).1 (And.intro ((SC.box [.int .i64 rW, .int .i64 rH, .slice v0 rN vc0] 26).im3 9 rfl).2.1 (And.intro ((SC.box [.int .i64 rW, .int .i64 rH, .slice v0 rN vc0] 26).im3 9 rfl).2.2 (And.intro ((SC.box [.int .i64 rW, .int .i64 rH, .slice v0 rN vc0] 26).im3 8 rfl).1 (And.intro ((SC.box [.int .i64 rW, .int .i64 rH, .slice v0 rN vc0] 26).im3 8 rfl).2.1 (And.intro ((SC.box [.int .i64 rW, .int .i64 rH, .slice v0 rN vc0] 26).im3 8 rfl).2.2 (And.intro ((SC.box [.int .i64 rW, .int .i64 rH, .slice v0 rN vc0] 26).im3 7 rfl).1 (And.intro ((SC.box [.int .i64 rW, .int .i64 rH, .slice v0 rN vc0] 26).im3 7 rfl).2.1 ((SC.box [.int .i64 rW, .int .i64 rH, .slice v0 rN vc0] 26).im3 7 rfl).2.2)))))))))))); (try have SCf := hide (And.intro ((SC.fill3 (.int .i64 rW) (.int .i64 rH) (.slice v0 rN vc0)).im3 10 rfl).1 (And.intro ((SC.fill3 (.int .i64 rW) (.int .i64 rH) (.slice v0 rN vc0)).im3 10 rfl).2.1 (And.intro ((SC.fill3 (.int .i64 rW) (.int .i64 rH) (.slice v0 rN vc0)).im3 10 rfl).2.2 (And.intro ((SC.fill3 (.int .i64 rW) (.int .i64 rH) (.slice v0 rN vc0)).im3 9 rfl).1 (And.intro ((SC.fill3 (.int .i64 rW) (.int .i64 rH) (.slice v0 rN vc0)).im3 9 rfl).2.1 (And.intro ((SC.fill3 (.int .i64 rW) (.int .i64 rH) (.slice v0 rN vc0)).im3 9 rfl).2.2 (And.intro ((SC.fill3 (.int .i64 rW) (.int .i64 rH) (.slice v0 rN vc0)).im3 8 rfl).1 (And.intro ((SC.fill3 (.int .i64 rW) (.int .i64 rH) (.slice v0 rN vc0)).im3 8 rfl).2.1 (And.intro ((SC.fill3 (.int .i64 rW) (.int .i64 rH) (.slice v0 rN vc0)).im3 8 rfl).2.2 (And.intro ((SC.fill3 (.int .i64 rW) (.int .i64 rH) (.slice v0 rN vc0)).im3 7 rfl).1 (And.intro ((SC.fill3 (.int .i64 rW) (.int .i64 rH) (.slice v0 rN vc0)).im3 7 rfl).2.1 ((SC.fill3 (.int .i64 rW) (.int .i64 rH) (.slice v0 rN vc0)).im3 7 rfl).2.2)))))))))))); obtain ⟨z0, z1, z2⟩ := SC.im3 0 rfl; obtain ⟨e0, e1, e2⟩ := SC.fr3 0 rfl))
              all_goals
                clear SDs SZs SYs SD SZ SY S0s S0z S0 S1s S1z S1 S2s S2z S2 S3s S3z S3 SCs SCz SCb
                go_wp2_with fail
                go_meet
                refine ⟨_, v0, vc0, vb0, rfl, rfl, ?_⟩
                first | with_reducible exact (SC.box [.int .i64 rW, .int .i64 rH, .slice v0 rN vc0] 26).dr4 | with_reducible exact (SC.fill3 (.int .i64 rW) (.int .i64 rH) (.slice v0 rN vc0)).dr4 | with_reducible exact (SC.box [.int .i64 rW, .int .i64 rH, .slice v0 rN vc0] 26).drew.dr4 | with_reducible exact (SC.fill3 (.int .i64 rW) (.int .i64 rH) (.slice v0 rN vc0)).drew.dr4
            case rest => as_aux_lemma =>
              obtain ⟨c53, v0, vc0, vb0, rfl, rfl, HS52'⟩ := hcut
              have HS52 := hide HS52'
              clear SDs SZs SYs SD SZ SY HS52' HS51 cf00 cf01 cf02 cf10 cf11 cf12 cf20 cf21 cf22 cf30 cf31 cf32
              obtain ⟨i0, i1, i2⟩ := HS52.out.im3 0 rfl
              obtain ⟨j0, j1, j2⟩ := HS52.out.im3 6 rfl
              have pA := (HS52.out.nthO 0 rfl).px
              have pB := (HS52.out.nthO 6 rfl).px
              go_wp2_with fail
              refine (cE _ _ _ _ _ pA pB).mono ?_
              rintro e w54 ⟨rfl, hb⟩
              have HS55 := hide (HS52.out.next hb)
              clear HS52 hb i0 i1 i2 j0 j1 j2 pA pB 
              obtain ⟨i0, i1, i2⟩ := HS55.out.im3 1 rfl
              go_wp2_with fail
              refine (cH _ _ _ _ (HS55.out.nthO 1 rfl).i).mono ?_
              rintro e w56 ⟨rfl, hb⟩
              have HS57 := hide (HS55.out.next hb)
              clear HS55 hb i0 i1 i2
              have HB := hide HS57.out.below
              clear HS57
              go_wp2_with fail
              go_ret
              exact ⟨rfl, HB.out⟩

end Go.Proofs.Ytjjoeojikbbnfaa

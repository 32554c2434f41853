/- The law on Covers, walked. -/
import Derived.Test.YtjohlgemjkflhaaCov
namespace Go.Proofs.Ytjohlgemjkflhaa
open Go.RowKit

theorem specCovers_any (a : Option Addr) (len cap : Nat) (g : Nat → Int) (hl : len ≤ 1048576) (n : Int) (w : World) (h : Px a (len * 5) g w) :
    Calls Try.prog 6 #[.slice a len cap, .int .i64 n] w fun e w' => e = .returned (.bool (coversB g len n)) ∧ Below w.heap.size w w' := by
  have cI := l1In_any n 1 64
  unfold coversB
  cases hin : inB n 1 64
  · rw [hin] at cI
    rw [Bool.false_and]
    clear hin h
    go_enter Try.func6, Try.ntmps6
    go_wp2_with fail
    refine (cI _).mono ?_
    rintro e w1 ⟨rfl, rfl⟩
    go_wp2_with fail
    go_ret
    exact ⟨rfl, Below.refl _ _⟩
  · by_cases hb : len ≤ 8192
    · obtain ⟨m, rfl, m1, m2⟩ := side_nat hin
      rw [Bool.true_and, decide_eq_true hb, Bool.true_and, Int.toNat_natCast]
      exact specCovers_yes a len cap g hb m m1 m2 hin w h
    · rw [Bool.true_and, decide_eq_false hb, Bool.false_and]
      rw [hin] at cI
      have hbig : (8192 : Int) < (len : Int) := by omega
      clear hin h
      go_enter Try.func6, Try.ntmps6
      go_wp2_with fail
      refine (cI _).mono ?_
      rintro e w1 ⟨rfl, rfl⟩
      go_wp2_with fail
      go_ret
      exact ⟨rfl, Below.refl _ _⟩

theorem implCovers_any (a : Option Addr) (len cap : Nat) (g : Nat → Int) (hl : len ≤ 1048576) (n : Int) (w : World) (h : Px a (len * 5) g w) :
    Calls Try.prog 8 #[.slice a len cap, .int .i64 n] w fun e w' => e = .returned (.bool (coversB g len n)) ∧ Below w.heap.size w w' := by
  have cI := isSide_any n
  unfold coversB
  cases hin : inB n 1 64
  · rw [hin] at cI
    rw [Bool.false_and]
    clear hin h
    go_enter Try.func8, Try.ntmps8
    go_wp2_with fail
    refine (cI _).mono ?_
    rintro e w1 ⟨rfl, rfl⟩
    go_wp2_with fail
    go_ret
    exact ⟨rfl, Below.refl _ _⟩
  · by_cases hb : len ≤ 8192
    · obtain ⟨m, rfl, m1, m2⟩ := side_nat hin
      rw [Bool.true_and, decide_eq_true hb, Bool.true_and, Int.toNat_natCast]
      exact implCovers_yes a len cap g hb m m1 m2 hin w h
    · rw [Bool.true_and, decide_eq_false hb, Bool.false_and]
      rw [hin] at cI
      have hbig : (8192 : Int) < (len : Int) := by omega
      clear hin h
      go_enter Try.func8, Try.ntmps8
      go_wp2_with fail
      refine (cI _).mono ?_
      rintro e w1 ⟨rfl, rfl⟩
      go_wp2_with fail
      go_ret
      exact ⟨rfl, Below.refl _ _⟩

set_option maxHeartbeats 1000000 in
theorem fnExactCovers_walk (a : Option Addr) (len cap : Nat) (g : Nat → Int) (hl : len ≤ maxLen) (n : Int) (w : World) (h : Px a (len * 5) g w) :
    Calls Try.prog 3 #[.slice a len cap, .int .i64 n] w fun e w' => e = .returned (.bool true) ∧ Below w.heap.size w w' := by
  have hl' : (len : Int) ≤ 9223372036854775807 := by unfold maxLen at hl; omega
  have cZ := szSampleS_any a len cap 1048576 (by omega) (by omega) hl'
  clear hl
  by_cases hbig : (1048576 : Int) < len
  · rw [if_pos hbig] at cZ
    clear h hbig hl'
    go_enter Try.func3, Try.ntmps3
    go_wp2_with fail
    refine (cZ _).mono ?_
    rintro e w' ⟨rfl, rfl⟩
    go_wp2_with fail
    go_ret
    exact ⟨rfl, Below.refl _ _⟩
  rw [if_neg hbig] at cZ
  have hL : len ≤ 1048576 := by omega
  have hpos : ¬ (1048576 : Int) - len < 0 := by omega
  have HP : Hid (Px a (len * 5) g w) := h
  have cT := toSampleS_any a len cap g hL
  have cS := fun a' => specCovers_any a' len len g hL n
  have cI := fun a' => implCovers_any a' len len g hL n
  have cE := fun a1 a2 => eqSampleS_any a1 a2 len len len g hL
  clear h hbig hl'
  generalize coversB g len n = r at *
  have hrr : (r != r) = false := by simp
  go_enter Try.func3, Try.ntmps3
  go_wp2_with fail
  refine (cZ _).mono ?_
  rintro e w' ⟨rfl, rfl⟩
  clear cZ
  go_wp2_with fail
  refine (cT _ HP.out).mono ?_
  rintro e w1 ⟨rfl, hr, hb, hs⟩
  have HB1 := hide hb
  have pA := hr.px
  clear hr hb hs
  go_wp2_with fail
  refine (cS _ _ pA).mono ?_
  rintro e w2 ⟨rfl, hb⟩
  have HB2 := hide (bnext HB1.out (Nat.le_refl _) hb)
  clear hb HB1 pA cS
  go_wp2_with fail
  refine (cT _ (HP.out.below HB2.out)).mono ?_
  rintro e w3 ⟨rfl, hr, hb, hs⟩
  have HB3 := hide (bnext HB2.out (Nat.le_refl _) hb)
  have HR3 := hide hr
  have pA := hr.px
  clear hr hb HB2
  go_wp2_with fail
  refine (cI _ _ pA).mono ?_
  rintro e w4 ⟨rfl, hb⟩
  have HB4 := hide (bnext HB3.out (Nat.le_refl _) hb)
  have HR4 := hide (HR3.out.below hb hs)
  have hs4 := Nat.lt_of_lt_of_le hs hb.size
  clear hb HB3 HR3 pA cI hs
  go_wp2_with fail
  refine (cT _ (HP.out.below HB4.out)).mono ?_
  rintro e w5 ⟨rfl, hr, hb, hs⟩
  have HB5 := hide (bnext HB4.out (Nat.le_refl _) hb)
  have pA := (HR4.out.below hb hs4).px
  have pB := hr.px
  clear hr hb HB4 HR4 cT hs
  go_wp2_with fail
  refine (cE _ _ _ pA pB).mono ?_
  rintro e w6 ⟨rfl, hb⟩
  have HB6 := hide (bnext HB5.out (Nat.le_refl _) hb)
  clear hb HB5 pA pB cE
  go_wp2_with fail
  go_ret
  exact ⟨rfl, HB6.out⟩

end Go.Proofs.Ytjohlgemjkflhaa

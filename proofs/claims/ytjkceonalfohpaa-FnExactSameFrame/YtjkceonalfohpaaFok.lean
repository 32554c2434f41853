/- FrameOk and Handed: the program. -/
import Derived.Test.YtjkceonalfohpaaMpo
import Derived.Test.YtjkceonalfohpaaHnd
namespace Go.Proofs.Ytjkceonalfohpaa
open Go.RowKit Go.Lib

theorem alW_fvN (M T : Nat → Int) (lo hi : Int) : alW (fvN M T) lo hi 12 = (alW M lo hi 9 && alW T lo hi 3) := by
  show (((alW M lo hi 9 && inB (T 0) lo hi) && inB (T 1) lo hi) && inB (T 2) lo hi) = (alW M lo hi 9 && (((true && inB (T 0) lo hi) && inB (T 1) lo hi) && inB (T 2) lo hi))
  cases alW M lo hi 9 <;> cases inB (T 0) lo hi <;> cases inB (T 1) lo hi <;> cases inB (T 2) lo hi <;> rfl
theorem fvG_M (D : Int) (M T : Nat → Int) : ∀ i, i ≤ 9 → fvG D M T i = Nat.gcd D.toNat (cgcd M i)
  | 0, _ => by simp [fvG, cgcd]
  | i + 1, h => by
    have e : fvG D M T (i + 1) = Nat.gcd (fvG D M T i) (fvN M T i).natAbs := rfl
    have f : fvN M T i = M i := by unfold fvN; rw [if_pos (by omega)]
    rw [e, f, fvG_M D M T i (by omega), Nat.gcd_assoc]
    rfl
theorem fvG_T (D : Int) (M T : Nat → Int) : ∀ i, fvG D M T (9 + i) = Nat.gcd (fvG D M T 9) (cgcd T i)
  | 0 => by simp [cgcd]
  | i + 1 => by
    have e : fvG D M T (9 + (i + 1)) = Nat.gcd (fvG D M T (9 + i)) (fvN M T (9 + i)).natAbs := rfl
    have f : fvN M T (9 + i) = T i := by unfold fvN; rw [if_neg (by omega), Nat.add_sub_cancel_left]
    rw [e, f, fvG_T D M T i, Nat.gcd_assoc]
    rfl
theorem fvG_mdiv {D : Int} (h : 1 ≤ D) (M T : Nat → Int) : fvG D M T 12 = mdiv M T D := by
  have h1 := fvG_T D M T 3
  rw [fvG_M D M T 9 (by omega)] at h1
  have h2 : D.natAbs = D.toNat := by omega
  unfold mdiv
  rw [h2]
  refine h1.trans ?_
  rw [Nat.gcd_assoc, Nat.gcd_comm]
theorem sgn_ne (x : Int) : (sgn x != 0) = (x != 0) := by
  unfold sgn
  by_cases h1 : x < 0
  · rw [if_pos h1]
    have : x ≠ 0 := by omega
    simp [this]
  · rw [if_neg h1]
    by_cases h2 : x = 0
    · simp [h2]
    · simp [h2]
theorem frI_eq (D : Int) (n0 : Nat) (M : Nat → Int) (n1 : Nat) (T : Nat → Int) : frI D n0 M n1 T = frmB D n0 M n1 T := by
  unfold frI frmB len93 rightB limB
  rw [alW_fvN, sgn_ne]
  cases hD : inB D 1 1000000
  · cases decide (n0 = 9) <;> cases decide (n1 = 3) <;> cases alW M (-1000000) 1000000 9 <;> cases alW T (-1000000) 1000000 3 <;> rfl
  · have h1 : 1 ≤ D := by unfold inB at hD; simp at hD; omega
    rw [fvG_mdiv h1]
    cases decide (n0 = 9) <;> cases decide (n1 = 3) <;> cases alW M (-1000000) 1000000 9 <;> cases alW T (-1000000) 1000000 3 <;> rfl

set_option maxRecDepth 100000 in
set_option maxHeartbeats 4000000 in
theorem implFrameOk_any (D : Int) (a0 : Option Addr) (n0 c0 : Nat) (M : Nat → Int) (_hl0 : n0 ≤ 1048576) (a1 : Option Addr) (n1 c1 : Nat) (T : Nat → Int) (_hl1 : n1 ≤ 1048576) (w : World) (h0 : Px a0 n0 M w) (h1 : Px a1 n1 T w) :
    Calls Try.prog 39 #[vFrame D a0 n0 c0 a1 n1 c1] w fun e w' => e = .returned (.bool (frmB D n0 M n1 T)) ∧ Below w.heap.size w w' := by
  have HB0 := hide (bnew w (.cells #[.slice a0 n0 c0, .slice a1 n1 c1, .int .i64 D] 26))
  have c := mappingOf_any D a0 n0 c0 M a1 n1 c1 T _ (h0.below HB0.out) (h1.below HB0.out)
  rw [← frI_eq]
  unfold MpR mapV at c
  generalize frI D n0 M n1 T = rb at *
  clear h0 h1
  go_enter Try.func39, Try.ntmps39
  go_wp2_with fail
  refine c.mono ?_
  rintro e w1 ⟨rfl, hb⟩
  have HB := hide (bnext (bnext HB0.out (Nat.le_refl _) hb) (Nat.le_refl _) (bnew w1 (.cells #[.int .i64 (sel (len93 n0 n1) M 0), .int .i64 (sel (len93 n0 n1) M 1), .int .i64 (sel (len93 n0 n1) M 2), .int .i64 (sel (len93 n0 n1) M 3), .int .i64 (sel (len93 n0 n1) M 4), .int .i64 (sel (len93 n0 n1) M 5), .int .i64 (sel (len93 n0 n1) M 6), .int .i64 (sel (len93 n0 n1) M 7), .int .i64 (sel (len93 n0 n1) M 8), .int .i64 (sel (len93 n0 n1) T 0), .int .i64 (sel (len93 n0 n1) T 1), .int .i64 (sel (len93 n0 n1) T 2), .int .i64 (selD (len93 n0 n1) D)] 91)))
  clear hb c HB0
  go_wp2_with fail
  go_ret
  exact ⟨rfl, HB.out⟩

set_option maxRecDepth 100000 in
set_option maxHeartbeats 4000000 in
theorem implHanded_any (D : Int) (a0 : Option Addr) (n0 c0 : Nat) (M : Nat → Int) (_hl0 : n0 ≤ 1048576) (a1 : Option Addr) (n1 c1 : Nat) (T : Nat → Int) (_hl1 : n1 ≤ 1048576) (w : World) (h0 : Px a0 n0 M w) (h1 : Px a1 n1 T w) :
    Calls Try.prog 23 #[vFrame D a0 n0 c0 a1 n1 c1] w fun e w' => e = .returned (.int .i64 (hndV D n0 M n1 T)) ∧ Below w.heap.size w w' := by
  have HB0 := hide (bnew w (.cells #[.slice a0 n0 c0, .slice a1 n1 c1, .int .i64 D] 26))
  have c := mappingOf_any D a0 n0 c0 M a1 n1 c1 T _ (h0.below HB0.out) (h1.below HB0.out)
  unfold hndV
  rw [← frI_eq]
  unfold MpR at c
  clear h0 h1
  cases hf : frI D n0 M n1 T
  · rw [hf] at c
    rw [if_neg (by simp)]
    unfold mapV at c
    clear hf
    go_enter Try.func23, Try.ntmps23
    go_wp2_with fail
    refine c.mono ?_
    rintro e w1 ⟨rfl, hb⟩
    have HB := hide (bnext (bnext HB0.out (Nat.le_refl _) hb) (Nat.le_refl _) (bnew w1 (.cells #[.int .i64 (sel (len93 n0 n1) M 0), .int .i64 (sel (len93 n0 n1) M 1), .int .i64 (sel (len93 n0 n1) M 2), .int .i64 (sel (len93 n0 n1) M 3), .int .i64 (sel (len93 n0 n1) M 4), .int .i64 (sel (len93 n0 n1) M 5), .int .i64 (sel (len93 n0 n1) M 6), .int .i64 (sel (len93 n0 n1) M 7), .int .i64 (sel (len93 n0 n1) M 8), .int .i64 (sel (len93 n0 n1) T 0), .int .i64 (sel (len93 n0 n1) T 1), .int .i64 (sel (len93 n0 n1) T 2), .int .i64 (selD (len93 n0 n1) D)] 91)))
    clear hb c HB0
    go_wp2_with fail
    go_ret
    exact ⟨rfl, HB.out⟩
  · have hl : len93 n0 n1 = true := by unfold frI at hf; simp only [Bool.and_eq_true] at hf; exact hf.1
    have hp := frmB_parts ((frI_eq D n0 M n1 T).symm.trans hf)
    rw [hf, hl, mapV_yes] at c
    rw [if_pos rfl]
    have bM := hp.2.2.2.1
    have cD := determinant_any M bM
    have cS := wideSign_any (det9 M) (det9_bd bM)
    have hs : (if det9 M < 0 then (-1 : Int) else 1) = sgn (det9 M) := by
      unfold sgn
      rw [if_neg hp.2.2.2.2.2.2]
    rw [hs]
    unfold mapV at c
    unfold wd at cD cS
    unfold mat9 at cD
    clear hf hl hp bM hs
    generalize det9 M / 18446744073709551616 = G at *
    generalize det9 M % 18446744073709551616 = L at *
    generalize sgn (det9 M) = sg at *
    go_enter Try.func23, Try.ntmps23
    go_wp2_with fail
    refine c.mono ?_
    rintro e w1 ⟨rfl, hb⟩
    have HB := hide (bnext (bnext HB0.out (Nat.le_refl _) hb) (Nat.le_refl _) (bnew w1 (.cells #[.int .i64 (M 0), .int .i64 (M 1), .int .i64 (M 2), .int .i64 (M 3), .int .i64 (M 4), .int .i64 (M 5), .int .i64 (M 6), .int .i64 (M 7), .int .i64 (M 8), .int .i64 (T 0), .int .i64 (T 1), .int .i64 (T 2), .int .i64 D] 91)))
    clear hb c HB0
    go_wp2_with fail
    refine (cD _).mono ?_
    rintro e w2 ⟨rfl, hb⟩
    have HB2 := hide (bnext HB.out (Nat.le_refl _) hb)
    clear hb cD HB
    go_wp2_with fail
    refine (cS _).mono ?_
    rintro e w3 ⟨rfl, hb⟩
    have HB3 := hide (bnext HB2.out (Nat.le_refl _) hb)
    clear hb cS HB2
    go_wp2_with fail
    go_ret
    exact ⟨rfl, HB3.out⟩

end Go.Proofs.Ytjkceonalfohpaa

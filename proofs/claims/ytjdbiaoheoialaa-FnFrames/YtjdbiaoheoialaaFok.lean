/- FrameOk and Handed: the program. -/
import Derived.Test.YtjdbiaoheoialaaHom
import Derived.Test.YtjdbiaoheoialaaFrO
import Derived.Test.YtjdbiaoheoialaaFrq
namespace Go.Proofs.Ytjdbiaoheoialaa
open Go.RowKit

abbrev vVolume (x0 x1 x2 : Int) (a0 : Option Addr) (n0 c0 : Nat) : Value := .agg #[.int .i64 x0, .int .i64 x1, .int .i64 x2, .slice a0 n0 c0]
theorem St.im4 {w0 : World} {L : List BoxT} {O : List OwnT} {w : World} (h : St w0 L O w) (i : Nat) {b : Nat} {v0 v1 v2 v3 : Value} (hm : L[i]? = some (b, [v0, v1, v2, v3])) :
    w.cell? ⟨b, 0, none⟩ = some v0 ∧ w.cell? ⟨b, 1, none⟩ = some v1 ∧ w.cell? ⟨b, 2, none⟩ = some v2 ∧ w.cell? ⟨b, 3, none⟩ = some v3 := ⟨h.cell i hm 0 rfl, h.cell i hm 1 rfl, h.cell i hm 2 rfl, h.cell i hm 3 rfl⟩
theorem St.fr4 {w0 : World} {L : List BoxT} {O : List OwnT} {w : World} (h : St w0 L O w) (i : Nat) {b : Nat} {v0 v1 v2 v3 : Value} (hm : L[i]? = some (b, [v0, v1, v2, v3])) :
    w.frozen? ⟨b, 0, none⟩ = false ∧ w.frozen? ⟨b, 1, none⟩ = false ∧ w.frozen? ⟨b, 2, none⟩ = false ∧ w.frozen? ⟨b, 3, none⟩ = false := ⟨h.free i hm 0 rfl, h.free i hm 1 rfl, h.free i hm 2 rfl, h.free i hm 3 rfl⟩

theorem frmB_prt {D : Int} {n0 : Nat} {M : Nat → Int} {n1 : Nat} {T : Nat → Int} (h : frmB D n0 M n1 T = true) :
    n0 = 9 ∧ n1 = 3 ∧ (1 ≤ D ∧ D ≤ 1000000) ∧ (∀ i, i < 9 → -1000000 ≤ M i ∧ M i ≤ 1000000) ∧ (∀ i, i < 3 → -1000000 ≤ T i ∧ T i ≤ 1000000) ∧ fvG D M T 12 = 1 ∧ det9 M ≠ 0 := by
  unfold frmB at h
  simp only [Bool.and_eq_true, decide_eq_true_eq, beq_iff_eq, bne_iff_ne, ne_eq] at h
  obtain ⟨h1, h2, h3, h4, h5, h6⟩ := h
  refine ⟨h1, h2, ?_, fun i hi => ?_, fun i hi => ?_, by omega, h6⟩
  · unfold inB at h3; simpa using h3
  · have := alW_at h4 (show i < 12 by omega)
    unfold fvN at this
    rw [if_pos hi] at this
    unfold inB at this
    simpa using this
  · have := alW_at h4 (show i + 9 < 12 by omega)
    unfold fvN at this
    rw [if_neg (by omega), Nat.add_sub_cancel] at this
    unfold inB at this
    simpa using this

/-- the hand of a frame -/
def hndV (D : Int) (n0 : Nat) (M : Nat → Int) (n1 : Nat) (T : Nat → Int) : Int := if frmB D n0 M n1 T = true then (if det9 M < 0 then -1 else 1) else 0

set_option maxRecDepth 100000 in
set_option maxHeartbeats 2000000 in
theorem specHanded_any (D : Int) (a0 : Option Addr) (n0 c0 : Nat) (M : Nat → Int) (hl0 : n0 ≤ 1048576) (a1 : Option Addr) (n1 c1 : Nat) (T : Nat → Int) (hl1 : n1 ≤ 1048576) (w : World) (h0 : Px a0 n0 M w) (h1 : Px a1 n1 T w) :
    Calls Try.prog 10 #[vFrame D a0 n0 c0 a1 n1 c1] w fun e w' => e = .returned (.int .i64 (hndV D n0 M n1 T)) ∧ Below w.heap.size w w' := by
  have HS0 := hide ((St.start w).box [.slice a0 n0 c0, .slice a1 n1 c1, .int .i64 D] 26)
  generalize hA : w.alloc (.cells [.slice a0 n0 c0, .slice a1 n1 c1, .int .i64 D].toArray 26) = wA at HS0
  have hA' : w.alloc (.cells #[.slice a0 n0 c0, .slice a1 n1 c1, .int .i64 D] 26) = wA := hA
  obtain ⟨i0, i1, i2⟩ := HS0.out.im3 0 rfl
  have c := specFrameOk_any D a0 n0 c0 M hl0 a1 n1 c1 T hl1 wA (h0.below HS0.out.below) (h1.below HS0.out.below)
  have HP0 := hide h0
  clear hA h0 h1
  unfold hndV
  cases hf : frmB D n0 M n1 T
  · rw [if_neg (by simp)]
    rw [hf] at c
    clear hf HP0
    go_enter Try.func10, Try.ntmps10
    go_wp2_with fail
    refine c.mono ?_
    rintro e w1 ⟨rfl, hb⟩
    have HB := hide (HS0.out.next hb).below
    clear c hb HS0 hA'
    go_wp2_with fail
    go_ret
    exact ⟨rfl, HB.out⟩
  · rw [if_pos rfl]
    have q1 := (frmB_prt hf).1
    have q4 := (frmB_prt hf).2.2.2.1
    subst q1
    have cT := fun w' h => l7Det_any a0 c0 M q4 w' h
    rw [hf] at c
    clear hf q4
    generalize det9 M = DT at *
    by_cases hD : DT < 0
    · rw [if_pos hD]
      go_enter Try.func10, Try.ntmps10
      go_wp2_with fail
      refine c.mono ?_
      rintro e w1 ⟨rfl, hb⟩
      have HS1 := hide (HS0.out.next hb)
      clear c hb HS0 hA' i0 i1 i2
      obtain ⟨i0, i1, i2⟩ := HS1.out.im3 0 rfl
      go_wp2_with fail
      refine (cT _ (HP0.out.below HS1.out.below)).mono ?_
      rintro e w2 ⟨rfl, hb⟩
      have HB := hide (HS1.out.next hb).below
      clear hb HS1 cT
      go_wp2_with fail
      go_ret
      exact ⟨rfl, HB.out⟩
    · rw [if_neg hD]
      go_enter Try.func10, Try.ntmps10
      go_wp2_with fail
      refine c.mono ?_
      rintro e w1 ⟨rfl, hb⟩
      have HS1 := hide (HS0.out.next hb)
      clear c hb HS0 hA' i0 i1 i2
      obtain ⟨i0, i1, i2⟩ := HS1.out.im3 0 rfl
      go_wp2_with fail
      refine (cT _ (HP0.out.below HS1.out.below)).mono ?_
      rintro e w2 ⟨rfl, hb⟩
      have HB := hide (HS1.out.next hb).below
      clear hb HS1 cT
      go_wp2_with fail
      go_ret
      exact ⟨rfl, HB.out⟩

end Go.Proofs.Ytjdbiaoheoialaa

namespace Go.Proofs.Ytjdbiaoheoialaa
open Go.RowKit Go.Lib

set_option maxRecDepth 100000 in
set_option maxHeartbeats 4000000 in
theorem implHanded_any (D : Int) (a0 : Option Addr) (n0 c0 : Nat) (M : Nat → Int) (_hl0 : n0 ≤ 1048576) (a1 : Option Addr) (n1 c1 : Nat) (T : Nat → Int) (_hl1 : n1 ≤ 1048576) (w : World) (h0 : Px a0 n0 M w) (h1 : Px a1 n1 T w) :
    Calls Try.prog 9 #[vFrame D a0 n0 c0 a1 n1 c1] w fun e w' => e = .returned (.int .i64 (hndV D n0 M n1 T)) ∧ Below w.heap.size w w' := by
  have HB0 := hide (bnew w (.cells #[.slice a0 n0 c0, .slice a1 n1 c1, .int .i64 D] 26))
  have c := mappingOf_any D a0 n0 c0 M a1 n1 c1 T _ (h0.below HB0.out) (h1.below HB0.out)
  unfold hndV
  rw [← frI_eq]
  unfold MpR at c
  clear h0 h1
  cases hf : frI D n0 M n1 T
  · rw [hf] at c
    rw [if_neg (by simp)]
    unfold mapV at c
    clear hf
    go_enter Try.func9, Try.ntmps9
    go_wp2_with fail
    refine c.mono ?_
    rintro e w1 ⟨rfl, hb⟩
    have HB := hide (bnext (bnext HB0.out (Nat.le_refl _) hb) (Nat.le_refl _) (bnew w1 (.cells #[.int .i64 (sel (len93 n0 n1) M 0), .int .i64 (sel (len93 n0 n1) M 1), .int .i64 (sel (len93 n0 n1) M 2), .int .i64 (sel (len93 n0 n1) M 3), .int .i64 (sel (len93 n0 n1) M 4), .int .i64 (sel (len93 n0 n1) M 5), .int .i64 (sel (len93 n0 n1) M 6), .int .i64 (sel (len93 n0 n1) M 7), .int .i64 (sel (len93 n0 n1) M 8), .int .i64 (sel (len93 n0 n1) T 0), .int .i64 (sel (len93 n0 n1) T 1), .int .i64 (sel (len93 n0 n1) T 2), .int .i64 (selD (len93 n0 n1) D)] 48)))
    clear hb c HB0
    go_wp2_with fail
    go_ret
    exact ⟨rfl, HB.out⟩
  · have hl : len93 n0 n1 = true := by unfold frI at hf; simp only [Bool.and_eq_true] at hf; exact hf.1
    have hp := frmB_prt ((frI_eq D n0 M n1 T).symm.trans hf)
    rw [hf, hl, mapV_yes] at c
    rw [if_pos rfl]
    have bM := hp.2.2.2.1
    have cD := determinant_any M bM
    have cS := wideSign_any (det9 M) (det9_bd bM)
    have hs : (if det9 M < 0 then (-1 : Int) else 1) = sgn (det9 M) := by
      unfold sgn
      rw [if_neg hp.2.2.2.2.2.2]
    rw [hs]
    unfold mapV at c
    unfold wd at cD cS
    unfold mat9 at cD
    clear hf hl hp bM hs
    generalize det9 M / 18446744073709551616 = G at *
    generalize det9 M % 18446744073709551616 = L at *
    generalize sgn (det9 M) = sg at *
    go_enter Try.func9, Try.ntmps9
    go_wp2_with fail
    refine c.mono ?_
    rintro e w1 ⟨rfl, hb⟩
    have HB := hide (bnext (bnext HB0.out (Nat.le_refl _) hb) (Nat.le_refl _) (bnew w1 (.cells #[.int .i64 (M 0), .int .i64 (M 1), .int .i64 (M 2), .int .i64 (M 3), .int .i64 (M 4), .int .i64 (M 5), .int .i64 (M 6), .int .i64 (M 7), .int .i64 (M 8), .int .i64 (T 0), .int .i64 (T 1), .int .i64 (T 2), .int .i64 D] 48)))
    clear hb c HB0
    go_wp2_with fail
    refine (cD _).mono ?_
    rintro e w2 ⟨rfl, hb⟩
    have HB2 := hide (bnext HB.out (Nat.le_refl _) hb)
    clear hb cD HB
    go_wp2_with fail
    refine (cS _).mono ?_
    rintro e w3 ⟨rfl, hb⟩
    have HB3 := hide (bnext HB2.out (Nat.le_refl _) hb)
    clear hb cS HB2
    go_wp2_with fail
    go_ret
    exact ⟨rfl, HB3.out⟩

end Go.Proofs.Ytjdbiaoheoialaa

/- Hands of frames, and when a volume is right: the specification. -/
import Derived.Test.YtjkceonalfohpaaFrO
import Derived.Test.YtjkceonalfohpaaRVol
namespace Go.Proofs.Ytjkceonalfohpaa
open Go.RowKit

theorem frmB_parts {D : Int} {n0 : Nat} {M : Nat → Int} {n1 : Nat} {T : Nat → Int} (h : frmB D n0 M n1 T = true) :
    n0 = 9 ∧ n1 = 3 ∧ (1 ≤ D ∧ D ≤ 1000000) ∧ (∀ i, i < 9 → -1000000 ≤ M i ∧ M i ≤ 1000000) ∧ (∀ i, i < 3 → -1000000 ≤ T i ∧ T i ≤ 1000000) ∧ fvG D M T 12 = 1 ∧ det9 M ≠ 0 := by
  unfold frmB at h
  simp only [Bool.and_eq_true, decide_eq_true_eq, beq_iff_eq, bne_iff_ne, ne_eq] at h
  obtain ⟨h1, h2, h3, h4, h5, h6⟩ := h
  refine ⟨h1, h2, ?_, fun i hi => ?_, fun i hi => ?_, by omega, h6⟩
  · unfold inB at h3; simpa using h3
  · have := alW_at h4 (show i < 12 by omega)
    unfold fvN at this
    rw [if_pos hi] at this
    unfold inB at this
    simpa using this
  · have := alW_at h4 (show i + 9 < 12 by omega)
    unfold fvN at this
    rw [if_neg (by omega), Nat.add_sub_cancel] at this
    unfold inB at this
    simpa using this

/-- the hand of a frame -/
def hndV (D : Int) (n0 : Nat) (M : Nat → Int) (n1 : Nat) (T : Nat → Int) : Int := if frmB D n0 M n1 T = true then (if det9 M < 0 then -1 else 1) else 0

set_option maxRecDepth 100000 in
set_option maxHeartbeats 2000000 in
theorem specHanded_any (D : Int) (a0 : Option Addr) (n0 c0 : Nat) (M : Nat → Int) (hl0 : n0 ≤ 1048576) (a1 : Option Addr) (n1 c1 : Nat) (T : Nat → Int) (hl1 : n1 ≤ 1048576) (w : World) (h0 : Px a0 n0 M w) (h1 : Px a1 n1 T w) :
    Calls Try.prog 24 #[vFrame D a0 n0 c0 a1 n1 c1] w fun e w' => e = .returned (.int .i64 (hndV D n0 M n1 T)) ∧ Below w.heap.size w w' := by
  have HS0 := hide ((St.start w).box [.slice a0 n0 c0, .slice a1 n1 c1, .int .i64 D] 26)
  generalize hA : w.alloc (.cells [.slice a0 n0 c0, .slice a1 n1 c1, .int .i64 D].toArray 26) = wA at HS0
  have hA' : w.alloc (.cells #[.slice a0 n0 c0, .slice a1 n1 c1, .int .i64 D] 26) = wA := hA
  obtain ⟨i0, i1, i2⟩ := HS0.out.im3 0 rfl
  have c := specFrameOk_any D a0 n0 c0 M hl0 a1 n1 c1 T hl1 wA (h0.below HS0.out.below) (h1.below HS0.out.below)
  have HP0 := hide h0
  clear hA h0 h1
  unfold hndV
  cases hf : frmB D n0 M n1 T
  · rw [if_neg (by simp)]
    rw [hf] at c
    clear hf HP0
    go_enter Try.func24, Try.ntmps24
    go_wp2_with fail
    refine c.mono ?_
    rintro e w1 ⟨rfl, hb⟩
    have HB := hide (HS0.out.next hb).below
    clear c hb HS0 hA'
    go_wp2_with fail
    go_ret
    exact ⟨rfl, HB.out⟩
  · rw [if_pos rfl]
    have q1 := (frmB_parts hf).1
    have q4 := (frmB_parts hf).2.2.2.1
    subst q1
    have cT := fun w' h => l7Det_any a0 c0 M q4 w' h
    rw [hf] at c
    clear hf q4
    generalize det9 M = DT at *
    by_cases hD : DT < 0
    · rw [if_pos hD]
      go_enter Try.func24, Try.ntmps24
      go_wp2_with fail
      refine c.mono ?_
      rintro e w1 ⟨rfl, hb⟩
      have HS1 := hide (HS0.out.next hb)
      clear c hb HS0 hA' i0 i1 i2
      obtain ⟨i0, i1, i2⟩ := HS1.out.im3 0 rfl
      go_wp2_with fail
      refine (cT _ (HP0.out.below HS1.out.below)).mono ?_
      rintro e w2 ⟨rfl, hb⟩
      have HB := hide (HS1.out.next hb).below
      clear hb HS1 cT
      go_wp2_with fail
      go_ret
      exact ⟨rfl, HB.out⟩
    · rw [if_neg hD]
      go_enter Try.func24, Try.ntmps24
      go_wp2_with fail
      refine c.mono ?_
      rintro e w1 ⟨rfl, hb⟩
      have HS1 := hide (HS0.out.next hb)
      clear c hb HS0 hA' i0 i1 i2
      obtain ⟨i0, i1, i2⟩ := HS1.out.im3 0 rfl
      go_wp2_with fail
      refine (cT _ (HP0.out.below HS1.out.below)).mono ?_
      rintro e w2 ⟨rfl, hb⟩
      have HB := hide (HS1.out.next hb).below
      clear hb HS1 cT
      go_wp2_with fail
      go_ret
      exact ⟨rfl, HB.out⟩

end Go.Proofs.Ytjkceonalfohpaa

/- When a volume is right: the program. -/
import Derived.Test.YtpbeogepgjbacaaVlO
namespace Go.Proofs.Ytpbeogepgjbacaa
open Go.RowKit

def edgB (X Y Z : Int) : Bool := inB X 1 32 && (inB Y 1 32 && inB Z 1 32)
set_option maxRecDepth 100000 in
theorem areEdges_any (X Y Z : Int) (w : World) : Calls Try.prog 31 #[.int .i64 X, .int .i64 Y, .int .i64 Z] w fun e w' => e = .returned (.bool (edgB X Y Z)) ∧ w' = w := by
  have cX := within_any X 1 32
  have cY := within_any Y 1 32
  have cZ := within_any Z 1 32
  unfold edgB
  cases hX : inB X 1 32
  · rw [hX] at cX
    clear hX cY cZ
    go_enter Try.func31, Try.ntmps31
    go_wp2_with fail
    refine (cX _).mono ?_
    rintro e w1 ⟨rfl, rfl⟩
    go_wp2_with fail
    go_ret
    exact ⟨rfl, rfl⟩
  cases hY : inB Y 1 32
  · rw [hX] at cX
    rw [hY] at cY
    clear hX hY cZ
    go_enter Try.func31, Try.ntmps31
    go_wp2_with fail
    refine (cX _).mono ?_
    rintro e w1 ⟨rfl, rfl⟩
    go_wp2_with fail
    refine (cY _).mono ?_
    rintro e w1 ⟨rfl, rfl⟩
    go_wp2_with fail
    go_ret
    exact ⟨rfl, rfl⟩
  · rw [hX] at cX
    rw [hY] at cY
    clear hX hY
    generalize inB Z 1 32 = q at *
    go_enter Try.func31, Try.ntmps31
    go_wp2_with fail
    refine (cX _).mono ?_
    rintro e w1 ⟨rfl, rfl⟩
    go_wp2_with fail
    refine (cY _).mono ?_
    rintro e w1 ⟨rfl, rfl⟩
    go_wp2_with fail
    refine (cZ _).mono ?_
    rintro e w1 ⟨rfl, rfl⟩
    go_wp2_with fail
    go_ret
    exact ⟨by simp, rfl⟩
theorem edgB_parts {X Y Z : Int} (h : edgB X Y Z = true) : (1 ≤ X ∧ X ≤ 32) ∧ (1 ≤ Y ∧ Y ≤ 32) ∧ (1 ≤ Z ∧ Z ≤ 32) := by
  unfold edgB inB at h
  simp only [Bool.and_eq_true, decide_eq_true_eq] at h
  exact ⟨h.1, h.2.1, h.2.2⟩
theorem mul32 {x y A : Int} (h1 : 1 ≤ x) (h2 : x ≤ A) (h3 : 1 ≤ y) (h4 : y ≤ 32) : 1 ≤ x * y ∧ x * y ≤ A * 32 := by
  refine ⟨?_, ?_⟩
  · have := Int.mul_le_mul h1 h3 (by omega) (by omega); omega
  · exact Int.mul_le_mul h2 h4 (by omega) (by omega)
theorem edg_mul {X Y Z : Int} (h : edgB X Y Z = true) : 1 ≤ X * Y ∧ X * Y ≤ 1024 ∧ 1 ≤ X * Y * Z ∧ X * Y * Z ≤ 32768 := by
  obtain ⟨hX, hY, hZ⟩ := edgB_parts h
  have h1 := mul32 hX.1 hX.2 hY.1 hY.2
  have h2 := mul32 h1.1 h1.2 hZ.1 hZ.2
  omega
theorem volB_edg (X Y Z : Int) (n : Nat) (f : Nat → Int) : volB X Y Z n f = (edgB X Y Z && (decide ((n : Int) = X * Y * Z) && alW f (-4095) 4095 n)) := by
  unfold volB edgB
  cases inB X 1 32 <;> cases inB Y 1 32 <;> cases inB Z 1 32 <;> rfl

set_option maxRecDepth 100000 in
set_option maxHeartbeats 2000000 in
theorem implVolumeOk_any (X Y Z : Int) (a : Option Addr) (n cap : Nat) (f : Nat → Int) (hl : n ≤ 1048576) (w : World) (h : Px a n f w) :
    Calls Try.prog 30 #[vVolume X Y Z a n cap] w fun e w' => e = .returned (.bool (volB X Y Z n f)) ∧ Below w.heap.size w w' := by
  rw [volB_edg]
  have HS0 := hide ((St.start w).box [.int .i64 X, .int .i64 Y, .int .i64 Z, .slice a n cap] 29)
  have HP0 := hide (h.below HS0.out.below)
  have HB0 := hide HS0.out.below
  have cE := areEdges_any X Y Z
  have cA := fun w' h => allWithin_any (-4095) 4095 a n cap f hl w' h
  obtain ⟨i0, i1, i2, i3⟩ := HS0.out.im4 0 rfl
  clear h
  cases hE : edgB X Y Z
  · rw [hE] at cE
    clear hE HP0 HS0 cA
    go_enter Try.func30, Try.ntmps30
    go_wp2_with fail
    refine (cE _).mono ?_
    rintro e w1 ⟨rfl, rfl⟩
    go_wp2_with fail
    go_ret
    exact ⟨rfl, HB0.out⟩
  have hb := edg_mul hE
  obtain ⟨P1, hP1⟩ : ∃ P, P = X * Y := ⟨_, rfl⟩
  obtain ⟨P2, hP2⟩ : ∃ P, P = P1 * Z := ⟨_, rfl⟩
  have w1 : IntKind.i64.wrap (X * Y) = P1 := by rw [IntKind.wrap_i64]; omega
  have w2 : IntKind.i64.wrap (P1 * Z) = P2 := by rw [IntKind.wrap_i64, ← hP2]; rw [← hP1, ← hP2] at hb; omega
  rw [← hP1, ← hP2]
  rw [hE] at cE
  clear hE hb hP1 hP2
  by_cases hd : (n : Int) = P2
  · rw [decide_eq_true hd]
    have hq : ((n : Int) == P2) = true := beq_iff_eq.2 hd
    have HD := hide hd
    clear hd
    generalize alW f (-4095) 4095 n = V at *
    go_enter Try.func30, Try.ntmps30
    go_wp2_with fail
    refine (cE _).mono ?_
    rintro e w1 ⟨rfl, rfl⟩
    go_wp2_with fail
    refine (cA _ HP0.out).mono ?_
    rintro e w1 ⟨rfl, rfl⟩
    go_wp2_with fail
    go_ret
    exact ⟨by simp, HB0.out⟩
  · rw [decide_eq_false hd]
    have hq : ((n : Int) == P2) = false := beq_eq_false_iff_ne.2 hd
    clear hd
    go_enter Try.func30, Try.ntmps30
    go_wp2_with fail
    refine (cE _).mono ?_
    rintro e w1 ⟨rfl, rfl⟩
    go_wp2_with fail
    go_ret
    exact ⟨by simp, HB0.out⟩

end Go.Proofs.Ytpbeogepgjbacaa

/- When a volume is right: the specification. -/
import Derived.Test.YtpbeogepgjbacaaRVol
namespace Go.Proofs.Ytpbeogepgjbacaa
open Go.RowKit

/-- is it a right volume -/
def volB (X Y Z : Int) (n : Nat) (f : Nat → Int) : Bool := inB X 1 32 && (inB Y 1 32 && (inB Z 1 32 && (decide ((n : Int) = X * Y * Z) && alW f (-4095) 4095 n)))

set_option maxRecDepth 100000 in
set_option maxHeartbeats 2000000 in
theorem specVolumeOk_any (X Y Z : Int) (a : Option Addr) (n cap : Nat) (f : Nat → Int) (hl : n ≤ 1048576) (w : World) (h : Px a n f w) :
    Calls Try.prog 22 #[vVolume X Y Z a n cap] w fun e w' => e = .returned (.bool (volB X Y Z n f)) ∧ Below w.heap.size w w' := by
  have HS0 := hide ((St.start w).box [.int .i64 X, .int .i64 Y, .int .i64 Z, .slice a n cap] 29)
  generalize hA : w.alloc (.cells [.int .i64 X, .int .i64 Y, .int .i64 Z, .slice a n cap].toArray 29) = wA at HS0
  have hA' : w.alloc (.cells #[.int .i64 X, .int .i64 Y, .int .i64 Z, .slice a n cap] 29) = wA := hA
  obtain ⟨i0, i1, i2, i3⟩ := HS0.out.im4 0 rfl
  have HP := hide h
  have HB := hide HS0.out.below
  clear hA h HS0
  obtain ⟨R, hR⟩ : ∃ R, R = volB X Y Z n f := ⟨_, rfl⟩
  rw [← hR]
  have HR := hide hR
  clear hR
  unfold volB at HR
  have cX := l1In_any X 1 32
  have cY := l1In_any Y 1 32
  have cZ := l1In_any Z 1 32
  cases hX : inB X 1 32
  · have HF : Hid (R = false) := by show R = false; rw [HR.out, hX]; rfl
    rw [hX] at cX
    clear HR hX HP cY cZ
    go_enter Try.func22, Try.ntmps22
    go_wp2_with fail
    refine (cX _).mono ?_
    rintro e w1 ⟨rfl, rfl⟩
    go_wp2_with fail
    go_ret
    exact ⟨by rw [HF.out]; rfl, HB.out⟩
  cases hY : inB Y 1 32
  · have HF : Hid (R = false) := by show R = false; rw [HR.out, hY]; simp
    rw [hX] at cX
    rw [hY] at cY
    clear HR hX hY HP cZ
    go_enter Try.func22, Try.ntmps22
    go_wp2_with fail
    refine (cX _).mono ?_
    rintro e w1 ⟨rfl, rfl⟩
    go_wp2_with fail
    refine (cY _).mono ?_
    rintro e w1 ⟨rfl, rfl⟩
    go_wp2_with fail
    go_ret
    exact ⟨by rw [HF.out]; rfl, HB.out⟩
  cases hZ : inB Z 1 32
  · have HF : Hid (R = false) := by show R = false; rw [HR.out, hZ]; simp
    rw [hX] at cX
    rw [hY] at cY
    rw [hZ] at cZ
    clear HR hX hY hZ HP
    go_enter Try.func22, Try.ntmps22
    go_wp2_with fail
    refine (cX _).mono ?_
    rintro e w1 ⟨rfl, rfl⟩
    go_wp2_with fail
    refine (cY _).mono ?_
    rintro e w1 ⟨rfl, rfl⟩
    go_wp2_with fail
    refine (cZ _).mono ?_
    rintro e w1 ⟨rfl, rfl⟩
    go_wp2_with fail
    go_ret
    exact ⟨by rw [HF.out]; rfl, HB.out⟩
  have bX : 1 ≤ X ∧ X ≤ 32 := by unfold inB at hX; simpa using hX
  have bY : 1 ≤ Y ∧ Y ≤ 32 := by unfold inB at hY; simpa using hY
  have bZ : 1 ≤ Z ∧ Z ≤ 32 := by unfold inB at hZ; simpa using hZ
  have p1 : X * Y ≤ 32 * 32 := Int.mul_le_mul bX.2 bY.2 (by omega) (by omega)
  have p0 : 0 ≤ X * Y := Int.mul_nonneg (by omega) (by omega)
  have p2 : X * Y * Z ≤ 1024 * 32 := Int.mul_le_mul (by omega) bZ.2 (by omega) (by omega)
  have p3 : 0 ≤ X * Y * Z := Int.mul_nonneg p0 (by omega)
  have wXY : IntKind.i64.wrap (X * Y) = X * Y := by rw [IntKind.wrap_i64]; omega
  have wXYZ : IntKind.i64.wrap (X * Y * Z) = X * Y * Z := by rw [IntKind.wrap_i64]; omega
  have HRR : Hid (R = (decide ((n : Int) = X * Y * Z) && alW f (-4095) 4095 n)) := by show R = _; rw [HR.out, hX, hY, hZ]; rfl
  rw [hX] at cX
  rw [hY] at cY
  rw [hZ] at cZ
  clear HR hX hY hZ bX bY bZ p0 p1 p2 p3
  by_cases hn : (n : Int) = X * Y * Z
  · have hq : ((n : Int) != X * Y * Z) = false := by simp [hn]
    have HR2 : Hid (R = alW f (-4095) 4095 n) := by show R = _; rw [HRR.out, decide_eq_true hn]; rfl
    clear HRR hn
    go_enter Try.func22, Try.ntmps22
    go_wp2_with fail
    refine (cX _).mono ?_
    rintro e w1 ⟨rfl, rfl⟩
    go_wp2_with fail
    refine (cY _).mono ?_
    rintro e w1 ⟨rfl, rfl⟩
    go_wp2_with fail
    refine (cZ _).mono ?_
    rintro e w1 ⟨rfl, rfl⟩
    clear cX cY cZ
    go_wp2_with fail
    clear hq wXY wXYZ hA'
    go_loop [3] (fun i => ∃ k : Nat, k ≤ n ∧ i = .int .i64 k ∧ alW f (-4095) 4095 k = true) (fun i => n - (intOf i).toNat)
    case atStart => exact ⟨0, by omega, rfl, rfl⟩
    case round =>
      obtain ⟨k, hk, rfl, ha⟩ := hrel
      by_cases hlt : k < n
      · obtain ⟨b, off, rfl, hz⟩ := (HP.out.below HB.out).at hlt
        have hcall := l1In_any (f k) (-4095) 4095
        clear HP
        cases hi' : inB (f k) (-4095) 4095
        · have HF : Hid (R = false) := by show R = false; rw [HR2.out]; exact alW_false hlt hi'
          rw [hi'] at hcall
          clear ha hi' HR2
          go_wp2_with fail
          refine (hcall _).mono ?_
          rintro e w' ⟨rfl, rfl⟩
          go_wp2_with fail
          go_ret
          exact ⟨by rw [HF.out]; rfl, HB.out⟩
        · have HF : Hid (alW f (-4095) 4095 (k + 1) = true) := alW_step ha hi'
          rw [hi'] at hcall
          clear ha hi' HR2
          go_wp2_with fail
          refine (hcall _).mono ?_
          rintro e w' ⟨rfl, rfl⟩
          go_wp2_with fail
          exact ⟨⟨k + 1, by omega, rfl, HF.out⟩, by simp [intOf]; omega⟩
      · obtain rfl : k = n := by omega
        have HF : Hid (R = true) := by show R = true; rw [HR2.out]; exact ha
        clear ha HP HR2
        go_wp2
        go_ret
        exact ⟨by rw [HF.out]; rfl, HB.out⟩
  · have hq : ((n : Int) != X * Y * Z) = true := by simp [hn]
    have HF : Hid (R = false) := by show R = false; rw [HRR.out, decide_eq_false hn]; rfl
    clear HRR hn HP
    go_enter Try.func22, Try.ntmps22
    go_wp2_with fail
    refine (cX _).mono ?_
    rintro e w1 ⟨rfl, rfl⟩
    go_wp2_with fail
    refine (cY _).mono ?_
    rintro e w1 ⟨rfl, rfl⟩
    go_wp2_with fail
    refine (cZ _).mono ?_
    rintro e w1 ⟨rfl, rfl⟩
    go_wp2_with fail
    go_ret
    exact ⟨by rw [HF.out]; rfl, HB.out⟩

end Go.Proofs.Ytpbeogepgjbacaa

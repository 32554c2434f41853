/- Brightest, the program. -/
import Derived.Test.YtpbeogepgjbacaaBri
import Derived.Test.YtpbeogepgjbacaaMbx
import Derived.Test.YtpbeogepgjbacaaVli
namespace Go.Proofs.Ytpbeogepgjbacaa
open Go.RowKit

theorem volB_parts {X Y Z : Int} {n : Nat} {f : Nat → Int} (h : volB X Y Z n f = true) : (1 ≤ X ∧ X ≤ 32) ∧ (1 ≤ Y ∧ Y ≤ 32) ∧ (1 ≤ Z ∧ Z ≤ 32) ∧ (n : Int) = X * Y * Z ∧ n ≤ 32768 := by
  unfold volB inB at h
  simp only [Bool.and_eq_true, decide_eq_true_eq] at h
  obtain ⟨hX, hY, hZ, hn, _⟩ := h
  refine ⟨hX, hY, hZ, hn, ?_⟩
  have h1 : X * Y ≤ 32 * 32 := Int.mul_le_mul hX.2 hY.2 (by omega) (by omega)
  have h0 : 0 ≤ X * Y := Int.mul_nonneg (by omega) (by omega)
  have h2 : X * Y * Z ≤ 1024 * 32 := Int.mul_le_mul h1 hZ.2 (by omega) (by omega)
  omega
/-- the picture of a right volume -/
def brQ (x y z : Nat) (f : Nat → Int) (ax : Int) : Nat × Nat × (Nat → Int) :=
  if ax = 1 then (y, z, brF f x 1 y x (x * y)) else if ax = 2 then (x, z, brF f y x x 1 (x * y)) else if ax = 3 then (x, y, brF f z (x * y) x 1 x) else (0, 0, fun _ => 0)
def brO (X Y Z : Int) (n : Nat) (f : Nat → Int) (ax : Int) : Nat × Nat × (Nat → Int) := if volB X Y Z n f = true then brQ X.toNat Y.toNat Z.toNat f ax else (0, 0, fun _ => 0)
theorem in1 {x y z : Nat} (r c d : Nat) (hr : r < z) (hc : c < y) (hd : d < x) : r * (x * y) + c * x + d * 1 < x * y * z := by
  have := lt3 hd hc hr
  rw [Nat.add_mul, Nat.mul_assoc, Nat.mul_comm y x] at this
  omega
theorem in2 {x y z : Nat} (r c d : Nat) (hr : r < z) (hc : c < x) (hd : d < y) : r * (x * y) + c * 1 + d * x < x * y * z := by
  have := lt3 hc hd hr
  rw [Nat.add_mul, Nat.mul_assoc, Nat.mul_comm y x] at this
  omega
theorem in3 {x y z : Nat} (r c d : Nat) (hr : r < y) (hc : c < x) (hd : d < z) : r * x + c * 1 + d * (x * y) < x * y * z := by
  have := lt3 hc hr hd
  rw [Nat.add_mul, Nat.mul_assoc, Nat.mul_comm y x] at this
  omega
/-- what the operations of the region leave -/
def gV (VS : List Value) (j : Nat) (v : Value) : Prop := ∀ x, VS[j]? = some x → v = x
theorem gV_iff {VS : List Value} {j : Nat} {x : Value} (h : VS[j]? = some x) (v : Value) : gV VS j v ↔ v = x := ⟨fun k => k x h, fun k y hy => by rw [h] at hy; cases hy; exact k⟩
theorem gV_out {VS : List Value} {j : Nat} (h : VS[j]? = none) (v : Value) : gV VS j v := fun y hy => by rw [h] at hy; cases hy

set_option maxRecDepth 100000 in
set_option maxHeartbeats 4000000 in
theorem implBrightest_any (X Y Z : Int) (a : Option Addr) (n cap : Nat) (f : Nat → Int) (hl : n ≤ 1048576) (ax : Int) (w : World) (h : Px a n f w) :
    Calls Try.prog 17 #[vVolume X Y Z a n cap, .int .i64 ax] w (ImR ((brO X Y Z n f ax).1 : Nat) ((brO X Y Z n f ax).2.1 : Nat) ((brO X Y Z n f ax).2.1 * (brO X Y Z n f ax).1) (brO X Y Z n f ax).2.2 w) := by
  have HS0 := hide (((St.start w).box [.int .i64 X, .int .i64 Y, .int .i64 Z, .slice a n cap] 29).box' [.int .i64 0, .int .i64 0, .slice none 0 0] 40 (b := w.heap.size + 1) (by simp))
  have c := implVolumeOk_any X Y Z a n cap f hl _ (h.below HS0.out.below)
  have HP := hide h
  clear h
  unfold brO
  obtain ⟨i0, i1, i2, i3⟩ := HS0.out.im4 1 rfl
  cases hq : volB X Y Z n f
  · rw [hq] at c
    rw [if_neg (by simp)]
    clear hq
    go_enter Try.func17, Try.ntmps17
    go_wp2_with fail
    refine c.mono ?_
    rintro e w1 ⟨rfl, hb⟩
    have HS1 := hide (HS0.out.next hb)
    clear c hb HS0 i0 i1 i2 i3
    obtain ⟨f0, f1, f2⟩ := HS1.out.fr3 0 rfl
    obtain ⟨j0, j1, j2⟩ := HS1.out.im3 0 rfl
    have HZ := hide (St.fill3' (L1 := []) HS1.out (.int .i64 0) (.int .i64 0) (.slice none 0 0))
    obtain ⟨wz, hz⟩ : ∃ wz, ((w1.setCell ⟨w.heap.size + 1, 0, none⟩ (.int .i64 0)).setCell ⟨w.heap.size + 1, 1, none⟩ (.int .i64 0)).setCell ⟨w.heap.size + 1, 2, none⟩ (.slice none 0 0) = wz := ⟨_, rfl⟩
    rw [hz] at HZ
    obtain ⟨z0, z1, z2⟩ := HZ.out.im3 0 rfl
    have HB := hide HZ.out.below
    clear HZ HS1
    go_wp2_with fail
    exact bodyPost_ret (v := im 0 0 none 0 0) (by simp [results, Try.results17, go_sem, z0, z1, z2]) rfl ⟨none, 0, 0, rfl, .inl rfl, .inl (by simp), HB.out⟩
  · rw [hq] at c
    rw [if_pos rfl]
    obtain ⟨hX, hY, hZ, hn, hn2⟩ := volB_parts hq
    obtain ⟨x, rfl⟩ : ∃ x : Nat, X = (x : Int) := ⟨X.toNat, by omega⟩
    obtain ⟨y, rfl⟩ : ∃ y : Nat, Y = (y : Int) := ⟨Y.toNat, by omega⟩
    obtain ⟨z, rfl⟩ : ∃ z : Nat, Z = (z : Int) := ⟨Z.toNat, by omega⟩
    simp only [Int.toNat_natCast]
    obtain ⟨P, hP⟩ : ∃ P, P = x * y := ⟨_, rfl⟩
    have hPb : P ≤ 1024 := by rw [hP]; exact Nat.mul_le_mul (show x ≤ 32 by omega) (show y ≤ 32 by omega)
    have wP : IntKind.i64.wrap ((x : Int) * (y : Int)) = (P : Int) := by rw [IntKind.wrap_i64, ← Int.natCast_mul, ← hP]; omega
    have hnn : n = x * y * z := by
      have : ((n : Nat) : Int) = ((x * y * z : Nat) : Int) := by rw [hn, Int.natCast_mul, Int.natCast_mul]
      omega
    have hn0 : 0 < n := by rw [hnn]; exact Nat.mul_pos (Nat.mul_pos (by omega) (by omega)) (by omega)
    obtain ⟨ba, off, rfl, -⟩ := HP.out.lt hn0
    have cA := fun (L A D sl sa sd : Nat) (h1 : L ≤ 32) (h2 : A ≤ 32) (h3 : D ≤ 32) (h4 : sl ≤ 1024) (h5 : sa ≤ 1024) (h6 : sd ≤ 1024) (hin : ∀ r c d, r < D → c < A → d < L → r * sd + c * sa + d * sl < x * y * z) w' h => along_any ba off n cap f L A D sl sa sd h1 h2 h3 h4 h5 h6 (by rw [hnn]; exact hin) w' h
    have c1 := fun w' h => cA x y z 1 x P (by omega) (by omega) (by omega) (by omega) (by omega) (by omega) (by rw [hP]; exact in1) w' h
    have c2 := fun w' h => cA y x z x 1 P (by omega) (by omega) (by omega) (by omega) (by omega) (by omega) (by rw [hP]; exact in2) w' h
    have c3 := fun w' h => cA z x y P 1 x (by omega) (by omega) (by omega) (by omega) (by omega) (by omega) (by rw [hP]; exact in3) w' h
    have HQ : Hid (brQ x y z f ax = if ax = 1 then (y, z, brF f x 1 y x P) else if ax = 2 then (x, z, brF f y x x 1 P) else if ax = 3 then (x, y, brF f z P x 1 x) else (0, 0, fun _ => 0)) := by show _ = _; rw [hP]; rfl
    clear cA hq hX hY hZ hn hn2 hPb hP hnn hn0 hl
    generalize brQ x y z f ax = q at *
    go_enter Try.func17, Try.ntmps17
    go_wp2_with fail
    refine c.mono ?_
    rintro e w1 ⟨rfl, hb⟩
    have HS1 := hide (HS0.out.next hb)
    clear c hb HS0 i0 i1 i2 i3
    go_upto_region 3 with fail
    go_cut [5, 6, 7] (fun s t v wc => ∃ M1 M2 M3, s = .pointer (some ⟨M1, 0, none⟩) ∧ t = .pointer (some ⟨M2, 0, none⟩) ∧ v = .pointer (some ⟨M3, 0, none⟩) ∧ St w ((M1, [.int .i64 (x : Int), .int .i64 1]) :: (M2, [.int .i64 (y : Int), .int .i64 (x : Int)]) :: (M3, [.int .i64 (z : Int), .int .i64 (P : Int)]) :: [(w.heap.size + 1, [.int .i64 0, .int .i64 0, .slice none 0 0]), (w.heap.size, [.int .i64 (x : Int), .int .i64 (y : Int), .int .i64 (z : Int), .slice (some ⟨ba, off, none⟩) n cap])]) [] wc)
    case first =>
      obtain ⟨VS, hVS⟩ : ∃ VS : List Value, VS = [.pointer (some ⟨w.heap.size, 0, none⟩), .int .i64 (x : Int), .agg #[.int .i64 (x : Int), .int .i64 1], .pointer (some ⟨w.heap.size, 1, none⟩), .int .i64 (y : Int), .pointer (some ⟨w.heap.size, 0, none⟩), .int .i64 (x : Int), .agg #[.int .i64 (y : Int), .int .i64 (x : Int)], .pointer (some ⟨w.heap.size, 2, none⟩), .int .i64 (z : Int), .pointer (some ⟨w.heap.size, 0, none⟩), .int .i64 (x : Int), .pointer (some ⟨w.heap.size, 1, none⟩), .int .i64 (y : Int), .int .i64 (P : Int), .agg #[.int .i64 (z : Int), .int .i64 (P : Int)]] := ⟨_, rfl⟩
      obtain ⟨G, hG⟩ : ∃ G, G = gV VS := ⟨_, rfl⟩
      have G0 : Hid (∀ v, G 0 v ↔ v = .pointer (some ⟨w.heap.size, 0, none⟩)) := fun v => by rw [hG]; exact gV_iff (by rw [hVS]; rfl) v
      have G1 : Hid (∀ v, G 1 v ↔ v = .int .i64 (x : Int)) := fun v => by rw [hG]; exact gV_iff (by rw [hVS]; rfl) v
      have G2 : Hid (∀ v, G 2 v ↔ v = .agg #[.int .i64 (x : Int), .int .i64 1]) := fun v => by rw [hG]; exact gV_iff (by rw [hVS]; rfl) v
      have G3 : Hid (∀ v, G 3 v ↔ v = .pointer (some ⟨w.heap.size, 1, none⟩)) := fun v => by rw [hG]; exact gV_iff (by rw [hVS]; rfl) v
      have G4 : Hid (∀ v, G 4 v ↔ v = .int .i64 (y : Int)) := fun v => by rw [hG]; exact gV_iff (by rw [hVS]; rfl) v
      have G5 : Hid (∀ v, G 5 v ↔ v = .pointer (some ⟨w.heap.size, 0, none⟩)) := fun v => by rw [hG]; exact gV_iff (by rw [hVS]; rfl) v
      have G6 : Hid (∀ v, G 6 v ↔ v = .int .i64 (x : Int)) := fun v => by rw [hG]; exact gV_iff (by rw [hVS]; rfl) v
      have G7 : Hid (∀ v, G 7 v ↔ v = .agg #[.int .i64 (y : Int), .int .i64 (x : Int)]) := fun v => by rw [hG]; exact gV_iff (by rw [hVS]; rfl) v
      have G8 : Hid (∀ v, G 8 v ↔ v = .pointer (some ⟨w.heap.size, 2, none⟩)) := fun v => by rw [hG]; exact gV_iff (by rw [hVS]; rfl) v
      have G9 : Hid (∀ v, G 9 v ↔ v = .int .i64 (z : Int)) := fun v => by rw [hG]; exact gV_iff (by rw [hVS]; rfl) v
      have G10 : Hid (∀ v, G 10 v ↔ v = .pointer (some ⟨w.heap.size, 0, none⟩)) := fun v => by rw [hG]; exact gV_iff (by rw [hVS]; rfl) v
      have G11 : Hid (∀ v, G 11 v ↔ v = .int .i64 (x : Int)) := fun v => by rw [hG]; exact gV_iff (by rw [hVS]; rfl) v
      have G12 : Hid (∀ v, G 12 v ↔ v = .pointer (some ⟨w.heap.size, 1, none⟩)) := fun v => by rw [hG]; exact gV_iff (by rw [hVS]; rfl) v
      have G13 : Hid (∀ v, G 13 v ↔ v = .int .i64 (y : Int)) := fun v => by rw [hG]; exact gV_iff (by rw [hVS]; rfl) v
      have G14 : Hid (∀ v, G 14 v ↔ v = .int .i64 (P : Int)) := fun v => by rw [hG]; exact gV_iff (by rw [hVS]; rfl) v
      have G15 : Hid (∀ v, G 15 v ↔ v = .agg #[.int .i64 (z : Int), .int .i64 (P : Int)]) := fun v => by rw [hG]; exact gV_iff (by rw [hVS]; rfl) v
      have G16 : Hid (∀ v, G 16 v) := fun v => by rw [hG]; exact gV_out (by rw [hVS]; rfl) v
      have G17 : Hid (∀ v, G 17 v) := fun v => by rw [hG]; exact gV_out (by rw [hVS]; rfl) v
      have G18 : Hid (∀ v, G 18 v) := fun v => by rw [hG]; exact gV_out (by rw [hVS]; rfl) v
      have G19 : Hid (∀ v, G 19 v) := fun v => by rw [hG]; exact gV_out (by rw [hVS]; rfl) v
      have G20 : Hid (∀ v, G 20 v) := fun v => by rw [hG]; exact gV_out (by rw [hVS]; rfl) v
      have G21 : Hid (∀ v, G 21 v) := fun v => by rw [hG]; exact gV_out (by rw [hVS]; rfl) v
      clear hG hVS
      obtain ⟨ps, hps⟩ : ∃ ps : Nat → Option (Nat × Value × Value), ps = (fun j => match j with | 19 => some (16, .int .i64 (x : Int), .int .i64 1) | 20 => some (17, .int .i64 (y : Int), .int .i64 (x : Int)) | 21 => some (18, .int .i64 (z : Int), .int .i64 (P : Int)) | _ => none) := ⟨_, rfl⟩
      have O0 : Hid (ps 0 = none) := by rw [hps]; exact rfl
      have O1 : Hid (ps 1 = none) := by rw [hps]; exact rfl
      have O2 : Hid (ps 2 = none) := by rw [hps]; exact rfl
      have O3 : Hid (ps 3 = none) := by rw [hps]; exact rfl
      have O4 : Hid (ps 4 = none) := by rw [hps]; exact rfl
      have O5 : Hid (ps 5 = none) := by rw [hps]; exact rfl
      have O6 : Hid (ps 6 = none) := by rw [hps]; exact rfl
      have O7 : Hid (ps 7 = none) := by rw [hps]; exact rfl
      have O8 : Hid (ps 8 = none) := by rw [hps]; exact rfl
      have O9 : Hid (ps 9 = none) := by rw [hps]; exact rfl
      have O10 : Hid (ps 10 = none) := by rw [hps]; exact rfl
      have O11 : Hid (ps 11 = none) := by rw [hps]; exact rfl
      have O12 : Hid (ps 12 = none) := by rw [hps]; exact rfl
      have O13 : Hid (ps 13 = none) := by rw [hps]; exact rfl
      have O14 : Hid (ps 14 = none) := by rw [hps]; exact rfl
      have O15 : Hid (ps 15 = none) := by rw [hps]; exact rfl
      have O16 : Hid (ps 16 = none) := by rw [hps]; exact rfl
      have O17 : Hid (ps 17 = none) := by rw [hps]; exact rfl
      have O18 : Hid (ps 18 = none) := by rw [hps]; exact rfl
      have O19 : Hid (ps 19 = some (16, .int .i64 (x : Int), .int .i64 1)) := by rw [hps]; exact rfl
      have O20 : Hid (ps 20 = some (17, .int .i64 (y : Int), .int .i64 (x : Int))) := by rw [hps]; exact rfl
      have O21 : Hid (ps 21 = some (18, .int .i64 (z : Int), .int .i64 (P : Int))) := by rw [hps]; exact rfl
      have OS : Hid (∀ j A x' y', ps j = some (A, x', y') → j = A + 3) := by
        intro j A x' y' hj
        rw [hps] at hj
        dsimp only at hj
        split at hj <;> cases hj <;> rfl
      clear hps
      refine region_opsV (mR [16, 17, 18] w1) (mF [16, 17, 18] ps w1 G) (by kernel_rfl) (by kernel_rfl) (by kernel_rfl) (by kernel_rfl) ?_ ?_ ?_
      · refine ⟨(Below.refl _ _).drew, fun A hA M hM _ => ?_, fun A hA A' _ _ M hM _ => ?_⟩ <;>
        · have h := hM.symm.trans (show _ = undef by
            rcases List.mem_cons.1 hA with rfl | hA
            · kernel_rfl
            rcases List.mem_cons.1 hA with rfl | hA
            · kernel_rfl
            rcases List.mem_cons.1 hA with rfl | hA
            · kernel_rfl
            cases hA)
          simp [undef, ptr0] at h
      · refine ⟨?_, ?_, ?_, ?_, ?_, ?_, ?_, ?_, ?_, ?_, ?_, ?_, ?_, ?_, ?_, ?_, ?_, ?_, ?_, ?_, ?_, ?_, trivial⟩
        ·
          intro u w21 au hsl hel hu hF hp' K hK
          have t2 : au.tmps[2]?.getD undef = .pointer (some ⟨w.heap.size, 0, none⟩) := (hel.out 2 (by kernel_rfl)).trans (by kernel_rfl)
          refine step_plain rfl ?_
          go_simp
          exact hK.out (.pointer (some ⟨w.heap.size, 0, none⟩)) _ (mR_up hF 0 (by decide) _) (mF_val 0 (by decide) O0.out ((G0.out _).2 rfl)) (fun j hj _ h => mF_up 0 (by decide) _ j hj h)
        ·
          intro u w21 au hsl hel hu hF hp' K hK
          have h0 : u 0 = .pointer (some ⟨w.heap.size, 0, none⟩) := (G0.out _).1 (PreF.get hp' 0 (by kernel_rfl)).1
          have t12 : au.tmps[12]?.getD undef = u 0 := hsl.out 0 12 (by kernel_rfl)
          rw [h0] at t12
          have xc := (HS1.out.next hF.1).cell 1 rfl 0 rfl
          refine step_plain rfl ?_
          go_simp
          exact hK.out (.int .i64 (x : Int)) _ (mR_up hF 1 (by decide) _) (mF_val 1 (by decide) O1.out ((G1.out _).2 rfl)) (fun j hj _ h => mF_up 1 (by decide) _ j hj h)
        ·
          intro u w21 au hsl hel hu hF hp' K hK
          have h1 : u 1 = .int .i64 (x : Int) := (G1.out _).1 (PreF.get hp' 1 (by kernel_rfl)).1
          have t13 : au.tmps[13]?.getD undef = u 1 := hsl.out 1 13 (by kernel_rfl)
          rw [h1] at t13
          refine step_plain rfl ?_
          go_simp
          exact hK.out (.agg #[.int .i64 (x : Int), .int .i64 1]) _ (mR_up hF 2 (by decide) _) (mF_val 2 (by decide) O2.out ((G2.out _).2 rfl)) (fun j hj _ h => mF_up 2 (by decide) _ j hj h)
        ·
          intro u w21 au hsl hel hu hF hp' K hK
          have t2 : au.tmps[2]?.getD undef = .pointer (some ⟨w.heap.size, 0, none⟩) := (hel.out 2 (by kernel_rfl)).trans (by kernel_rfl)
          refine step_plain rfl ?_
          go_simp
          exact hK.out (.pointer (some ⟨w.heap.size, 1, none⟩)) _ (mR_up hF 3 (by decide) _) (mF_val 3 (by decide) O3.out ((G3.out _).2 rfl)) (fun j hj _ h => mF_up 3 (by decide) _ j hj h)
        ·
          intro u w21 au hsl hel hu hF hp' K hK
          have h3 : u 3 = .pointer (some ⟨w.heap.size, 1, none⟩) := (G3.out _).1 (PreF.get hp' 3 (by kernel_rfl)).1
          have t15 : au.tmps[15]?.getD undef = u 3 := hsl.out 3 15 (by kernel_rfl)
          rw [h3] at t15
          have xc := (HS1.out.next hF.1).cell 1 rfl 1 rfl
          refine step_plain rfl ?_
          go_simp
          exact hK.out (.int .i64 (y : Int)) _ (mR_up hF 4 (by decide) _) (mF_val 4 (by decide) O4.out ((G4.out _).2 rfl)) (fun j hj _ h => mF_up 4 (by decide) _ j hj h)
        ·
          intro u w21 au hsl hel hu hF hp' K hK
          have t2 : au.tmps[2]?.getD undef = .pointer (some ⟨w.heap.size, 0, none⟩) := (hel.out 2 (by kernel_rfl)).trans (by kernel_rfl)
          refine step_plain rfl ?_
          go_simp
          exact hK.out (.pointer (some ⟨w.heap.size, 0, none⟩)) _ (mR_up hF 5 (by decide) _) (mF_val 5 (by decide) O5.out ((G5.out _).2 rfl)) (fun j hj _ h => mF_up 5 (by decide) _ j hj h)
        ·
          intro u w21 au hsl hel hu hF hp' K hK
          have h5 : u 5 = .pointer (some ⟨w.heap.size, 0, none⟩) := (G5.out _).1 (PreF.get hp' 5 (by kernel_rfl)).1
          have t17 : au.tmps[17]?.getD undef = u 5 := hsl.out 5 17 (by kernel_rfl)
          rw [h5] at t17
          have xc := (HS1.out.next hF.1).cell 1 rfl 0 rfl
          refine step_plain rfl ?_
          go_simp
          exact hK.out (.int .i64 (x : Int)) _ (mR_up hF 6 (by decide) _) (mF_val 6 (by decide) O6.out ((G6.out _).2 rfl)) (fun j hj _ h => mF_up 6 (by decide) _ j hj h)
        ·
          intro u w21 au hsl hel hu hF hp' K hK
          have h4 : u 4 = .int .i64 (y : Int) := (G4.out _).1 (PreF.get hp' 4 (by kernel_rfl)).1
          have t16 : au.tmps[16]?.getD undef = u 4 := hsl.out 4 16 (by kernel_rfl)
          rw [h4] at t16
          have h6 : u 6 = .int .i64 (x : Int) := (G6.out _).1 (PreF.get hp' 6 (by kernel_rfl)).1
          have t18 : au.tmps[18]?.getD undef = u 6 := hsl.out 6 18 (by kernel_rfl)
          rw [h6] at t18
          refine step_plain rfl ?_
          go_simp
          exact hK.out (.agg #[.int .i64 (y : Int), .int .i64 (x : Int)]) _ (mR_up hF 7 (by decide) _) (mF_val 7 (by decide) O7.out ((G7.out _).2 rfl)) (fun j hj _ h => mF_up 7 (by decide) _ j hj h)
        ·
          intro u w21 au hsl hel hu hF hp' K hK
          have t2 : au.tmps[2]?.getD undef = .pointer (some ⟨w.heap.size, 0, none⟩) := (hel.out 2 (by kernel_rfl)).trans (by kernel_rfl)
          refine step_plain rfl ?_
          go_simp
          exact hK.out (.pointer (some ⟨w.heap.size, 2, none⟩)) _ (mR_up hF 8 (by decide) _) (mF_val 8 (by decide) O8.out ((G8.out _).2 rfl)) (fun j hj _ h => mF_up 8 (by decide) _ j hj h)
        ·
          intro u w21 au hsl hel hu hF hp' K hK
          have h8 : u 8 = .pointer (some ⟨w.heap.size, 2, none⟩) := (G8.out _).1 (PreF.get hp' 8 (by kernel_rfl)).1
          have t20 : au.tmps[20]?.getD undef = u 8 := hsl.out 8 20 (by kernel_rfl)
          rw [h8] at t20
          have xc := (HS1.out.next hF.1).cell 1 rfl 2 rfl
          refine step_plain rfl ?_
          go_simp
          exact hK.out (.int .i64 (z : Int)) _ (mR_up hF 9 (by decide) _) (mF_val 9 (by decide) O9.out ((G9.out _).2 rfl)) (fun j hj _ h => mF_up 9 (by decide) _ j hj h)
        ·
          intro u w21 au hsl hel hu hF hp' K hK
          have t2 : au.tmps[2]?.getD undef = .pointer (some ⟨w.heap.size, 0, none⟩) := (hel.out 2 (by kernel_rfl)).trans (by kernel_rfl)
          refine step_plain rfl ?_
          go_simp
          exact hK.out (.pointer (some ⟨w.heap.size, 0, none⟩)) _ (mR_up hF 10 (by decide) _) (mF_val 10 (by decide) O10.out ((G10.out _).2 rfl)) (fun j hj _ h => mF_up 10 (by decide) _ j hj h)
        ·
          intro u w21 au hsl hel hu hF hp' K hK
          have h10 : u 10 = .pointer (some ⟨w.heap.size, 0, none⟩) := (G10.out _).1 (PreF.get hp' 10 (by kernel_rfl)).1
          have t22 : au.tmps[22]?.getD undef = u 10 := hsl.out 10 22 (by kernel_rfl)
          rw [h10] at t22
          have xc := (HS1.out.next hF.1).cell 1 rfl 0 rfl
          refine step_plain rfl ?_
          go_simp
          exact hK.out (.int .i64 (x : Int)) _ (mR_up hF 11 (by decide) _) (mF_val 11 (by decide) O11.out ((G11.out _).2 rfl)) (fun j hj _ h => mF_up 11 (by decide) _ j hj h)
        ·
          intro u w21 au hsl hel hu hF hp' K hK
          have t2 : au.tmps[2]?.getD undef = .pointer (some ⟨w.heap.size, 0, none⟩) := (hel.out 2 (by kernel_rfl)).trans (by kernel_rfl)
          refine step_plain rfl ?_
          go_simp
          exact hK.out (.pointer (some ⟨w.heap.size, 1, none⟩)) _ (mR_up hF 12 (by decide) _) (mF_val 12 (by decide) O12.out ((G12.out _).2 rfl)) (fun j hj _ h => mF_up 12 (by decide) _ j hj h)
        ·
          intro u w21 au hsl hel hu hF hp' K hK
          have h12 : u 12 = .pointer (some ⟨w.heap.size, 1, none⟩) := (G12.out _).1 (PreF.get hp' 12 (by kernel_rfl)).1
          have t24 : au.tmps[24]?.getD undef = u 12 := hsl.out 12 24 (by kernel_rfl)
          rw [h12] at t24
          have xc := (HS1.out.next hF.1).cell 1 rfl 1 rfl
          refine step_plain rfl ?_
          go_simp
          exact hK.out (.int .i64 (y : Int)) _ (mR_up hF 13 (by decide) _) (mF_val 13 (by decide) O13.out ((G13.out _).2 rfl)) (fun j hj _ h => mF_up 13 (by decide) _ j hj h)
        ·
          intro u w21 au hsl hel hu hF hp' K hK
          have h11 : u 11 = .int .i64 (x : Int) := (G11.out _).1 (PreF.get hp' 11 (by kernel_rfl)).1
          have t23 : au.tmps[23]?.getD undef = u 11 := hsl.out 11 23 (by kernel_rfl)
          rw [h11] at t23
          have h13 : u 13 = .int .i64 (y : Int) := (G13.out _).1 (PreF.get hp' 13 (by kernel_rfl)).1
          have t25 : au.tmps[25]?.getD undef = u 13 := hsl.out 13 25 (by kernel_rfl)
          rw [h13] at t25
          refine step_plain rfl ?_
          go_simp
          exact hK.out (.int .i64 (P : Int)) _ (mR_up hF 14 (by decide) _) (mF_val 14 (by decide) O14.out ((G14.out _).2 rfl)) (fun j hj _ h => mF_up 14 (by decide) _ j hj h)
        ·
          intro u w21 au hsl hel hu hF hp' K hK
          have h9 : u 9 = .int .i64 (z : Int) := (G9.out _).1 (PreF.get hp' 9 (by kernel_rfl)).1
          have t21 : au.tmps[21]?.getD undef = u 9 := hsl.out 9 21 (by kernel_rfl)
          rw [h9] at t21
          have h14 : u 14 = .int .i64 (P : Int) := (G14.out _).1 (PreF.get hp' 14 (by kernel_rfl)).1
          have t26 : au.tmps[26]?.getD undef = u 14 := hsl.out 14 26 (by kernel_rfl)
          rw [h14] at t26
          refine step_plain rfl ?_
          go_simp
          exact hK.out (.agg #[.int .i64 (z : Int), .int .i64 (P : Int)]) _ (mR_up hF 15 (by decide) _) (mF_val 15 (by decide) O15.out ((G15.out _).2 rfl)) (fun j hj _ h => mF_up 15 (by decide) _ j hj h)
        ·
          intro u w21 au hsl hel hu hF hp' K hK
          refine step_plain rfl ?_
          go_simp
          exact hK.out (.pointer (some ⟨w21.heap.size, 0, none⟩)) _ (mR_al hF (Bx.new [.int .i64 0, .int .i64 0] 68 w21)) (mF_ptr G16.out O16.out hF.1.size) (fun j hj hf h => mF_al _ j hj (fun x' y' e => by have e' := OS.out _ _ _ _ e; subst e'; exact absurd (Eq.trans (Eq.symm (by kernel_rfl)) hf) Bool.false_ne_true) h)
        ·
          intro u w21 au hsl hel hu hF hp' K hK
          refine step_plain rfl ?_
          go_simp
          exact hK.out (.pointer (some ⟨w21.heap.size, 0, none⟩)) _ (mR_al hF (Bx.new [.int .i64 0, .int .i64 0] 68 w21)) (mF_ptr G17.out O17.out hF.1.size) (fun j hj hf h => mF_al _ j hj (fun x' y' e => by have e' := OS.out _ _ _ _ e; subst e'; exact absurd (Eq.trans (Eq.symm (by kernel_rfl)) hf) Bool.false_ne_true) h)
        ·
          intro u w21 au hsl hel hu hF hp' K hK
          refine step_plain rfl ?_
          go_simp
          exact hK.out (.pointer (some ⟨w21.heap.size, 0, none⟩)) _ (mR_al hF (Bx.new [.int .i64 0, .int .i64 0] 68 w21)) (mF_ptr G18.out O18.out hF.1.size) (fun j hj hf h => mF_al _ j hj (fun x' y' e => by have e' := OS.out _ _ _ _ e; subst e'; exact absurd (Eq.trans (Eq.symm (by kernel_rfl)) hf) Bool.false_ne_true) h)
        ·
          intro u w21 au hsl hel hu hF hp' K hK
          have h2 : u 2 = .agg #[.int .i64 (x : Int), .int .i64 1] := (G2.out _).1 (PreF.get hp' 2 (by kernel_rfl)).1
          have t14 : au.tmps[14]?.getD undef = u 2 := hsl.out 2 14 (by kernel_rfl)
          rw [h2] at t14
          obtain ⟨M, hM, hMB⟩ := (PreF.get hp' 16 (by kernel_rfl)).2.1 (by decide)
          have t5 : au.tmps[5]?.getD undef = .pointer (some ⟨M, 0, none⟩) := (hsl.out 16 5 (by kernel_rfl)).trans hM
          obtain ⟨x0, y0, hx⟩ := hF.2.1 16 (by decide) M hM hMB
          obtain ⟨k0, l0⟩ := hx 0 _ rfl
          obtain ⟨k1, l1⟩ := hx 1 _ rfl
          refine step_plain rfl ?_
          go_simp
          exact hK.out (.bool true) _ (mR_st hF (by decide) hMB hx _ _ _) (mF_done (by decide) O19.out (by decide) hM hMB hx (G19.out _)) (fun j hj _ h => mF_st hF (by decide) (by decide) hM hMB _ _ _ j hj (fun x' y' e => hj (OS.out _ _ _ _ e)) h)
        ·
          intro u w21 au hsl hel hu hF hp' K hK
          have h7 : u 7 = .agg #[.int .i64 (y : Int), .int .i64 (x : Int)] := (G7.out _).1 (PreF.get hp' 7 (by kernel_rfl)).1
          have t19 : au.tmps[19]?.getD undef = u 7 := hsl.out 7 19 (by kernel_rfl)
          rw [h7] at t19
          obtain ⟨M, hM, hMB⟩ := (PreF.get hp' 17 (by kernel_rfl)).2.1 (by decide)
          have t6 : au.tmps[6]?.getD undef = .pointer (some ⟨M, 0, none⟩) := (hsl.out 17 6 (by kernel_rfl)).trans hM
          obtain ⟨x0, y0, hx⟩ := hF.2.1 17 (by decide) M hM hMB
          obtain ⟨k0, l0⟩ := hx 0 _ rfl
          obtain ⟨k1, l1⟩ := hx 1 _ rfl
          refine step_plain rfl ?_
          go_simp
          exact hK.out (.bool true) _ (mR_st hF (by decide) hMB hx _ _ _) (mF_done (by decide) O20.out (by decide) hM hMB hx (G20.out _)) (fun j hj _ h => mF_st hF (by decide) (by decide) hM hMB _ _ _ j hj (fun x' y' e => hj (OS.out _ _ _ _ e)) h)
        ·
          intro u w21 au hsl hel hu hF hp' K hK
          have h15 : u 15 = .agg #[.int .i64 (z : Int), .int .i64 (P : Int)] := (G15.out _).1 (PreF.get hp' 15 (by kernel_rfl)).1
          have t27 : au.tmps[27]?.getD undef = u 15 := hsl.out 15 27 (by kernel_rfl)
          rw [h15] at t27
          obtain ⟨M, hM, hMB⟩ := (PreF.get hp' 18 (by kernel_rfl)).2.1 (by decide)
          have t7 : au.tmps[7]?.getD undef = .pointer (some ⟨M, 0, none⟩) := (hsl.out 18 7 (by kernel_rfl)).trans hM
          obtain ⟨x0, y0, hx⟩ := hF.2.1 18 (by decide) M hM hMB
          obtain ⟨k0, l0⟩ := hx 0 _ rfl
          obtain ⟨k1, l1⟩ := hx 1 _ rfl
          refine step_plain rfl ?_
          go_simp
          exact hK.out (.bool true) _ (mR_st hF (by decide) hMB hx _ _ _) (mF_done (by decide) O21.out (by decide) hM hMB hx (G21.out _)) (fun j hj _ h => mF_st hF (by decide) (by decide) hM hMB _ _ _ j hj (fun x' y' e => hj (OS.out _ _ _ _ e)) h)
      · intro u w30 hF hall
        obtain ⟨-, M1, q1, r1, b1⟩ := (hall 19 (by decide)).2.2 _ _ _ O19.out
        obtain ⟨-, M2, q2, r2, b2⟩ := (hall 20 (by decide)).2.2 _ _ _ O20.out
        obtain ⟨-, M3, q3, r3, b3⟩ := (hall 21 (by decide)).2.2 _ _ _ O21.out
        have hst := St.three HS1.out hF.1 b1 b2 b3 r1 r2 r3 (fun e => by subst e; exact hF.2.2 16 (by decide) 17 (by decide) (by decide) _ q1 r1 q2) (fun e => by subst e; exact hF.2.2 16 (by decide) 18 (by decide) (by decide) _ q1 r1 q3) (fun e => by subst e; exact hF.2.2 17 (by decide) 18 (by decide) (by decide) _ q2 r2 q3)
        have HST := hide hst
        unfold ptr0 at q1 q2 q3
        clear hF hall hst r1 r2 r3 b1 b2 b3 O0 O1 O2 O3 O4 O5 O6 O7 O8 O9 O10 O11 O12 O13 O14 O15 O16 O17 O18 O19 O20 O21 OS
        simp only [rgPut, Act.put, q1, q2, q3]
        clear q1 q2 q3
        go_simp
        go_wp2_with fail
        go_meet
        exact ⟨M1, M2, M3, rfl, rfl, rfl, HST.out⟩
    case rest =>
    obtain ⟨M1, M2, M3, rfl, rfl, rfl, hst⟩ := hcut
    obtain ⟨w2, hw2⟩ : ∃ w2, w2 = wc := ⟨_, rfl⟩
    rw [← hw2] at hst
    rw [← hw2]
    have HS2 := hide hst
    clear hst hw2 HS1
    have a10 := HS2.out.cell 0 rfl 0 rfl
    have a11 := HS2.out.cell 0 rfl 1 rfl
    have a20 := HS2.out.cell 1 rfl 0 rfl
    have a21 := HS2.out.cell 1 rfl 1 rfl
    have a30 := HS2.out.cell 2 rfl 0 rfl
    have a31 := HS2.out.cell 2 rfl 1 rfl
    obtain ⟨i0, i1, i2, i3⟩ := HS2.out.im4 4 rfl
    have b1 := c1 w2 (HP.out.below HS2.out.below)
    have b2 := c2 w2 (HP.out.below HS2.out.below)
    have b3 := c3 w2 (HP.out.below HS2.out.below)
    clear c1 c2 c3
    by_cases x1 : ax = 1
    · subst x1
      rw [if_pos rfl] at HQ
      obtain rfl := HQ.out
      clear HQ b2 b3
      go_wp2_with fail
      refine b1.mono ?_
      rintro e w3 ⟨a3, c3, b3, rfl, ho, h1, hb⟩
      have HS3 := hide (HS2.out.own hb ho.v h1)
      clear HS2 ho h1 hb a10 a11 a20 a21 a30 a31 i0 i1 i2 i3
      obtain ⟨f0, f1, f2⟩ := HS3.out.fr3 3 rfl
      obtain ⟨j0, j1, j2⟩ := HS3.out.im3 3 rfl
      have HZ := hide (St.fill3' (L1 := [_, _, _]) HS3.out (.int .i64 (y : Int)) (.int .i64 (z : Int)) (.slice a3 (z * y : Nat) c3))
      obtain ⟨wz, hz⟩ : ∃ wz, ((w3.setCell ⟨w.heap.size + 1, 0, none⟩ (.int .i64 (y : Int))).setCell ⟨w.heap.size + 1, 1, none⟩ (.int .i64 (z : Int))).setCell ⟨w.heap.size + 1, 2, none⟩ (.slice a3 (z * y : Nat) c3) = wz := ⟨_, rfl⟩
      rw [hz] at HZ
      obtain ⟨z0, z1, z2⟩ := HZ.out.im3 3 rfl
      have HE := hide (HZ.out.imR (y : Int) (z : Int) c3)
      clear HZ HS3
      go_wp2_with fail
      exact bodyPost_ret (v := im (y : Int) (z : Int) a3 (z * y : Nat) c3) (by simp [results, Try.results17, go_sem, z0, z1, z2]) rfl HE.out
    have y1 : (ax == 1) = false := by simp; omega
    rw [if_neg x1] at HQ
    clear b1 x1
    by_cases x2 : ax = 2
    · subst x2
      rw [if_pos rfl] at HQ
      obtain rfl := HQ.out
      clear HQ b3
      have e1 : ((2 : Int) == 1) = false := by decide
      go_wp2_with fail
      refine b2.mono ?_
      rintro e w3 ⟨a3, c3, b3, rfl, ho, h1, hb⟩
      have HS3 := hide (HS2.out.own hb ho.v h1)
      clear HS2 ho h1 hb a10 a11 a20 a21 a30 a31 i0 i1 i2 i3
      obtain ⟨f0, f1, f2⟩ := HS3.out.fr3 3 rfl
      obtain ⟨j0, j1, j2⟩ := HS3.out.im3 3 rfl
      have HZ := hide (St.fill3' (L1 := [_, _, _]) HS3.out (.int .i64 (x : Int)) (.int .i64 (z : Int)) (.slice a3 (z * x : Nat) c3))
      obtain ⟨wz, hz⟩ : ∃ wz, ((w3.setCell ⟨w.heap.size + 1, 0, none⟩ (.int .i64 (x : Int))).setCell ⟨w.heap.size + 1, 1, none⟩ (.int .i64 (z : Int))).setCell ⟨w.heap.size + 1, 2, none⟩ (.slice a3 (z * x : Nat) c3) = wz := ⟨_, rfl⟩
      rw [hz] at HZ
      obtain ⟨z0, z1, z2⟩ := HZ.out.im3 3 rfl
      have HE := hide (HZ.out.imR (x : Int) (z : Int) c3)
      clear HZ HS3
      go_wp2_with fail
      exact bodyPost_ret (v := im (x : Int) (z : Int) a3 (z * x : Nat) c3) (by simp [results, Try.results17, go_sem, z0, z1, z2]) rfl HE.out
    have y2 : (ax == 2) = false := by simp; omega
    rw [if_neg x2] at HQ
    clear b2 x2
    by_cases x3 : ax = 3
    · subst x3
      rw [if_pos rfl] at HQ
      obtain rfl := HQ.out
      clear HQ 
      have e1 : ((3 : Int) == 1) = false := by decide
      have e2 : ((3 : Int) == 2) = false := by decide
      go_wp2_with fail
      refine b3.mono ?_
      rintro e w3 ⟨a3, c3, b3, rfl, ho, h1, hb⟩
      have HS3 := hide (HS2.out.own hb ho.v h1)
      clear HS2 ho h1 hb a10 a11 a20 a21 a30 a31 i0 i1 i2 i3
      obtain ⟨f0, f1, f2⟩ := HS3.out.fr3 3 rfl
      obtain ⟨j0, j1, j2⟩ := HS3.out.im3 3 rfl
      have HZ := hide (St.fill3' (L1 := [_, _, _]) HS3.out (.int .i64 (x : Int)) (.int .i64 (y : Int)) (.slice a3 (y * x : Nat) c3))
      obtain ⟨wz, hz⟩ : ∃ wz, ((w3.setCell ⟨w.heap.size + 1, 0, none⟩ (.int .i64 (x : Int))).setCell ⟨w.heap.size + 1, 1, none⟩ (.int .i64 (y : Int))).setCell ⟨w.heap.size + 1, 2, none⟩ (.slice a3 (y * x : Nat) c3) = wz := ⟨_, rfl⟩
      rw [hz] at HZ
      obtain ⟨z0, z1, z2⟩ := HZ.out.im3 3 rfl
      have HE := hide (HZ.out.imR (x : Int) (y : Int) c3)
      clear HZ HS3
      go_wp2_with fail
      exact bodyPost_ret (v := im (x : Int) (y : Int) a3 (y * x : Nat) c3) (by simp [results, Try.results17, go_sem, z0, z1, z2]) rfl HE.out
    have y3 : (ax == 3) = false := by simp; omega
    rw [if_neg x3] at HQ
    clear b3 x3
    obtain rfl := HQ.out
    clear HQ
    obtain ⟨f0, f1, f2⟩ := HS2.out.fr3 3 rfl
    obtain ⟨j0, j1, j2⟩ := HS2.out.im3 3 rfl
    have HZ := hide (St.fill3' (L1 := [_, _, _]) HS2.out (.int .i64 0) (.int .i64 0) (.slice none 0 0))
    obtain ⟨wz, hz⟩ : ∃ wz, ((w2.setCell ⟨w.heap.size + 1, 0, none⟩ (.int .i64 0)).setCell ⟨w.heap.size + 1, 1, none⟩ (.int .i64 0)).setCell ⟨w.heap.size + 1, 2, none⟩ (.slice none 0 0) = wz := ⟨_, rfl⟩
    rw [hz] at HZ
    obtain ⟨z0, z1, z2⟩ := HZ.out.im3 3 rfl
    have HB := hide HZ.out.below
    clear HZ HS2
    go_wp2_with fail
    exact bodyPost_ret (v := im 0 0 none 0 0) (by simp [results, Try.results17, go_sem, z0, z1, z2]) rfl ⟨none, 0, 0, rfl, .inl rfl, .inl (by simp), HB.out⟩

end Go.Proofs.Ytpbeogepgjbacaa

/- Invert: the specification. -/
import Derived.Test.YtjdbiaoheoialaaIvn
import Derived.Test.YtjdbiaoheoialaaRgs
import Derived.Test.YtjdbiaoheoialaaRgv
namespace Go.Proofs.Ytjdbiaoheoialaa
open Go.RowKit

set_option linter.unusedSimpArgs false in
set_option maxRecDepth 100000 in
set_option maxHeartbeats 8000000 in
theorem specInvert_any (D : Int) (a0 : Option Addr) (n0 c0 : Nat) (M : Nat → Int) (hl0 : n0 ≤ 1048576) (a1 : Option Addr) (n1 c1 : Nat) (T : Nat → Int) (hl1 : n1 ≤ 1048576) (w : World) (h0 : Px a0 n0 M w) (h1 : Px a1 n1 T w) :
    Calls Try.prog 12 #[vFrame D a0 n0 c0 a1 n1 c1] w (FrX (ivQ D n0 M n1 T) (ivD D M T) (ivM D M T) (ivT D M T) w) := by
  have HS0 := hide (((St.start w).box [.slice a0 n0 c0, .slice a1 n1 c1, .int .i64 D] 26).box' [.slice none 0 0, .slice none 0 0, .int .i64 0] 26 (b := w.heap.size + 1) (by simp))
  have c := fun w' h h' => specFrameOk_any D a0 n0 c0 M hl0 a1 n1 c1 T hl1 w' h h'
  have HP0 := hide h0
  have HP1 := hide h1
  clear h0 h1
  have HQ : Hid (ivQ D n0 M n1 T = (frmB D n0 M n1 T && frmB (ivD D M T) 9 (ivM D M T) 3 (ivT D M T))) := by show _ = _; rfl
  generalize ivQ D n0 M n1 T = Q at *
  cases hq0 : frmB D n0 M n1 T
  · have HN : Hid (Q = false) := by show _ = _; rw [HQ.out, hq0]; rfl
    rw [hq0] at c
    clear hq0 HQ
    go_enter Try.func12, Try.ntmps12
    go_wp2_with fail
    refine (c _ (HP0.out.below HS0.out.below) (HP1.out.below HS0.out.below)).mono ?_
    rintro e w1 ⟨rfl, hb⟩
    have HS1 := hide (HS0.out.next hb)
    clear hb c HS0
    have z0 := HS1.out.cell 0 rfl 0 rfl
    have e0 := HS1.out.free 0 rfl 0 rfl
    have z1 := HS1.out.cell 0 rfl 1 rfl
    have e1 := HS1.out.free 0 rfl 1 rfl
    have z2 := HS1.out.cell 0 rfl 2 rfl
    have e2 := HS1.out.free 0 rfl 2 rfl
    have HB := hide (((HS1.out.below.setCell (p := ⟨w.heap.size + 1, 0, none⟩) (show w.heap.size ≤ w.heap.size + 1 by omega) (.slice none 0 0)).setCell (p := ⟨w.heap.size + 1, 1, none⟩) (show w.heap.size ≤ w.heap.size + 1 by omega) (.slice none 0 0)).setCell (p := ⟨w.heap.size + 1, 2, none⟩) (show w.heap.size ≤ w.heap.size + 1 by omega) (.int .i64 0))
    clear HS1
    go_wp2_with fail
    exact bodyPost_ret (v := .tuple #[vFrame 0 none 0 0 none 0 0, .bool false]) (by simp [results, vFrame, Try.results12, go_sem, z0, z1, z2]) rfl (.inr ⟨HN.out, rfl, HB.out⟩)
  rw [hq0] at c
  have HQ2 : Hid (Q = frmB (ivD D M T) 9 (ivM D M T) 3 (ivT D M T)) := by show _ = _; rw [HQ.out, hq0]; rfl
  obtain ⟨x1, x2, bD, bM, bT, -, hdet⟩ := frmB_parts hq0
  clear hq0 HQ
  subst x1 x2
  obtain ⟨b, off, rfl, hbl⟩ := HP0.out.lt (by omega)
  obtain ⟨b', off', rfl, hbl'⟩ := HP1.out.lt (by omega)
  have hJ := adjF_b bM
  have hdb := det9_b bM
  have HDT := hide (And.intro hdet hdb)
  have cD := fun wx h => l7Det_any (some ⟨b, off, none⟩) c0 M bM wx h
  have HNM : Hid ((det9 M).tdiv (rgS (det9 M) (ivN D (adjF M)) (ivS (adjF M) T)) = ivD D M T ∧ dvF (ivN D (adjF M)) (rgS (det9 M) (ivN D (adjF M)) (ivS (adjF M) T)) = ivM D M T ∧ dvF (ivS (adjF M) T) (rgS (det9 M) (ivN D (adjF M)) (ivS (adjF M) T)) = ivT D M T) := ⟨rfl, rfl, rfl⟩
  generalize ivD D M T = rD at *
  generalize ivM D M T = rM at *
  generalize ivT D M T = rT at *
  have nd04 := mul_b6 (bM 0 (by omega)) (bM 4 (by omega))
  obtain ⟨P04, hP04⟩ : ∃ x, x = M 0 * M 4 := ⟨_, rfl⟩
  rw [← hP04] at nd04
  have v04 : IntKind.i64.wrap (M 0 * M 4) = P04 := by rw [IntKind.wrap_i64, ← hP04]; omega
  have nd05 := mul_b6 (bM 0 (by omega)) (bM 5 (by omega))
  obtain ⟨P05, hP05⟩ : ∃ x, x = M 0 * M 5 := ⟨_, rfl⟩
  rw [← hP05] at nd05
  have v05 : IntKind.i64.wrap (M 0 * M 5) = P05 := by rw [IntKind.wrap_i64, ← hP05]; omega
  have nd07 := mul_b6 (bM 0 (by omega)) (bM 7 (by omega))
  obtain ⟨P07, hP07⟩ : ∃ x, x = M 0 * M 7 := ⟨_, rfl⟩
  rw [← hP07] at nd07
  have v07 : IntKind.i64.wrap (M 0 * M 7) = P07 := by rw [IntKind.wrap_i64, ← hP07]; omega
  have nd08 := mul_b6 (bM 0 (by omega)) (bM 8 (by omega))
  obtain ⟨P08, hP08⟩ : ∃ x, x = M 0 * M 8 := ⟨_, rfl⟩
  rw [← hP08] at nd08
  have v08 : IntKind.i64.wrap (M 0 * M 8) = P08 := by rw [IntKind.wrap_i64, ← hP08]; omega
  have nd13 := mul_b6 (bM 1 (by omega)) (bM 3 (by omega))
  obtain ⟨P13, hP13⟩ : ∃ x, x = M 1 * M 3 := ⟨_, rfl⟩
  rw [← hP13] at nd13
  have v13 : IntKind.i64.wrap (M 1 * M 3) = P13 := by rw [IntKind.wrap_i64, ← hP13]; omega
  have nd15 := mul_b6 (bM 1 (by omega)) (bM 5 (by omega))
  obtain ⟨P15, hP15⟩ : ∃ x, x = M 1 * M 5 := ⟨_, rfl⟩
  rw [← hP15] at nd15
  have v15 : IntKind.i64.wrap (M 1 * M 5) = P15 := by rw [IntKind.wrap_i64, ← hP15]; omega
  have nd16 := mul_b6 (bM 1 (by omega)) (bM 6 (by omega))
  obtain ⟨P16, hP16⟩ : ∃ x, x = M 1 * M 6 := ⟨_, rfl⟩
  rw [← hP16] at nd16
  have v16 : IntKind.i64.wrap (M 1 * M 6) = P16 := by rw [IntKind.wrap_i64, ← hP16]; omega
  have nd18 := mul_b6 (bM 1 (by omega)) (bM 8 (by omega))
  obtain ⟨P18, hP18⟩ : ∃ x, x = M 1 * M 8 := ⟨_, rfl⟩
  rw [← hP18] at nd18
  have v18 : IntKind.i64.wrap (M 1 * M 8) = P18 := by rw [IntKind.wrap_i64, ← hP18]; omega
  have nd23 := mul_b6 (bM 2 (by omega)) (bM 3 (by omega))
  obtain ⟨P23, hP23⟩ : ∃ x, x = M 2 * M 3 := ⟨_, rfl⟩
  rw [← hP23] at nd23
  have v23 : IntKind.i64.wrap (M 2 * M 3) = P23 := by rw [IntKind.wrap_i64, ← hP23]; omega
  have nd24 := mul_b6 (bM 2 (by omega)) (bM 4 (by omega))
  obtain ⟨P24, hP24⟩ : ∃ x, x = M 2 * M 4 := ⟨_, rfl⟩
  rw [← hP24] at nd24
  have v24 : IntKind.i64.wrap (M 2 * M 4) = P24 := by rw [IntKind.wrap_i64, ← hP24]; omega
  have nd26 := mul_b6 (bM 2 (by omega)) (bM 6 (by omega))
  obtain ⟨P26, hP26⟩ : ∃ x, x = M 2 * M 6 := ⟨_, rfl⟩
  rw [← hP26] at nd26
  have v26 : IntKind.i64.wrap (M 2 * M 6) = P26 := by rw [IntKind.wrap_i64, ← hP26]; omega
  have nd27 := mul_b6 (bM 2 (by omega)) (bM 7 (by omega))
  obtain ⟨P27, hP27⟩ : ∃ x, x = M 2 * M 7 := ⟨_, rfl⟩
  rw [← hP27] at nd27
  have v27 : IntKind.i64.wrap (M 2 * M 7) = P27 := by rw [IntKind.wrap_i64, ← hP27]; omega
  have nd37 := mul_b6 (bM 3 (by omega)) (bM 7 (by omega))
  obtain ⟨P37, hP37⟩ : ∃ x, x = M 3 * M 7 := ⟨_, rfl⟩
  rw [← hP37] at nd37
  have v37 : IntKind.i64.wrap (M 3 * M 7) = P37 := by rw [IntKind.wrap_i64, ← hP37]; omega
  have nd38 := mul_b6 (bM 3 (by omega)) (bM 8 (by omega))
  obtain ⟨P38, hP38⟩ : ∃ x, x = M 3 * M 8 := ⟨_, rfl⟩
  rw [← hP38] at nd38
  have v38 : IntKind.i64.wrap (M 3 * M 8) = P38 := by rw [IntKind.wrap_i64, ← hP38]; omega
  have nd46 := mul_b6 (bM 4 (by omega)) (bM 6 (by omega))
  obtain ⟨P46, hP46⟩ : ∃ x, x = M 4 * M 6 := ⟨_, rfl⟩
  rw [← hP46] at nd46
  have v46 : IntKind.i64.wrap (M 4 * M 6) = P46 := by rw [IntKind.wrap_i64, ← hP46]; omega
  have nd48 := mul_b6 (bM 4 (by omega)) (bM 8 (by omega))
  obtain ⟨P48, hP48⟩ : ∃ x, x = M 4 * M 8 := ⟨_, rfl⟩
  rw [← hP48] at nd48
  have v48 : IntKind.i64.wrap (M 4 * M 8) = P48 := by rw [IntKind.wrap_i64, ← hP48]; omega
  have nd56 := mul_b6 (bM 5 (by omega)) (bM 6 (by omega))
  obtain ⟨P56, hP56⟩ : ∃ x, x = M 5 * M 6 := ⟨_, rfl⟩
  rw [← hP56] at nd56
  have v56 : IntKind.i64.wrap (M 5 * M 6) = P56 := by rw [IntKind.wrap_i64, ← hP56]; omega
  have nd57 := mul_b6 (bM 5 (by omega)) (bM 7 (by omega))
  obtain ⟨P57, hP57⟩ : ∃ x, x = M 5 * M 7 := ⟨_, rfl⟩
  rw [← hP57] at nd57
  have v57 : IntKind.i64.wrap (M 5 * M 7) = P57 := by rw [IntKind.wrap_i64, ← hP57]; omega
  have hj0 : P48 - P57 = adjF M 0 := by rw [hP48, hP57]; show _ = adjF M 0; unfold adjF; simp only [Int.mul_comm]
  have vj0 : IntKind.i64.wrap (P48 - P57) = adjF M 0 := by rw [IntKind.wrap_i64, ← hj0]; omega
  have hj1 : P27 - P18 = adjF M 1 := by rw [hP27, hP18]; show _ = adjF M 1; unfold adjF; simp only [Int.mul_comm]
  have vj1 : IntKind.i64.wrap (P27 - P18) = adjF M 1 := by rw [IntKind.wrap_i64, ← hj1]; omega
  have hj2 : P15 - P24 = adjF M 2 := by rw [hP15, hP24]; show _ = adjF M 2; unfold adjF; simp only [Int.mul_comm]
  have vj2 : IntKind.i64.wrap (P15 - P24) = adjF M 2 := by rw [IntKind.wrap_i64, ← hj2]; omega
  have hj3 : P56 - P38 = adjF M 3 := by rw [hP56, hP38]; show _ = adjF M 3; unfold adjF; simp only [Int.mul_comm]
  have vj3 : IntKind.i64.wrap (P56 - P38) = adjF M 3 := by rw [IntKind.wrap_i64, ← hj3]; omega
  have hj4 : P08 - P26 = adjF M 4 := by rw [hP08, hP26]; show _ = adjF M 4; unfold adjF; simp only [Int.mul_comm]
  have vj4 : IntKind.i64.wrap (P08 - P26) = adjF M 4 := by rw [IntKind.wrap_i64, ← hj4]; omega
  have hj5 : P23 - P05 = adjF M 5 := by rw [hP23, hP05]; show _ = adjF M 5; unfold adjF; simp only [Int.mul_comm]
  have vj5 : IntKind.i64.wrap (P23 - P05) = adjF M 5 := by rw [IntKind.wrap_i64, ← hj5]; omega
  have hj6 : P37 - P46 = adjF M 6 := by rw [hP37, hP46]; show _ = adjF M 6; unfold adjF; simp only [Int.mul_comm]
  have vj6 : IntKind.i64.wrap (P37 - P46) = adjF M 6 := by rw [IntKind.wrap_i64, ← hj6]; omega
  have hj7 : P16 - P07 = adjF M 7 := by rw [hP16, hP07]; show _ = adjF M 7; unfold adjF; simp only [Int.mul_comm]
  have vj7 : IntKind.i64.wrap (P16 - P07) = adjF M 7 := by rw [IntKind.wrap_i64, ← hj7]; omega
  have hj8 : P04 - P13 = adjF M 8 := by rw [hP04, hP13]; show _ = adjF M 8; unfold adjF; simp only [Int.mul_comm]
  have vj8 : IntKind.i64.wrap (P04 - P13) = adjF M 8 := by rw [IntKind.wrap_i64, ← hj8]; omega
  clear nd04 hP04 nd05 hP05 nd07 hP07 nd08 hP08 nd13 hP13 nd15 hP15 nd16 hP16 nd18 hP18 nd23 hP23 nd24 hP24 nd26 hP26 nd27 hP27 nd37 hP37 nd38 hP38 nd46 hP46 nd48 hP48 nd56 hP56 nd57 hP57 hj0 hj1 hj2 hj3 hj4 hj5 hj6 hj7 hj8
  generalize adjF M = J at *
  generalize hdd : det9 M = dd at *
  clear hdd
  have HJ := hide hJ
  have BD := hide bD
  have BT := hide bT
  have BM := hide bM
  clear hJ bD bT bM hdet hdb hbl hbl' hl0 hl1
  go_enter Try.func12, Try.ntmps12
  go_wp2_with fail
  refine (c _ (HP0.out.below HS0.out.below) (HP1.out.below HS0.out.below)).mono ?_
  rintro e w1 ⟨rfl, hb⟩
  have HS1 := hide (HS0.out.next hb)
  clear hb c HS0
  have i0 := HS1.out.cell 1 rfl 0 rfl
  have m0 : w1.cell? ⟨b, off, none⟩ = some (Value.int .i64 (M 0)) := by obtain ⟨_, _, heq, hz⟩ := (HP0.out.below HS1.out.below).at (show 0 < 9 by omega); cases heq; exact hz
  have m1 : w1.cell? ⟨b, off + 1, none⟩ = some (Value.int .i64 (M 1)) := by obtain ⟨_, _, heq, hz⟩ := (HP0.out.below HS1.out.below).at (show 1 < 9 by omega); cases heq; exact hz
  have m2 : w1.cell? ⟨b, off + 2, none⟩ = some (Value.int .i64 (M 2)) := by obtain ⟨_, _, heq, hz⟩ := (HP0.out.below HS1.out.below).at (show 2 < 9 by omega); cases heq; exact hz
  have m3 : w1.cell? ⟨b, off + 3, none⟩ = some (Value.int .i64 (M 3)) := by obtain ⟨_, _, heq, hz⟩ := (HP0.out.below HS1.out.below).at (show 3 < 9 by omega); cases heq; exact hz
  have m4 : w1.cell? ⟨b, off + 4, none⟩ = some (Value.int .i64 (M 4)) := by obtain ⟨_, _, heq, hz⟩ := (HP0.out.below HS1.out.below).at (show 4 < 9 by omega); cases heq; exact hz
  have m5 : w1.cell? ⟨b, off + 5, none⟩ = some (Value.int .i64 (M 5)) := by obtain ⟨_, _, heq, hz⟩ := (HP0.out.below HS1.out.below).at (show 5 < 9 by omega); cases heq; exact hz
  have m6 : w1.cell? ⟨b, off + 6, none⟩ = some (Value.int .i64 (M 6)) := by obtain ⟨_, _, heq, hz⟩ := (HP0.out.below HS1.out.below).at (show 6 < 9 by omega); cases heq; exact hz
  have m7 : w1.cell? ⟨b, off + 7, none⟩ = some (Value.int .i64 (M 7)) := by obtain ⟨_, _, heq, hz⟩ := (HP0.out.below HS1.out.below).at (show 7 < 9 by omega); cases heq; exact hz
  have m8 : w1.cell? ⟨b, off + 8, none⟩ = some (Value.int .i64 (M 8)) := by obtain ⟨_, _, heq, hz⟩ := (HP0.out.below HS1.out.below).at (show 8 < 9 by omega); cases heq; exact hz
  have m0' := hide m0
  clear m0
  have m0 := m0'
  clear m0'
  have m1' := hide m1
  clear m1
  have m1 := m1'
  clear m1'
  have m2' := hide m2
  clear m2
  have m2 := m2'
  clear m2'
  have m3' := hide m3
  clear m3
  have m3 := m3'
  clear m3'
  have m4' := hide m4
  clear m4
  have m4 := m4'
  clear m4'
  have m5' := hide m5
  clear m5
  have m5 := m5'
  clear m5'
  have m6' := hide m6
  clear m6
  have m6 := m6'
  clear m6'
  have m7' := hide m7
  clear m7
  have m7 := m7'
  clear m7'
  have m8' := hide m8
  clear m8
  have m8 := m8'
  clear m8'
  go_upto_region 4 with fail
  go_cut [5] (fun s wc => s = .slice (some ⟨w1.heap.size, 0, none⟩) 9 9 ∧ wc = w1.drew.alloc (.cells (c9 J).toArray 2))
  case first =>
    rename_i J1 K1 hJ1 hK1
    obtain ⟨VS, hVS⟩ : ∃ VS : List Value, VS = [.slice (some ⟨b, off, none⟩) 9 c0, .pointer (some ⟨b, off + 4, none⟩), .int .i64 (M 4), .slice (some ⟨b, off, none⟩) 9 c0, .pointer (some ⟨b, off + 8, none⟩), .int .i64 (M 8), .int .i64 P48, .slice (some ⟨b, off, none⟩) 9 c0, .pointer (some ⟨b, off + 5, none⟩), .int .i64 (M 5), .slice (some ⟨b, off, none⟩) 9 c0, .pointer (some ⟨b, off + 7, none⟩), .int .i64 (M 7), .int .i64 P57, .int .i64 (J 0), .slice (some ⟨b, off, none⟩) 9 c0, .pointer (some ⟨b, off + 2, none⟩), .int .i64 (M 2), .slice (some ⟨b, off, none⟩) 9 c0, .pointer (some ⟨b, off + 7, none⟩), .int .i64 (M 7), .int .i64 P27, .slice (some ⟨b, off, none⟩) 9 c0, .pointer (some ⟨b, off + 1, none⟩), .int .i64 (M 1), .slice (some ⟨b, off, none⟩) 9 c0, .pointer (some ⟨b, off + 8, none⟩), .int .i64 (M 8), .int .i64 P18, .int .i64 (J 1), .slice (some ⟨b, off, none⟩) 9 c0, .pointer (some ⟨b, off + 1, none⟩), .int .i64 (M 1), .slice (some ⟨b, off, none⟩) 9 c0, .pointer (some ⟨b, off + 5, none⟩), .int .i64 (M 5), .int .i64 P15, .slice (some ⟨b, off, none⟩) 9 c0, .pointer (some ⟨b, off + 2, none⟩), .int .i64 (M 2), .slice (some ⟨b, off, none⟩) 9 c0, .pointer (some ⟨b, off + 4, none⟩), .int .i64 (M 4), .int .i64 P24, .int .i64 (J 2), .slice (some ⟨b, off, none⟩) 9 c0, .pointer (some ⟨b, off + 5, none⟩), .int .i64 (M 5), .slice (some ⟨b, off, none⟩) 9 c0, .pointer (some ⟨b, off + 6, none⟩), .int .i64 (M 6), .int .i64 P56, .slice (some ⟨b, off, none⟩) 9 c0, .pointer (some ⟨b, off + 3, none⟩), .int .i64 (M 3), .slice (some ⟨b, off, none⟩) 9 c0, .pointer (some ⟨b, off + 8, none⟩), .int .i64 (M 8), .int .i64 P38, .int .i64 (J 3), .slice (some ⟨b, off, none⟩) 9 c0, .pointer (some ⟨b, off, none⟩), .int .i64 (M 0), .slice (some ⟨b, off, none⟩) 9 c0, .pointer (some ⟨b, off + 8, none⟩), .int .i64 (M 8), .int .i64 P08, .slice (some ⟨b, off, none⟩) 9 c0, .pointer (some ⟨b, off + 2, none⟩), .int .i64 (M 2), .slice (some ⟨b, off, none⟩) 9 c0, .pointer (some ⟨b, off + 6, none⟩), .int .i64 (M 6), .int .i64 P26, .int .i64 (J 4), .slice (some ⟨b, off, none⟩) 9 c0, .pointer (some ⟨b, off + 2, none⟩), .int .i64 (M 2), .slice (some ⟨b, off, none⟩) 9 c0, .pointer (some ⟨b, off + 3, none⟩), .int .i64 (M 3), .int .i64 P23, .slice (some ⟨b, off, none⟩) 9 c0, .pointer (some ⟨b, off, none⟩), .int .i64 (M 0), .slice (some ⟨b, off, none⟩) 9 c0, .pointer (some ⟨b, off + 5, none⟩), .int .i64 (M 5), .int .i64 P05, .int .i64 (J 5), .slice (some ⟨b, off, none⟩) 9 c0, .pointer (some ⟨b, off + 3, none⟩), .int .i64 (M 3), .slice (some ⟨b, off, none⟩) 9 c0, .pointer (some ⟨b, off + 7, none⟩), .int .i64 (M 7), .int .i64 P37, .slice (some ⟨b, off, none⟩) 9 c0, .pointer (some ⟨b, off + 4, none⟩), .int .i64 (M 4), .slice (some ⟨b, off, none⟩) 9 c0, .pointer (some ⟨b, off + 6, none⟩), .int .i64 (M 6), .int .i64 P46, .int .i64 (J 6), .slice (some ⟨b, off, none⟩) 9 c0, .pointer (some ⟨b, off + 1, none⟩), .int .i64 (M 1), .slice (some ⟨b, off, none⟩) 9 c0, .pointer (some ⟨b, off + 6, none⟩), .int .i64 (M 6), .int .i64 P16, .slice (some ⟨b, off, none⟩) 9 c0, .pointer (some ⟨b, off, none⟩), .int .i64 (M 0), .slice (some ⟨b, off, none⟩) 9 c0, .pointer (some ⟨b, off + 7, none⟩), .int .i64 (M 7), .int .i64 P07, .int .i64 (J 7), .slice (some ⟨b, off, none⟩) 9 c0, .pointer (some ⟨b, off, none⟩), .int .i64 (M 0), .slice (some ⟨b, off, none⟩) 9 c0, .pointer (some ⟨b, off + 4, none⟩), .int .i64 (M 4), .int .i64 P04, .slice (some ⟨b, off, none⟩) 9 c0, .pointer (some ⟨b, off + 1, none⟩), .int .i64 (M 1), .slice (some ⟨b, off, none⟩) 9 c0, .pointer (some ⟨b, off + 3, none⟩), .int .i64 (M 3), .int .i64 P13, .int .i64 (J 8), .slice (some ⟨w1.heap.size, 0, none⟩) 9 9, .slice (some ⟨w1.heap.size, 0, none⟩) 9 9] := ⟨_, rfl⟩
    obtain ⟨G, hG⟩ : ∃ G : Nat → Value → Prop, G = (fun j v => VS[j]? = some v) := ⟨_, rfl⟩
    have HG : Hid (∀ (i : Nat) (x : Value), VS[i]? = some x → ∀ v, G i v ↔ v = x) := fun i x hx v => by rw [hG]; show VS[i]? = some v ↔ _; rw [hx]; exact ⟨fun h => (Option.some.inj h).symm, fun h => congrArg some h.symm⟩
    clear hG
    obtain ⟨PP, hPP⟩ : ∃ P : World → Prop, P = (fun wx => wx = w1.drew.alloc (.cells (c9 J).toArray 2)) := ⟨_, rfl⟩
    refine region_opsV (sR 135 w1) (sF 135 G PP) (by kernel_rfl) (by kernel_rfl) (by kernel_rfl) (by kernel_rfl) (fun _ => rfl) ?_ ?_
    · refine ⟨?_, ?_, ?_, ?_, ?_, ?_, ?_, ?_, ?_, ?_, ?_, ?_, ?_, ?_, ?_, ?_, ?_, ?_, ?_, ?_, ?_, ?_, ?_, ?_, ?_, ?_, ?_, ?_, ?_, ?_, ?_, ?_, ?_, ?_, ?_, ?_, ?_, ?_, ?_, ?_, ?_, ?_, ?_, ?_, ?_, ?_, ?_, ?_, ?_, ?_, ?_, ?_, ?_, ?_, ?_, ?_, ?_, ?_, ?_, ?_, ?_, ?_, ?_, ?_, ?_, ?_, ?_, ?_, ?_, ?_, ?_, ?_, ?_, ?_, ?_, ?_, ?_, ?_, ?_, ?_, ?_, ?_, ?_, ?_, ?_, ?_, ?_, ?_, ?_, ?_, ?_, ?_, ?_, ?_, ?_, ?_, ?_, ?_, ?_, ?_, ?_, ?_, ?_, ?_, ?_, ?_, ?_, ?_, ?_, ?_, ?_, ?_, ?_, ?_, ?_, ?_, ?_, ?_, ?_, ?_, ?_, ?_, ?_, ?_, ?_, ?_, ?_, ?_, ?_, ?_, ?_, ?_, ?_, ?_, ?_, ?_, ?_, trivial⟩
      ·
        intro u w21 au hsl hel hu hF hp' K hK
        have t4 : au.tmps[4]?.getD undef = .slice (some ⟨b, off, none⟩) 9 c0 := (hel.out 4 (by kernel_rfl)).trans (by kernel_rfl)
        refine step_plain rfl ?_
        go_simp
        exact hK.out (.slice (some ⟨b, off, none⟩) 9 c0) _ (sR_up hF 0 (by omega) _) (sF_val 0 (by omega) ((HG.out 0 (.slice (some ⟨b, off, none⟩) 9 c0) (by rw [hVS]; rfl) _).2 rfl)) (fun j hj hf h => sF_up 0 _ j hj (fun e => by subst e; exact absurd (Eq.trans (Eq.symm (by kernel_rfl)) hf) Bool.false_ne_true) h)
      ·
        intro u w21 au hsl hel hu hF hp' K hK
        have h0 : u 0 = .slice (some ⟨b, off, none⟩) 9 c0 := (HG.out 0 (.slice (some ⟨b, off, none⟩) 9 c0) (by rw [hVS]; rfl) _).1 (PreF.get hp' 0 (by kernel_rfl)).1
        have t16 : au.tmps[16]?.getD undef = u 0 := hsl.out 0 16 (by kernel_rfl)
        rw [h0] at t16
        refine step_plain rfl ?_
        go_simp
        exact hK.out (.pointer (some ⟨b, off + 4, none⟩)) _ (sR_up hF 1 (by omega) _) (sF_val 1 (by omega) ((HG.out 1 (.pointer (some ⟨b, off + 4, none⟩)) (by rw [hVS]; rfl) _).2 rfl)) (fun j hj hf h => sF_up 1 _ j hj (fun e => by subst e; exact absurd (Eq.trans (Eq.symm (by kernel_rfl)) hf) Bool.false_ne_true) h)
      ·
        intro u w21 au hsl hel hu hF hp' K hK
        have h1 : u 1 = .pointer (some ⟨b, off + 4, none⟩) := (HG.out 1 (.pointer (some ⟨b, off + 4, none⟩)) (by rw [hVS]; rfl) _).1 (PreF.get hp' 1 (by kernel_rfl)).1
        have t17 : au.tmps[17]?.getD undef = u 1 := hsl.out 1 17 (by kernel_rfl)
        rw [h1] at t17
        have hw : w21 = w1.drew := hF ((hu.out 135 (by decide) (.inr (by kernel_rfl))).trans (by kernel_rfl))
        have xc : w21.cell? ⟨b, off + 4, none⟩ = some (.int .i64 (M 4)) := by rw [hw]; exact m4.out
        clear hw
        refine step_plain rfl ?_
        go_simp
        exact hK.out (.int .i64 (M 4)) _ (sR_up hF 2 (by omega) _) (sF_val 2 (by omega) ((HG.out 2 (.int .i64 (M 4)) (by rw [hVS]; rfl) _).2 rfl)) (fun j hj hf h => sF_up 2 _ j hj (fun e => by subst e; exact absurd (Eq.trans (Eq.symm (by kernel_rfl)) hf) Bool.false_ne_true) h)
      ·
        intro u w21 au hsl hel hu hF hp' K hK
        have t4 : au.tmps[4]?.getD undef = .slice (some ⟨b, off, none⟩) 9 c0 := (hel.out 4 (by kernel_rfl)).trans (by kernel_rfl)
        refine step_plain rfl ?_
        go_simp
        exact hK.out (.slice (some ⟨b, off, none⟩) 9 c0) _ (sR_up hF 3 (by omega) _) (sF_val 3 (by omega) ((HG.out 3 (.slice (some ⟨b, off, none⟩) 9 c0) (by rw [hVS]; rfl) _).2 rfl)) (fun j hj hf h => sF_up 3 _ j hj (fun e => by subst e; exact absurd (Eq.trans (Eq.symm (by kernel_rfl)) hf) Bool.false_ne_true) h)
      ·
        intro u w21 au hsl hel hu hF hp' K hK
        have h3 : u 3 = .slice (some ⟨b, off, none⟩) 9 c0 := (HG.out 3 (.slice (some ⟨b, off, none⟩) 9 c0) (by rw [hVS]; rfl) _).1 (PreF.get hp' 3 (by kernel_rfl)).1
        have t19 : au.tmps[19]?.getD undef = u 3 := hsl.out 3 19 (by kernel_rfl)
        rw [h3] at t19
        refine step_plain rfl ?_
        go_simp
        exact hK.out (.pointer (some ⟨b, off + 8, none⟩)) _ (sR_up hF 4 (by omega) _) (sF_val 4 (by omega) ((HG.out 4 (.pointer (some ⟨b, off + 8, none⟩)) (by rw [hVS]; rfl) _).2 rfl)) (fun j hj hf h => sF_up 4 _ j hj (fun e => by subst e; exact absurd (Eq.trans (Eq.symm (by kernel_rfl)) hf) Bool.false_ne_true) h)
      ·
        intro u w21 au hsl hel hu hF hp' K hK
        have h4 : u 4 = .pointer (some ⟨b, off + 8, none⟩) := (HG.out 4 (.pointer (some ⟨b, off + 8, none⟩)) (by rw [hVS]; rfl) _).1 (PreF.get hp' 4 (by kernel_rfl)).1
        have t20 : au.tmps[20]?.getD undef = u 4 := hsl.out 4 20 (by kernel_rfl)
        rw [h4] at t20
        have hw : w21 = w1.drew := hF ((hu.out 135 (by decide) (.inr (by kernel_rfl))).trans (by kernel_rfl))
        have xc : w21.cell? ⟨b, off + 8, none⟩ = some (.int .i64 (M 8)) := by rw [hw]; exact m8.out
        clear hw
        refine step_plain rfl ?_
        go_simp
        exact hK.out (.int .i64 (M 8)) _ (sR_up hF 5 (by omega) _) (sF_val 5 (by omega) ((HG.out 5 (.int .i64 (M 8)) (by rw [hVS]; rfl) _).2 rfl)) (fun j hj hf h => sF_up 5 _ j hj (fun e => by subst e; exact absurd (Eq.trans (Eq.symm (by kernel_rfl)) hf) Bool.false_ne_true) h)
      ·
        intro u w21 au hsl hel hu hF hp' K hK
        have h2 : u 2 = .int .i64 (M 4) := (HG.out 2 (.int .i64 (M 4)) (by rw [hVS]; rfl) _).1 (PreF.get hp' 2 (by kernel_rfl)).1
        have t18 : au.tmps[18]?.getD undef = u 2 := hsl.out 2 18 (by kernel_rfl)
        rw [h2] at t18
        have h5 : u 5 = .int .i64 (M 8) := (HG.out 5 (.int .i64 (M 8)) (by rw [hVS]; rfl) _).1 (PreF.get hp' 5 (by kernel_rfl)).1
        have t21 : au.tmps[21]?.getD undef = u 5 := hsl.out 5 21 (by kernel_rfl)
        rw [h5] at t21
        refine step_plain rfl ?_
        go_simp
        exact hK.out (.int .i64 P48) _ (sR_up hF 6 (by omega) _) (sF_val 6 (by omega) ((HG.out 6 (.int .i64 P48) (by rw [hVS]; rfl) _).2 rfl)) (fun j hj hf h => sF_up 6 _ j hj (fun e => by subst e; exact absurd (Eq.trans (Eq.symm (by kernel_rfl)) hf) Bool.false_ne_true) h)
      ·
        intro u w21 au hsl hel hu hF hp' K hK
        have t4 : au.tmps[4]?.getD undef = .slice (some ⟨b, off, none⟩) 9 c0 := (hel.out 4 (by kernel_rfl)).trans (by kernel_rfl)
        refine step_plain rfl ?_
        go_simp
        exact hK.out (.slice (some ⟨b, off, none⟩) 9 c0) _ (sR_up hF 7 (by omega) _) (sF_val 7 (by omega) ((HG.out 7 (.slice (some ⟨b, off, none⟩) 9 c0) (by rw [hVS]; rfl) _).2 rfl)) (fun j hj hf h => sF_up 7 _ j hj (fun e => by subst e; exact absurd (Eq.trans (Eq.symm (by kernel_rfl)) hf) Bool.false_ne_true) h)
      ·
        intro u w21 au hsl hel hu hF hp' K hK
        have h7 : u 7 = .slice (some ⟨b, off, none⟩) 9 c0 := (HG.out 7 (.slice (some ⟨b, off, none⟩) 9 c0) (by rw [hVS]; rfl) _).1 (PreF.get hp' 7 (by kernel_rfl)).1
        have t23 : au.tmps[23]?.getD undef = u 7 := hsl.out 7 23 (by kernel_rfl)
        rw [h7] at t23
        refine step_plain rfl ?_
        go_simp
        exact hK.out (.pointer (some ⟨b, off + 5, none⟩)) _ (sR_up hF 8 (by omega) _) (sF_val 8 (by omega) ((HG.out 8 (.pointer (some ⟨b, off + 5, none⟩)) (by rw [hVS]; rfl) _).2 rfl)) (fun j hj hf h => sF_up 8 _ j hj (fun e => by subst e; exact absurd (Eq.trans (Eq.symm (by kernel_rfl)) hf) Bool.false_ne_true) h)
      ·
        intro u w21 au hsl hel hu hF hp' K hK
        have h8 : u 8 = .pointer (some ⟨b, off + 5, none⟩) := (HG.out 8 (.pointer (some ⟨b, off + 5, none⟩)) (by rw [hVS]; rfl) _).1 (PreF.get hp' 8 (by kernel_rfl)).1
        have t24 : au.tmps[24]?.getD undef = u 8 := hsl.out 8 24 (by kernel_rfl)
        rw [h8] at t24
        have hw : w21 = w1.drew := hF ((hu.out 135 (by decide) (.inr (by kernel_rfl))).trans (by kernel_rfl))
        have xc : w21.cell? ⟨b, off + 5, none⟩ = some (.int .i64 (M 5)) := by rw [hw]; exact m5.out
        clear hw
        refine step_plain rfl ?_
        go_simp
        exact hK.out (.int .i64 (M 5)) _ (sR_up hF 9 (by omega) _) (sF_val 9 (by omega) ((HG.out 9 (.int .i64 (M 5)) (by rw [hVS]; rfl) _).2 rfl)) (fun j hj hf h => sF_up 9 _ j hj (fun e => by subst e; exact absurd (Eq.trans (Eq.symm (by kernel_rfl)) hf) Bool.false_ne_true) h)
      ·
        intro u w21 au hsl hel hu hF hp' K hK
        have t4 : au.tmps[4]?.getD undef = .slice (some ⟨b, off, none⟩) 9 c0 := (hel.out 4 (by kernel_rfl)).trans (by kernel_rfl)
        refine step_plain rfl ?_
        go_simp
        exact hK.out (.slice (some ⟨b, off, none⟩) 9 c0) _ (sR_up hF 10 (by omega) _) (sF_val 10 (by omega) ((HG.out 10 (.slice (some ⟨b, off, none⟩) 9 c0) (by rw [hVS]; rfl) _).2 rfl)) (fun j hj hf h => sF_up 10 _ j hj (fun e => by subst e; exact absurd (Eq.trans (Eq.symm (by kernel_rfl)) hf) Bool.false_ne_true) h)
      ·
        intro u w21 au hsl hel hu hF hp' K hK
        have h10 : u 10 = .slice (some ⟨b, off, none⟩) 9 c0 := (HG.out 10 (.slice (some ⟨b, off, none⟩) 9 c0) (by rw [hVS]; rfl) _).1 (PreF.get hp' 10 (by kernel_rfl)).1
        have t26 : au.tmps[26]?.getD undef = u 10 := hsl.out 10 26 (by kernel_rfl)
        rw [h10] at t26
        refine step_plain rfl ?_
        go_simp
        exact hK.out (.pointer (some ⟨b, off + 7, none⟩)) _ (sR_up hF 11 (by omega) _) (sF_val 11 (by omega) ((HG.out 11 (.pointer (some ⟨b, off + 7, none⟩)) (by rw [hVS]; rfl) _).2 rfl)) (fun j hj hf h => sF_up 11 _ j hj (fun e => by subst e; exact absurd (Eq.trans (Eq.symm (by kernel_rfl)) hf) Bool.false_ne_true) h)
      ·
        intro u w21 au hsl hel hu hF hp' K hK
        have h11 : u 11 = .pointer (some ⟨b, off + 7, none⟩) := (HG.out 11 (.pointer (some ⟨b, off + 7, none⟩)) (by rw [hVS]; rfl) _).1 (PreF.get hp' 11 (by kernel_rfl)).1
        have t27 : au.tmps[27]?.getD undef = u 11 := hsl.out 11 27 (by kernel_rfl)
        rw [h11] at t27
        have hw : w21 = w1.drew := hF ((hu.out 135 (by decide) (.inr (by kernel_rfl))).trans (by kernel_rfl))
        have xc : w21.cell? ⟨b, off + 7, none⟩ = some (.int .i64 (M 7)) := by rw [hw]; exact m7.out
        clear hw
        refine step_plain rfl ?_
        go_simp
        exact hK.out (.int .i64 (M 7)) _ (sR_up hF 12 (by omega) _) (sF_val 12 (by omega) ((HG.out 12 (.int .i64 (M 7)) (by rw [hVS]; rfl) _).2 rfl)) (fun j hj hf h => sF_up 12 _ j hj (fun e => by subst e; exact absurd (Eq.trans (Eq.symm (by kernel_rfl)) hf) Bool.false_ne_true) h)
      ·
        intro u w21 au hsl hel hu hF hp' K hK
        have h9 : u 9 = .int .i64 (M 5) := (HG.out 9 (.int .i64 (M 5)) (by rw [hVS]; rfl) _).1 (PreF.get hp' 9 (by kernel_rfl)).1
        have t25 : au.tmps[25]?.getD undef = u 9 := hsl.out 9 25 (by kernel_rfl)
        rw [h9] at t25
        have h12 : u 12 = .int .i64 (M 7) := (HG.out 12 (.int .i64 (M 7)) (by rw [hVS]; rfl) _).1 (PreF.get hp' 12 (by kernel_rfl)).1
        have t28 : au.tmps[28]?.getD undef = u 12 := hsl.out 12 28 (by kernel_rfl)
        rw [h12] at t28
        refine step_plain rfl ?_
        go_simp
        exact hK.out (.int .i64 P57) _ (sR_up hF 13 (by omega) _) (sF_val 13 (by omega) ((HG.out 13 (.int .i64 P57) (by rw [hVS]; rfl) _).2 rfl)) (fun j hj hf h => sF_up 13 _ j hj (fun e => by subst e; exact absurd (Eq.trans (Eq.symm (by kernel_rfl)) hf) Bool.false_ne_true) h)
      ·
        intro u w21 au hsl hel hu hF hp' K hK
        have h6 : u 6 = .int .i64 P48 := (HG.out 6 (.int .i64 P48) (by rw [hVS]; rfl) _).1 (PreF.get hp' 6 (by kernel_rfl)).1
        have t22 : au.tmps[22]?.getD undef = u 6 := hsl.out 6 22 (by kernel_rfl)
        rw [h6] at t22
        have h13 : u 13 = .int .i64 P57 := (HG.out 13 (.int .i64 P57) (by rw [hVS]; rfl) _).1 (PreF.get hp' 13 (by kernel_rfl)).1
        have t29 : au.tmps[29]?.getD undef = u 13 := hsl.out 13 29 (by kernel_rfl)
        rw [h13] at t29
        refine step_plain rfl ?_
        go_simp
        exact hK.out (.int .i64 (J 0)) _ (sR_up hF 14 (by omega) _) (sF_val 14 (by omega) ((HG.out 14 (.int .i64 (J 0)) (by rw [hVS]; rfl) _).2 rfl)) (fun j hj hf h => sF_up 14 _ j hj (fun e => by subst e; exact absurd (Eq.trans (Eq.symm (by kernel_rfl)) hf) Bool.false_ne_true) h)
      ·
        intro u w21 au hsl hel hu hF hp' K hK
        have t4 : au.tmps[4]?.getD undef = .slice (some ⟨b, off, none⟩) 9 c0 := (hel.out 4 (by kernel_rfl)).trans (by kernel_rfl)
        refine step_plain rfl ?_
        go_simp
        exact hK.out (.slice (some ⟨b, off, none⟩) 9 c0) _ (sR_up hF 15 (by omega) _) (sF_val 15 (by omega) ((HG.out 15 (.slice (some ⟨b, off, none⟩) 9 c0) (by rw [hVS]; rfl) _).2 rfl)) (fun j hj hf h => sF_up 15 _ j hj (fun e => by subst e; exact absurd (Eq.trans (Eq.symm (by kernel_rfl)) hf) Bool.false_ne_true) h)
      ·
        intro u w21 au hsl hel hu hF hp' K hK
        have h15 : u 15 = .slice (some ⟨b, off, none⟩) 9 c0 := (HG.out 15 (.slice (some ⟨b, off, none⟩) 9 c0) (by rw [hVS]; rfl) _).1 (PreF.get hp' 15 (by kernel_rfl)).1
        have t31 : au.tmps[31]?.getD undef = u 15 := hsl.out 15 31 (by kernel_rfl)
        rw [h15] at t31
        refine step_plain rfl ?_
        go_simp
        exact hK.out (.pointer (some ⟨b, off + 2, none⟩)) _ (sR_up hF 16 (by omega) _) (sF_val 16 (by omega) ((HG.out 16 (.pointer (some ⟨b, off + 2, none⟩)) (by rw [hVS]; rfl) _).2 rfl)) (fun j hj hf h => sF_up 16 _ j hj (fun e => by subst e; exact absurd (Eq.trans (Eq.symm (by kernel_rfl)) hf) Bool.false_ne_true) h)
      ·
        intro u w21 au hsl hel hu hF hp' K hK
        have h16 : u 16 = .pointer (some ⟨b, off + 2, none⟩) := (HG.out 16 (.pointer (some ⟨b, off + 2, none⟩)) (by rw [hVS]; rfl) _).1 (PreF.get hp' 16 (by kernel_rfl)).1
        have t32 : au.tmps[32]?.getD undef = u 16 := hsl.out 16 32 (by kernel_rfl)
        rw [h16] at t32
        have hw : w21 = w1.drew := hF ((hu.out 135 (by decide) (.inr (by kernel_rfl))).trans (by kernel_rfl))
        have xc : w21.cell? ⟨b, off + 2, none⟩ = some (.int .i64 (M 2)) := by rw [hw]; exact m2.out
        clear hw
        refine step_plain rfl ?_
        go_simp
        exact hK.out (.int .i64 (M 2)) _ (sR_up hF 17 (by omega) _) (sF_val 17 (by omega) ((HG.out 17 (.int .i64 (M 2)) (by rw [hVS]; rfl) _).2 rfl)) (fun j hj hf h => sF_up 17 _ j hj (fun e => by subst e; exact absurd (Eq.trans (Eq.symm (by kernel_rfl)) hf) Bool.false_ne_true) h)
      ·
        intro u w21 au hsl hel hu hF hp' K hK
        have t4 : au.tmps[4]?.getD undef = .slice (some ⟨b, off, none⟩) 9 c0 := (hel.out 4 (by kernel_rfl)).trans (by kernel_rfl)
        refine step_plain rfl ?_
        go_simp
        exact hK.out (.slice (some ⟨b, off, none⟩) 9 c0) _ (sR_up hF 18 (by omega) _) (sF_val 18 (by omega) ((HG.out 18 (.slice (some ⟨b, off, none⟩) 9 c0) (by rw [hVS]; rfl) _).2 rfl)) (fun j hj hf h => sF_up 18 _ j hj (fun e => by subst e; exact absurd (Eq.trans (Eq.symm (by kernel_rfl)) hf) Bool.false_ne_true) h)
      ·
        intro u w21 au hsl hel hu hF hp' K hK
        have h18 : u 18 = .slice (some ⟨b, off, none⟩) 9 c0 := (HG.out 18 (.slice (some ⟨b, off, none⟩) 9 c0) (by rw [hVS]; rfl) _).1 (PreF.get hp' 18 (by kernel_rfl)).1
        have t34 : au.tmps[34]?.getD undef = u 18 := hsl.out 18 34 (by kernel_rfl)
        rw [h18] at t34
        refine step_plain rfl ?_
        go_simp
        exact hK.out (.pointer (some ⟨b, off + 7, none⟩)) _ (sR_up hF 19 (by omega) _) (sF_val 19 (by omega) ((HG.out 19 (.pointer (some ⟨b, off + 7, none⟩)) (by rw [hVS]; rfl) _).2 rfl)) (fun j hj hf h => sF_up 19 _ j hj (fun e => by subst e; exact absurd (Eq.trans (Eq.symm (by kernel_rfl)) hf) Bool.false_ne_true) h)
      ·
        intro u w21 au hsl hel hu hF hp' K hK
        have h19 : u 19 = .pointer (some ⟨b, off + 7, none⟩) := (HG.out 19 (.pointer (some ⟨b, off + 7, none⟩)) (by rw [hVS]; rfl) _).1 (PreF.get hp' 19 (by kernel_rfl)).1
        have t35 : au.tmps[35]?.getD undef = u 19 := hsl.out 19 35 (by kernel_rfl)
        rw [h19] at t35
        have hw : w21 = w1.drew := hF ((hu.out 135 (by decide) (.inr (by kernel_rfl))).trans (by kernel_rfl))
        have xc : w21.cell? ⟨b, off + 7, none⟩ = some (.int .i64 (M 7)) := by rw [hw]; exact m7.out
        clear hw
        refine step_plain rfl ?_
        go_simp
        exact hK.out (.int .i64 (M 7)) _ (sR_up hF 20 (by omega) _) (sF_val 20 (by omega) ((HG.out 20 (.int .i64 (M 7)) (by rw [hVS]; rfl) _).2 rfl)) (fun j hj hf h => sF_up 20 _ j hj (fun e => by subst e; exact absurd (Eq.trans (Eq.symm (by kernel_rfl)) hf) Bool.false_ne_true) h)
      ·
        intro u w21 au hsl hel hu hF hp' K hK
        have h17 : u 17 = .int .i64 (M 2) := (HG.out 17 (.int .i64 (M 2)) (by rw [hVS]; rfl) _).1 (PreF.get hp' 17 (by kernel_rfl)).1
        have t33 : au.tmps[33]?.getD undef = u 17 := hsl.out 17 33 (by kernel_rfl)
        rw [h17] at t33
        have h20 : u 20 = .int .i64 (M 7) := (HG.out 20 (.int .i64 (M 7)) (by rw [hVS]; rfl) _).1 (PreF.get hp' 20 (by kernel_rfl)).1
        have t36 : au.tmps[36]?.getD undef = u 20 := hsl.out 20 36 (by kernel_rfl)
        rw [h20] at t36
        refine step_plain rfl ?_
        go_simp
        exact hK.out (.int .i64 P27) _ (sR_up hF 21 (by omega) _) (sF_val 21 (by omega) ((HG.out 21 (.int .i64 P27) (by rw [hVS]; rfl) _).2 rfl)) (fun j hj hf h => sF_up 21 _ j hj (fun e => by subst e; exact absurd (Eq.trans (Eq.symm (by kernel_rfl)) hf) Bool.false_ne_true) h)
      ·
        intro u w21 au hsl hel hu hF hp' K hK
        have t4 : au.tmps[4]?.getD undef = .slice (some ⟨b, off, none⟩) 9 c0 := (hel.out 4 (by kernel_rfl)).trans (by kernel_rfl)
        refine step_plain rfl ?_
        go_simp
        exact hK.out (.slice (some ⟨b, off, none⟩) 9 c0) _ (sR_up hF 22 (by omega) _) (sF_val 22 (by omega) ((HG.out 22 (.slice (some ⟨b, off, none⟩) 9 c0) (by rw [hVS]; rfl) _).2 rfl)) (fun j hj hf h => sF_up 22 _ j hj (fun e => by subst e; exact absurd (Eq.trans (Eq.symm (by kernel_rfl)) hf) Bool.false_ne_true) h)
      ·
        intro u w21 au hsl hel hu hF hp' K hK
        have h22 : u 22 = .slice (some ⟨b, off, none⟩) 9 c0 := (HG.out 22 (.slice (some ⟨b, off, none⟩) 9 c0) (by rw [hVS]; rfl) _).1 (PreF.get hp' 22 (by kernel_rfl)).1
        have t38 : au.tmps[38]?.getD undef = u 22 := hsl.out 22 38 (by kernel_rfl)
        rw [h22] at t38
        refine step_plain rfl ?_
        go_simp
        exact hK.out (.pointer (some ⟨b, off + 1, none⟩)) _ (sR_up hF 23 (by omega) _) (sF_val 23 (by omega) ((HG.out 23 (.pointer (some ⟨b, off + 1, none⟩)) (by rw [hVS]; rfl) _).2 rfl)) (fun j hj hf h => sF_up 23 _ j hj (fun e => by subst e; exact absurd (Eq.trans (Eq.symm (by kernel_rfl)) hf) Bool.false_ne_true) h)
      ·
        intro u w21 au hsl hel hu hF hp' K hK
        have h23 : u 23 = .pointer (some ⟨b, off + 1, none⟩) := (HG.out 23 (.pointer (some ⟨b, off + 1, none⟩)) (by rw [hVS]; rfl) _).1 (PreF.get hp' 23 (by kernel_rfl)).1
        have t39 : au.tmps[39]?.getD undef = u 23 := hsl.out 23 39 (by kernel_rfl)
        rw [h23] at t39
        have hw : w21 = w1.drew := hF ((hu.out 135 (by decide) (.inr (by kernel_rfl))).trans (by kernel_rfl))
        have xc : w21.cell? ⟨b, off + 1, none⟩ = some (.int .i64 (M 1)) := by rw [hw]; exact m1.out
        clear hw
        refine step_plain rfl ?_
        go_simp
        exact hK.out (.int .i64 (M 1)) _ (sR_up hF 24 (by omega) _) (sF_val 24 (by omega) ((HG.out 24 (.int .i64 (M 1)) (by rw [hVS]; rfl) _).2 rfl)) (fun j hj hf h => sF_up 24 _ j hj (fun e => by subst e; exact absurd (Eq.trans (Eq.symm (by kernel_rfl)) hf) Bool.false_ne_true) h)
      ·
        intro u w21 au hsl hel hu hF hp' K hK
        have t4 : au.tmps[4]?.getD undef = .slice (some ⟨b, off, none⟩) 9 c0 := (hel.out 4 (by kernel_rfl)).trans (by kernel_rfl)
        refine step_plain rfl ?_
        go_simp
        exact hK.out (.slice (some ⟨b, off, none⟩) 9 c0) _ (sR_up hF 25 (by omega) _) (sF_val 25 (by omega) ((HG.out 25 (.slice (some ⟨b, off, none⟩) 9 c0) (by rw [hVS]; rfl) _).2 rfl)) (fun j hj hf h => sF_up 25 _ j hj (fun e => by subst e; exact absurd (Eq.trans (Eq.symm (by kernel_rfl)) hf) Bool.false_ne_true) h)
      ·
        intro u w21 au hsl hel hu hF hp' K hK
        have h25 : u 25 = .slice (some ⟨b, off, none⟩) 9 c0 := (HG.out 25 (.slice (some ⟨b, off, none⟩) 9 c0) (by rw [hVS]; rfl) _).1 (PreF.get hp' 25 (by kernel_rfl)).1
        have t41 : au.tmps[41]?.getD undef = u 25 := hsl.out 25 41 (by kernel_rfl)
        rw [h25] at t41
        refine step_plain rfl ?_
        go_simp
        exact hK.out (.pointer (some ⟨b, off + 8, none⟩)) _ (sR_up hF 26 (by omega) _) (sF_val 26 (by omega) ((HG.out 26 (.pointer (some ⟨b, off + 8, none⟩)) (by rw [hVS]; rfl) _).2 rfl)) (fun j hj hf h => sF_up 26 _ j hj (fun e => by subst e; exact absurd (Eq.trans (Eq.symm (by kernel_rfl)) hf) Bool.false_ne_true) h)
      ·
        intro u w21 au hsl hel hu hF hp' K hK
        have h26 : u 26 = .pointer (some ⟨b, off + 8, none⟩) := (HG.out 26 (.pointer (some ⟨b, off + 8, none⟩)) (by rw [hVS]; rfl) _).1 (PreF.get hp' 26 (by kernel_rfl)).1
        have t42 : au.tmps[42]?.getD undef = u 26 := hsl.out 26 42 (by kernel_rfl)
        rw [h26] at t42
        have hw : w21 = w1.drew := hF ((hu.out 135 (by decide) (.inr (by kernel_rfl))).trans (by kernel_rfl))
        have xc : w21.cell? ⟨b, off + 8, none⟩ = some (.int .i64 (M 8)) := by rw [hw]; exact m8.out
        clear hw
        refine step_plain rfl ?_
        go_simp
        exact hK.out (.int .i64 (M 8)) _ (sR_up hF 27 (by omega) _) (sF_val 27 (by omega) ((HG.out 27 (.int .i64 (M 8)) (by rw [hVS]; rfl) _).2 rfl)) (fun j hj hf h => sF_up 27 _ j hj (fun e => by subst e; exact absurd (Eq.trans (Eq.symm (by kernel_rfl)) hf) Bool.false_ne_true) h)
      ·
        intro u w21 au hsl hel hu hF hp' K hK
        have h24 : u 24 = .int .i64 (M 1) := (HG.out 24 (.int .i64 (M 1)) (by rw [hVS]; rfl) _).1 (PreF.get hp' 24 (by kernel_rfl)).1
        have t40 : au.tmps[40]?.getD undef = u 24 := hsl.out 24 40 (by kernel_rfl)
        rw [h24] at t40
        have h27 : u 27 = .int .i64 (M 8) := (HG.out 27 (.int .i64 (M 8)) (by rw [hVS]; rfl) _).1 (PreF.get hp' 27 (by kernel_rfl)).1
        have t43 : au.tmps[43]?.getD undef = u 27 := hsl.out 27 43 (by kernel_rfl)
        rw [h27] at t43
        refine step_plain rfl ?_
        go_simp
        exact hK.out (.int .i64 P18) _ (sR_up hF 28 (by omega) _) (sF_val 28 (by omega) ((HG.out 28 (.int .i64 P18) (by rw [hVS]; rfl) _).2 rfl)) (fun j hj hf h => sF_up 28 _ j hj (fun e => by subst e; exact absurd (Eq.trans (Eq.symm (by kernel_rfl)) hf) Bool.false_ne_true) h)
      ·
        intro u w21 au hsl hel hu hF hp' K hK
        have h21 : u 21 = .int .i64 P27 := (HG.out 21 (.int .i64 P27) (by rw [hVS]; rfl) _).1 (PreF.get hp' 21 (by kernel_rfl)).1
        have t37 : au.tmps[37]?.getD undef = u 21 := hsl.out 21 37 (by kernel_rfl)
        rw [h21] at t37
        have h28 : u 28 = .int .i64 P18 := (HG.out 28 (.int .i64 P18) (by rw [hVS]; rfl) _).1 (PreF.get hp' 28 (by kernel_rfl)).1
        have t44 : au.tmps[44]?.getD undef = u 28 := hsl.out 28 44 (by kernel_rfl)
        rw [h28] at t44
        refine step_plain rfl ?_
        go_simp
        exact hK.out (.int .i64 (J 1)) _ (sR_up hF 29 (by omega) _) (sF_val 29 (by omega) ((HG.out 29 (.int .i64 (J 1)) (by rw [hVS]; rfl) _).2 rfl)) (fun j hj hf h => sF_up 29 _ j hj (fun e => by subst e; exact absurd (Eq.trans (Eq.symm (by kernel_rfl)) hf) Bool.false_ne_true) h)
      ·
        intro u w21 au hsl hel hu hF hp' K hK
        have t4 : au.tmps[4]?.getD undef = .slice (some ⟨b, off, none⟩) 9 c0 := (hel.out 4 (by kernel_rfl)).trans (by kernel_rfl)
        refine step_plain rfl ?_
        go_simp
        exact hK.out (.slice (some ⟨b, off, none⟩) 9 c0) _ (sR_up hF 30 (by omega) _) (sF_val 30 (by omega) ((HG.out 30 (.slice (some ⟨b, off, none⟩) 9 c0) (by rw [hVS]; rfl) _).2 rfl)) (fun j hj hf h => sF_up 30 _ j hj (fun e => by subst e; exact absurd (Eq.trans (Eq.symm (by kernel_rfl)) hf) Bool.false_ne_true) h)
      ·
        intro u w21 au hsl hel hu hF hp' K hK
        have h30 : u 30 = .slice (some ⟨b, off, none⟩) 9 c0 := (HG.out 30 (.slice (some ⟨b, off, none⟩) 9 c0) (by rw [hVS]; rfl) _).1 (PreF.get hp' 30 (by kernel_rfl)).1
        have t46 : au.tmps[46]?.getD undef = u 30 := hsl.out 30 46 (by kernel_rfl)
        rw [h30] at t46
        refine step_plain rfl ?_
        go_simp
        exact hK.out (.pointer (some ⟨b, off + 1, none⟩)) _ (sR_up hF 31 (by omega) _) (sF_val 31 (by omega) ((HG.out 31 (.pointer (some ⟨b, off + 1, none⟩)) (by rw [hVS]; rfl) _).2 rfl)) (fun j hj hf h => sF_up 31 _ j hj (fun e => by subst e; exact absurd (Eq.trans (Eq.symm (by kernel_rfl)) hf) Bool.false_ne_true) h)
      ·
        intro u w21 au hsl hel hu hF hp' K hK
        have h31 : u 31 = .pointer (some ⟨b, off + 1, none⟩) := (HG.out 31 (.pointer (some ⟨b, off + 1, none⟩)) (by rw [hVS]; rfl) _).1 (PreF.get hp' 31 (by kernel_rfl)).1
        have t47 : au.tmps[47]?.getD undef = u 31 := hsl.out 31 47 (by kernel_rfl)
        rw [h31] at t47
        have hw : w21 = w1.drew := hF ((hu.out 135 (by decide) (.inr (by kernel_rfl))).trans (by kernel_rfl))
        have xc : w21.cell? ⟨b, off + 1, none⟩ = some (.int .i64 (M 1)) := by rw [hw]; exact m1.out
        clear hw
        refine step_plain rfl ?_
        go_simp
        exact hK.out (.int .i64 (M 1)) _ (sR_up hF 32 (by omega) _) (sF_val 32 (by omega) ((HG.out 32 (.int .i64 (M 1)) (by rw [hVS]; rfl) _).2 rfl)) (fun j hj hf h => sF_up 32 _ j hj (fun e => by subst e; exact absurd (Eq.trans (Eq.symm (by kernel_rfl)) hf) Bool.false_ne_true) h)
      ·
        intro u w21 au hsl hel hu hF hp' K hK
        have t4 : au.tmps[4]?.getD undef = .slice (some ⟨b, off, none⟩) 9 c0 := (hel.out 4 (by kernel_rfl)).trans (by kernel_rfl)
        refine step_plain rfl ?_
        go_simp
        exact hK.out (.slice (some ⟨b, off, none⟩) 9 c0) _ (sR_up hF 33 (by omega) _) (sF_val 33 (by omega) ((HG.out 33 (.slice (some ⟨b, off, none⟩) 9 c0) (by rw [hVS]; rfl) _).2 rfl)) (fun j hj hf h => sF_up 33 _ j hj (fun e => by subst e; exact absurd (Eq.trans (Eq.symm (by kernel_rfl)) hf) Bool.false_ne_true) h)
      ·
        intro u w21 au hsl hel hu hF hp' K hK
        have h33 : u 33 = .slice (some ⟨b, off, none⟩) 9 c0 := (HG.out 33 (.slice (some ⟨b, off, none⟩) 9 c0) (by rw [hVS]; rfl) _).1 (PreF.get hp' 33 (by kernel_rfl)).1
        have t49 : au.tmps[49]?.getD undef = u 33 := hsl.out 33 49 (by kernel_rfl)
        rw [h33] at t49
        refine step_plain rfl ?_
        go_simp
        exact hK.out (.pointer (some ⟨b, off + 5, none⟩)) _ (sR_up hF 34 (by omega) _) (sF_val 34 (by omega) ((HG.out 34 (.pointer (some ⟨b, off + 5, none⟩)) (by rw [hVS]; rfl) _).2 rfl)) (fun j hj hf h => sF_up 34 _ j hj (fun e => by subst e; exact absurd (Eq.trans (Eq.symm (by kernel_rfl)) hf) Bool.false_ne_true) h)
      ·
        intro u w21 au hsl hel hu hF hp' K hK
        have h34 : u 34 = .pointer (some ⟨b, off + 5, none⟩) := (HG.out 34 (.pointer (some ⟨b, off + 5, none⟩)) (by rw [hVS]; rfl) _).1 (PreF.get hp' 34 (by kernel_rfl)).1
        have t50 : au.tmps[50]?.getD undef = u 34 := hsl.out 34 50 (by kernel_rfl)
        rw [h34] at t50
        have hw : w21 = w1.drew := hF ((hu.out 135 (by decide) (.inr (by kernel_rfl))).trans (by kernel_rfl))
        have xc : w21.cell? ⟨b, off + 5, none⟩ = some (.int .i64 (M 5)) := by rw [hw]; exact m5.out
        clear hw
        refine step_plain rfl ?_
        go_simp
        exact hK.out (.int .i64 (M 5)) _ (sR_up hF 35 (by omega) _) (sF_val 35 (by omega) ((HG.out 35 (.int .i64 (M 5)) (by rw [hVS]; rfl) _).2 rfl)) (fun j hj hf h => sF_up 35 _ j hj (fun e => by subst e; exact absurd (Eq.trans (Eq.symm (by kernel_rfl)) hf) Bool.false_ne_true) h)
      ·
        intro u w21 au hsl hel hu hF hp' K hK
        have h32 : u 32 = .int .i64 (M 1) := (HG.out 32 (.int .i64 (M 1)) (by rw [hVS]; rfl) _).1 (PreF.get hp' 32 (by kernel_rfl)).1
        have t48 : au.tmps[48]?.getD undef = u 32 := hsl.out 32 48 (by kernel_rfl)
        rw [h32] at t48
        have h35 : u 35 = .int .i64 (M 5) := (HG.out 35 (.int .i64 (M 5)) (by rw [hVS]; rfl) _).1 (PreF.get hp' 35 (by kernel_rfl)).1
        have t51 : au.tmps[51]?.getD undef = u 35 := hsl.out 35 51 (by kernel_rfl)
        rw [h35] at t51
        refine step_plain rfl ?_
        go_simp
        exact hK.out (.int .i64 P15) _ (sR_up hF 36 (by omega) _) (sF_val 36 (by omega) ((HG.out 36 (.int .i64 P15) (by rw [hVS]; rfl) _).2 rfl)) (fun j hj hf h => sF_up 36 _ j hj (fun e => by subst e; exact absurd (Eq.trans (Eq.symm (by kernel_rfl)) hf) Bool.false_ne_true) h)
      ·
        intro u w21 au hsl hel hu hF hp' K hK
        have t4 : au.tmps[4]?.getD undef = .slice (some ⟨b, off, none⟩) 9 c0 := (hel.out 4 (by kernel_rfl)).trans (by kernel_rfl)
        refine step_plain rfl ?_
        go_simp
        exact hK.out (.slice (some ⟨b, off, none⟩) 9 c0) _ (sR_up hF 37 (by omega) _) (sF_val 37 (by omega) ((HG.out 37 (.slice (some ⟨b, off, none⟩) 9 c0) (by rw [hVS]; rfl) _).2 rfl)) (fun j hj hf h => sF_up 37 _ j hj (fun e => by subst e; exact absurd (Eq.trans (Eq.symm (by kernel_rfl)) hf) Bool.false_ne_true) h)
      ·
        intro u w21 au hsl hel hu hF hp' K hK
        have h37 : u 37 = .slice (some ⟨b, off, none⟩) 9 c0 := (HG.out 37 (.slice (some ⟨b, off, none⟩) 9 c0) (by rw [hVS]; rfl) _).1 (PreF.get hp' 37 (by kernel_rfl)).1
        have t53 : au.tmps[53]?.getD undef = u 37 := hsl.out 37 53 (by kernel_rfl)
        rw [h37] at t53
        refine step_plain rfl ?_
        go_simp
        exact hK.out (.pointer (some ⟨b, off + 2, none⟩)) _ (sR_up hF 38 (by omega) _) (sF_val 38 (by omega) ((HG.out 38 (.pointer (some ⟨b, off + 2, none⟩)) (by rw [hVS]; rfl) _).2 rfl)) (fun j hj hf h => sF_up 38 _ j hj (fun e => by subst e; exact absurd (Eq.trans (Eq.symm (by kernel_rfl)) hf) Bool.false_ne_true) h)
      ·
        intro u w21 au hsl hel hu hF hp' K hK
        have h38 : u 38 = .pointer (some ⟨b, off + 2, none⟩) := (HG.out 38 (.pointer (some ⟨b, off + 2, none⟩)) (by rw [hVS]; rfl) _).1 (PreF.get hp' 38 (by kernel_rfl)).1
        have t54 : au.tmps[54]?.getD undef = u 38 := hsl.out 38 54 (by kernel_rfl)
        rw [h38] at t54
        have hw : w21 = w1.drew := hF ((hu.out 135 (by decide) (.inr (by kernel_rfl))).trans (by kernel_rfl))
        have xc : w21.cell? ⟨b, off + 2, none⟩ = some (.int .i64 (M 2)) := by rw [hw]; exact m2.out
        clear hw
        refine step_plain rfl ?_
        go_simp
        exact hK.out (.int .i64 (M 2)) _ (sR_up hF 39 (by omega) _) (sF_val 39 (by omega) ((HG.out 39 (.int .i64 (M 2)) (by rw [hVS]; rfl) _).2 rfl)) (fun j hj hf h => sF_up 39 _ j hj (fun e => by subst e; exact absurd (Eq.trans (Eq.symm (by kernel_rfl)) hf) Bool.false_ne_true) h)
      ·
        intro u w21 au hsl hel hu hF hp' K hK
        have t4 : au.tmps[4]?.getD undef = .slice (some ⟨b, off, none⟩) 9 c0 := (hel.out 4 (by kernel_rfl)).trans (by kernel_rfl)
        refine step_plain rfl ?_
        go_simp
        exact hK.out (.slice (some ⟨b, off, none⟩) 9 c0) _ (sR_up hF 40 (by omega) _) (sF_val 40 (by omega) ((HG.out 40 (.slice (some ⟨b, off, none⟩) 9 c0) (by rw [hVS]; rfl) _).2 rfl)) (fun j hj hf h => sF_up 40 _ j hj (fun e => by subst e; exact absurd (Eq.trans (Eq.symm (by kernel_rfl)) hf) Bool.false_ne_true) h)
      ·
        intro u w21 au hsl hel hu hF hp' K hK
        have h40 : u 40 = .slice (some ⟨b, off, none⟩) 9 c0 := (HG.out 40 (.slice (some ⟨b, off, none⟩) 9 c0) (by rw [hVS]; rfl) _).1 (PreF.get hp' 40 (by kernel_rfl)).1
        have t56 : au.tmps[56]?.getD undef = u 40 := hsl.out 40 56 (by kernel_rfl)
        rw [h40] at t56
        refine step_plain rfl ?_
        go_simp
        exact hK.out (.pointer (some ⟨b, off + 4, none⟩)) _ (sR_up hF 41 (by omega) _) (sF_val 41 (by omega) ((HG.out 41 (.pointer (some ⟨b, off + 4, none⟩)) (by rw [hVS]; rfl) _).2 rfl)) (fun j hj hf h => sF_up 41 _ j hj (fun e => by subst e; exact absurd (Eq.trans (Eq.symm (by kernel_rfl)) hf) Bool.false_ne_true) h)
      ·
        intro u w21 au hsl hel hu hF hp' K hK
        have h41 : u 41 = .pointer (some ⟨b, off + 4, none⟩) := (HG.out 41 (.pointer (some ⟨b, off + 4, none⟩)) (by rw [hVS]; rfl) _).1 (PreF.get hp' 41 (by kernel_rfl)).1
        have t57 : au.tmps[57]?.getD undef = u 41 := hsl.out 41 57 (by kernel_rfl)
        rw [h41] at t57
        have hw : w21 = w1.drew := hF ((hu.out 135 (by decide) (.inr (by kernel_rfl))).trans (by kernel_rfl))
        have xc : w21.cell? ⟨b, off + 4, none⟩ = some (.int .i64 (M 4)) := by rw [hw]; exact m4.out
        clear hw
        refine step_plain rfl ?_
        go_simp
        exact hK.out (.int .i64 (M 4)) _ (sR_up hF 42 (by omega) _) (sF_val 42 (by omega) ((HG.out 42 (.int .i64 (M 4)) (by rw [hVS]; rfl) _).2 rfl)) (fun j hj hf h => sF_up 42 _ j hj (fun e => by subst e; exact absurd (Eq.trans (Eq.symm (by kernel_rfl)) hf) Bool.false_ne_true) h)
      ·
        intro u w21 au hsl hel hu hF hp' K hK
        have h39 : u 39 = .int .i64 (M 2) := (HG.out 39 (.int .i64 (M 2)) (by rw [hVS]; rfl) _).1 (PreF.get hp' 39 (by kernel_rfl)).1
        have t55 : au.tmps[55]?.getD undef = u 39 := hsl.out 39 55 (by kernel_rfl)
        rw [h39] at t55
        have h42 : u 42 = .int .i64 (M 4) := (HG.out 42 (.int .i64 (M 4)) (by rw [hVS]; rfl) _).1 (PreF.get hp' 42 (by kernel_rfl)).1
        have t58 : au.tmps[58]?.getD undef = u 42 := hsl.out 42 58 (by kernel_rfl)
        rw [h42] at t58
        refine step_plain rfl ?_
        go_simp
        exact hK.out (.int .i64 P24) _ (sR_up hF 43 (by omega) _) (sF_val 43 (by omega) ((HG.out 43 (.int .i64 P24) (by rw [hVS]; rfl) _).2 rfl)) (fun j hj hf h => sF_up 43 _ j hj (fun e => by subst e; exact absurd (Eq.trans (Eq.symm (by kernel_rfl)) hf) Bool.false_ne_true) h)
      ·
        intro u w21 au hsl hel hu hF hp' K hK
        have h36 : u 36 = .int .i64 P15 := (HG.out 36 (.int .i64 P15) (by rw [hVS]; rfl) _).1 (PreF.get hp' 36 (by kernel_rfl)).1
        have t52 : au.tmps[52]?.getD undef = u 36 := hsl.out 36 52 (by kernel_rfl)
        rw [h36] at t52
        have h43 : u 43 = .int .i64 P24 := (HG.out 43 (.int .i64 P24) (by rw [hVS]; rfl) _).1 (PreF.get hp' 43 (by kernel_rfl)).1
        have t59 : au.tmps[59]?.getD undef = u 43 := hsl.out 43 59 (by kernel_rfl)
        rw [h43] at t59
        refine step_plain rfl ?_
        go_simp
        exact hK.out (.int .i64 (J 2)) _ (sR_up hF 44 (by omega) _) (sF_val 44 (by omega) ((HG.out 44 (.int .i64 (J 2)) (by rw [hVS]; rfl) _).2 rfl)) (fun j hj hf h => sF_up 44 _ j hj (fun e => by subst e; exact absurd (Eq.trans (Eq.symm (by kernel_rfl)) hf) Bool.false_ne_true) h)
      ·
        intro u w21 au hsl hel hu hF hp' K hK
        have t4 : au.tmps[4]?.getD undef = .slice (some ⟨b, off, none⟩) 9 c0 := (hel.out 4 (by kernel_rfl)).trans (by kernel_rfl)
        refine step_plain rfl ?_
        go_simp
        exact hK.out (.slice (some ⟨b, off, none⟩) 9 c0) _ (sR_up hF 45 (by omega) _) (sF_val 45 (by omega) ((HG.out 45 (.slice (some ⟨b, off, none⟩) 9 c0) (by rw [hVS]; rfl) _).2 rfl)) (fun j hj hf h => sF_up 45 _ j hj (fun e => by subst e; exact absurd (Eq.trans (Eq.symm (by kernel_rfl)) hf) Bool.false_ne_true) h)
      ·
        intro u w21 au hsl hel hu hF hp' K hK
        have h45 : u 45 = .slice (some ⟨b, off, none⟩) 9 c0 := (HG.out 45 (.slice (some ⟨b, off, none⟩) 9 c0) (by rw [hVS]; rfl) _).1 (PreF.get hp' 45 (by kernel_rfl)).1
        have t61 : au.tmps[61]?.getD undef = u 45 := hsl.out 45 61 (by kernel_rfl)
        rw [h45] at t61
        refine step_plain rfl ?_
        go_simp
        exact hK.out (.pointer (some ⟨b, off + 5, none⟩)) _ (sR_up hF 46 (by omega) _) (sF_val 46 (by omega) ((HG.out 46 (.pointer (some ⟨b, off + 5, none⟩)) (by rw [hVS]; rfl) _).2 rfl)) (fun j hj hf h => sF_up 46 _ j hj (fun e => by subst e; exact absurd (Eq.trans (Eq.symm (by kernel_rfl)) hf) Bool.false_ne_true) h)
      ·
        intro u w21 au hsl hel hu hF hp' K hK
        have h46 : u 46 = .pointer (some ⟨b, off + 5, none⟩) := (HG.out 46 (.pointer (some ⟨b, off + 5, none⟩)) (by rw [hVS]; rfl) _).1 (PreF.get hp' 46 (by kernel_rfl)).1
        have t62 : au.tmps[62]?.getD undef = u 46 := hsl.out 46 62 (by kernel_rfl)
        rw [h46] at t62
        have hw : w21 = w1.drew := hF ((hu.out 135 (by decide) (.inr (by kernel_rfl))).trans (by kernel_rfl))
        have xc : w21.cell? ⟨b, off + 5, none⟩ = some (.int .i64 (M 5)) := by rw [hw]; exact m5.out
        clear hw
        refine step_plain rfl ?_
        go_simp
        exact hK.out (.int .i64 (M 5)) _ (sR_up hF 47 (by omega) _) (sF_val 47 (by omega) ((HG.out 47 (.int .i64 (M 5)) (by rw [hVS]; rfl) _).2 rfl)) (fun j hj hf h => sF_up 47 _ j hj (fun e => by subst e; exact absurd (Eq.trans (Eq.symm (by kernel_rfl)) hf) Bool.false_ne_true) h)
      ·
        intro u w21 au hsl hel hu hF hp' K hK
        have t4 : au.tmps[4]?.getD undef = .slice (some ⟨b, off, none⟩) 9 c0 := (hel.out 4 (by kernel_rfl)).trans (by kernel_rfl)
        refine step_plain rfl ?_
        go_simp
        exact hK.out (.slice (some ⟨b, off, none⟩) 9 c0) _ (sR_up hF 48 (by omega) _) (sF_val 48 (by omega) ((HG.out 48 (.slice (some ⟨b, off, none⟩) 9 c0) (by rw [hVS]; rfl) _).2 rfl)) (fun j hj hf h => sF_up 48 _ j hj (fun e => by subst e; exact absurd (Eq.trans (Eq.symm (by kernel_rfl)) hf) Bool.false_ne_true) h)
      ·
        intro u w21 au hsl hel hu hF hp' K hK
        have h48 : u 48 = .slice (some ⟨b, off, none⟩) 9 c0 := (HG.out 48 (.slice (some ⟨b, off, none⟩) 9 c0) (by rw [hVS]; rfl) _).1 (PreF.get hp' 48 (by kernel_rfl)).1
        have t64 : au.tmps[64]?.getD undef = u 48 := hsl.out 48 64 (by kernel_rfl)
        rw [h48] at t64
        refine step_plain rfl ?_
        go_simp
        exact hK.out (.pointer (some ⟨b, off + 6, none⟩)) _ (sR_up hF 49 (by omega) _) (sF_val 49 (by omega) ((HG.out 49 (.pointer (some ⟨b, off + 6, none⟩)) (by rw [hVS]; rfl) _).2 rfl)) (fun j hj hf h => sF_up 49 _ j hj (fun e => by subst e; exact absurd (Eq.trans (Eq.symm (by kernel_rfl)) hf) Bool.false_ne_true) h)
      ·
        intro u w21 au hsl hel hu hF hp' K hK
        have h49 : u 49 = .pointer (some ⟨b, off + 6, none⟩) := (HG.out 49 (.pointer (some ⟨b, off + 6, none⟩)) (by rw [hVS]; rfl) _).1 (PreF.get hp' 49 (by kernel_rfl)).1
        have t65 : au.tmps[65]?.getD undef = u 49 := hsl.out 49 65 (by kernel_rfl)
        rw [h49] at t65
        have hw : w21 = w1.drew := hF ((hu.out 135 (by decide) (.inr (by kernel_rfl))).trans (by kernel_rfl))
        have xc : w21.cell? ⟨b, off + 6, none⟩ = some (.int .i64 (M 6)) := by rw [hw]; exact m6.out
        clear hw
        refine step_plain rfl ?_
        go_simp
        exact hK.out (.int .i64 (M 6)) _ (sR_up hF 50 (by omega) _) (sF_val 50 (by omega) ((HG.out 50 (.int .i64 (M 6)) (by rw [hVS]; rfl) _).2 rfl)) (fun j hj hf h => sF_up 50 _ j hj (fun e => by subst e; exact absurd (Eq.trans (Eq.symm (by kernel_rfl)) hf) Bool.false_ne_true) h)
      ·
        intro u w21 au hsl hel hu hF hp' K hK
        have h47 : u 47 = .int .i64 (M 5) := (HG.out 47 (.int .i64 (M 5)) (by rw [hVS]; rfl) _).1 (PreF.get hp' 47 (by kernel_rfl)).1
        have t63 : au.tmps[63]?.getD undef = u 47 := hsl.out 47 63 (by kernel_rfl)
        rw [h47] at t63
        have h50 : u 50 = .int .i64 (M 6) := (HG.out 50 (.int .i64 (M 6)) (by rw [hVS]; rfl) _).1 (PreF.get hp' 50 (by kernel_rfl)).1
        have t66 : au.tmps[66]?.getD undef = u 50 := hsl.out 50 66 (by kernel_rfl)
        rw [h50] at t66
        refine step_plain rfl ?_
        go_simp
        exact hK.out (.int .i64 P56) _ (sR_up hF 51 (by omega) _) (sF_val 51 (by omega) ((HG.out 51 (.int .i64 P56) (by rw [hVS]; rfl) _).2 rfl)) (fun j hj hf h => sF_up 51 _ j hj (fun e => by subst e; exact absurd (Eq.trans (Eq.symm (by kernel_rfl)) hf) Bool.false_ne_true) h)
      ·
        intro u w21 au hsl hel hu hF hp' K hK
        have t4 : au.tmps[4]?.getD undef = .slice (some ⟨b, off, none⟩) 9 c0 := (hel.out 4 (by kernel_rfl)).trans (by kernel_rfl)
        refine step_plain rfl ?_
        go_simp
        exact hK.out (.slice (some ⟨b, off, none⟩) 9 c0) _ (sR_up hF 52 (by omega) _) (sF_val 52 (by omega) ((HG.out 52 (.slice (some ⟨b, off, none⟩) 9 c0) (by rw [hVS]; rfl) _).2 rfl)) (fun j hj hf h => sF_up 52 _ j hj (fun e => by subst e; exact absurd (Eq.trans (Eq.symm (by kernel_rfl)) hf) Bool.false_ne_true) h)
      ·
        intro u w21 au hsl hel hu hF hp' K hK
        have h52 : u 52 = .slice (some ⟨b, off, none⟩) 9 c0 := (HG.out 52 (.slice (some ⟨b, off, none⟩) 9 c0) (by rw [hVS]; rfl) _).1 (PreF.get hp' 52 (by kernel_rfl)).1
        have t68 : au.tmps[68]?.getD undef = u 52 := hsl.out 52 68 (by kernel_rfl)
        rw [h52] at t68
        refine step_plain rfl ?_
        go_simp
        exact hK.out (.pointer (some ⟨b, off + 3, none⟩)) _ (sR_up hF 53 (by omega) _) (sF_val 53 (by omega) ((HG.out 53 (.pointer (some ⟨b, off + 3, none⟩)) (by rw [hVS]; rfl) _).2 rfl)) (fun j hj hf h => sF_up 53 _ j hj (fun e => by subst e; exact absurd (Eq.trans (Eq.symm (by kernel_rfl)) hf) Bool.false_ne_true) h)
      ·
        intro u w21 au hsl hel hu hF hp' K hK
        have h53 : u 53 = .pointer (some ⟨b, off + 3, none⟩) := (HG.out 53 (.pointer (some ⟨b, off + 3, none⟩)) (by rw [hVS]; rfl) _).1 (PreF.get hp' 53 (by kernel_rfl)).1
        have t69 : au.tmps[69]?.getD undef = u 53 := hsl.out 53 69 (by kernel_rfl)
        rw [h53] at t69
        have hw : w21 = w1.drew := hF ((hu.out 135 (by decide) (.inr (by kernel_rfl))).trans (by kernel_rfl))
        have xc : w21.cell? ⟨b, off + 3, none⟩ = some (.int .i64 (M 3)) := by rw [hw]; exact m3.out
        clear hw
        refine step_plain rfl ?_
        go_simp
        exact hK.out (.int .i64 (M 3)) _ (sR_up hF 54 (by omega) _) (sF_val 54 (by omega) ((HG.out 54 (.int .i64 (M 3)) (by rw [hVS]; rfl) _).2 rfl)) (fun j hj hf h => sF_up 54 _ j hj (fun e => by subst e; exact absurd (Eq.trans (Eq.symm (by kernel_rfl)) hf) Bool.false_ne_true) h)
      ·
        intro u w21 au hsl hel hu hF hp' K hK
        have t4 : au.tmps[4]?.getD undef = .slice (some ⟨b, off, none⟩) 9 c0 := (hel.out 4 (by kernel_rfl)).trans (by kernel_rfl)
        refine step_plain rfl ?_
        go_simp
        exact hK.out (.slice (some ⟨b, off, none⟩) 9 c0) _ (sR_up hF 55 (by omega) _) (sF_val 55 (by omega) ((HG.out 55 (.slice (some ⟨b, off, none⟩) 9 c0) (by rw [hVS]; rfl) _).2 rfl)) (fun j hj hf h => sF_up 55 _ j hj (fun e => by subst e; exact absurd (Eq.trans (Eq.symm (by kernel_rfl)) hf) Bool.false_ne_true) h)
      ·
        intro u w21 au hsl hel hu hF hp' K hK
        have h55 : u 55 = .slice (some ⟨b, off, none⟩) 9 c0 := (HG.out 55 (.slice (some ⟨b, off, none⟩) 9 c0) (by rw [hVS]; rfl) _).1 (PreF.get hp' 55 (by kernel_rfl)).1
        have t71 : au.tmps[71]?.getD undef = u 55 := hsl.out 55 71 (by kernel_rfl)
        rw [h55] at t71
        refine step_plain rfl ?_
        go_simp
        exact hK.out (.pointer (some ⟨b, off + 8, none⟩)) _ (sR_up hF 56 (by omega) _) (sF_val 56 (by omega) ((HG.out 56 (.pointer (some ⟨b, off + 8, none⟩)) (by rw [hVS]; rfl) _).2 rfl)) (fun j hj hf h => sF_up 56 _ j hj (fun e => by subst e; exact absurd (Eq.trans (Eq.symm (by kernel_rfl)) hf) Bool.false_ne_true) h)
      ·
        intro u w21 au hsl hel hu hF hp' K hK
        have h56 : u 56 = .pointer (some ⟨b, off + 8, none⟩) := (HG.out 56 (.pointer (some ⟨b, off + 8, none⟩)) (by rw [hVS]; rfl) _).1 (PreF.get hp' 56 (by kernel_rfl)).1
        have t72 : au.tmps[72]?.getD undef = u 56 := hsl.out 56 72 (by kernel_rfl)
        rw [h56] at t72
        have hw : w21 = w1.drew := hF ((hu.out 135 (by decide) (.inr (by kernel_rfl))).trans (by kernel_rfl))
        have xc : w21.cell? ⟨b, off + 8, none⟩ = some (.int .i64 (M 8)) := by rw [hw]; exact m8.out
        clear hw
        refine step_plain rfl ?_
        go_simp
        exact hK.out (.int .i64 (M 8)) _ (sR_up hF 57 (by omega) _) (sF_val 57 (by omega) ((HG.out 57 (.int .i64 (M 8)) (by rw [hVS]; rfl) _).2 rfl)) (fun j hj hf h => sF_up 57 _ j hj (fun e => by subst e; exact absurd (Eq.trans (Eq.symm (by kernel_rfl)) hf) Bool.false_ne_true) h)
      ·
        intro u w21 au hsl hel hu hF hp' K hK
        have h54 : u 54 = .int .i64 (M 3) := (HG.out 54 (.int .i64 (M 3)) (by rw [hVS]; rfl) _).1 (PreF.get hp' 54 (by kernel_rfl)).1
        have t70 : au.tmps[70]?.getD undef = u 54 := hsl.out 54 70 (by kernel_rfl)
        rw [h54] at t70
        have h57 : u 57 = .int .i64 (M 8) := (HG.out 57 (.int .i64 (M 8)) (by rw [hVS]; rfl) _).1 (PreF.get hp' 57 (by kernel_rfl)).1
        have t73 : au.tmps[73]?.getD undef = u 57 := hsl.out 57 73 (by kernel_rfl)
        rw [h57] at t73
        refine step_plain rfl ?_
        go_simp
        exact hK.out (.int .i64 P38) _ (sR_up hF 58 (by omega) _) (sF_val 58 (by omega) ((HG.out 58 (.int .i64 P38) (by rw [hVS]; rfl) _).2 rfl)) (fun j hj hf h => sF_up 58 _ j hj (fun e => by subst e; exact absurd (Eq.trans (Eq.symm (by kernel_rfl)) hf) Bool.false_ne_true) h)
      ·
        intro u w21 au hsl hel hu hF hp' K hK
        have h51 : u 51 = .int .i64 P56 := (HG.out 51 (.int .i64 P56) (by rw [hVS]; rfl) _).1 (PreF.get hp' 51 (by kernel_rfl)).1
        have t67 : au.tmps[67]?.getD undef = u 51 := hsl.out 51 67 (by kernel_rfl)
        rw [h51] at t67
        have h58 : u 58 = .int .i64 P38 := (HG.out 58 (.int .i64 P38) (by rw [hVS]; rfl) _).1 (PreF.get hp' 58 (by kernel_rfl)).1
        have t74 : au.tmps[74]?.getD undef = u 58 := hsl.out 58 74 (by kernel_rfl)
        rw [h58] at t74
        refine step_plain rfl ?_
        go_simp
        exact hK.out (.int .i64 (J 3)) _ (sR_up hF 59 (by omega) _) (sF_val 59 (by omega) ((HG.out 59 (.int .i64 (J 3)) (by rw [hVS]; rfl) _).2 rfl)) (fun j hj hf h => sF_up 59 _ j hj (fun e => by subst e; exact absurd (Eq.trans (Eq.symm (by kernel_rfl)) hf) Bool.false_ne_true) h)
      ·
        intro u w21 au hsl hel hu hF hp' K hK
        have t4 : au.tmps[4]?.getD undef = .slice (some ⟨b, off, none⟩) 9 c0 := (hel.out 4 (by kernel_rfl)).trans (by kernel_rfl)
        refine step_plain rfl ?_
        go_simp
        exact hK.out (.slice (some ⟨b, off, none⟩) 9 c0) _ (sR_up hF 60 (by omega) _) (sF_val 60 (by omega) ((HG.out 60 (.slice (some ⟨b, off, none⟩) 9 c0) (by rw [hVS]; rfl) _).2 rfl)) (fun j hj hf h => sF_up 60 _ j hj (fun e => by subst e; exact absurd (Eq.trans (Eq.symm (by kernel_rfl)) hf) Bool.false_ne_true) h)
      ·
        intro u w21 au hsl hel hu hF hp' K hK
        have h60 : u 60 = .slice (some ⟨b, off, none⟩) 9 c0 := (HG.out 60 (.slice (some ⟨b, off, none⟩) 9 c0) (by rw [hVS]; rfl) _).1 (PreF.get hp' 60 (by kernel_rfl)).1
        have t76 : au.tmps[76]?.getD undef = u 60 := hsl.out 60 76 (by kernel_rfl)
        rw [h60] at t76
        refine step_plain rfl ?_
        go_simp
        exact hK.out (.pointer (some ⟨b, off, none⟩)) _ (sR_up hF 61 (by omega) _) (sF_val 61 (by omega) ((HG.out 61 (.pointer (some ⟨b, off, none⟩)) (by rw [hVS]; rfl) _).2 rfl)) (fun j hj hf h => sF_up 61 _ j hj (fun e => by subst e; exact absurd (Eq.trans (Eq.symm (by kernel_rfl)) hf) Bool.false_ne_true) h)
      ·
        intro u w21 au hsl hel hu hF hp' K hK
        have h61 : u 61 = .pointer (some ⟨b, off, none⟩) := (HG.out 61 (.pointer (some ⟨b, off, none⟩)) (by rw [hVS]; rfl) _).1 (PreF.get hp' 61 (by kernel_rfl)).1
        have t77 : au.tmps[77]?.getD undef = u 61 := hsl.out 61 77 (by kernel_rfl)
        rw [h61] at t77
        have hw : w21 = w1.drew := hF ((hu.out 135 (by decide) (.inr (by kernel_rfl))).trans (by kernel_rfl))
        have xc : w21.cell? ⟨b, off, none⟩ = some (.int .i64 (M 0)) := by rw [hw]; exact m0.out
        clear hw
        refine step_plain rfl ?_
        go_simp
        exact hK.out (.int .i64 (M 0)) _ (sR_up hF 62 (by omega) _) (sF_val 62 (by omega) ((HG.out 62 (.int .i64 (M 0)) (by rw [hVS]; rfl) _).2 rfl)) (fun j hj hf h => sF_up 62 _ j hj (fun e => by subst e; exact absurd (Eq.trans (Eq.symm (by kernel_rfl)) hf) Bool.false_ne_true) h)
      ·
        intro u w21 au hsl hel hu hF hp' K hK
        have t4 : au.tmps[4]?.getD undef = .slice (some ⟨b, off, none⟩) 9 c0 := (hel.out 4 (by kernel_rfl)).trans (by kernel_rfl)
        refine step_plain rfl ?_
        go_simp
        exact hK.out (.slice (some ⟨b, off, none⟩) 9 c0) _ (sR_up hF 63 (by omega) _) (sF_val 63 (by omega) ((HG.out 63 (.slice (some ⟨b, off, none⟩) 9 c0) (by rw [hVS]; rfl) _).2 rfl)) (fun j hj hf h => sF_up 63 _ j hj (fun e => by subst e; exact absurd (Eq.trans (Eq.symm (by kernel_rfl)) hf) Bool.false_ne_true) h)
      ·
        intro u w21 au hsl hel hu hF hp' K hK
        have h63 : u 63 = .slice (some ⟨b, off, none⟩) 9 c0 := (HG.out 63 (.slice (some ⟨b, off, none⟩) 9 c0) (by rw [hVS]; rfl) _).1 (PreF.get hp' 63 (by kernel_rfl)).1
        have t79 : au.tmps[79]?.getD undef = u 63 := hsl.out 63 79 (by kernel_rfl)
        rw [h63] at t79
        refine step_plain rfl ?_
        go_simp
        exact hK.out (.pointer (some ⟨b, off + 8, none⟩)) _ (sR_up hF 64 (by omega) _) (sF_val 64 (by omega) ((HG.out 64 (.pointer (some ⟨b, off + 8, none⟩)) (by rw [hVS]; rfl) _).2 rfl)) (fun j hj hf h => sF_up 64 _ j hj (fun e => by subst e; exact absurd (Eq.trans (Eq.symm (by kernel_rfl)) hf) Bool.false_ne_true) h)
      ·
        intro u w21 au hsl hel hu hF hp' K hK
        have h64 : u 64 = .pointer (some ⟨b, off + 8, none⟩) := (HG.out 64 (.pointer (some ⟨b, off + 8, none⟩)) (by rw [hVS]; rfl) _).1 (PreF.get hp' 64 (by kernel_rfl)).1
        have t80 : au.tmps[80]?.getD undef = u 64 := hsl.out 64 80 (by kernel_rfl)
        rw [h64] at t80
        have hw : w21 = w1.drew := hF ((hu.out 135 (by decide) (.inr (by kernel_rfl))).trans (by kernel_rfl))
        have xc : w21.cell? ⟨b, off + 8, none⟩ = some (.int .i64 (M 8)) := by rw [hw]; exact m8.out
        clear hw
        refine step_plain rfl ?_
        go_simp
        exact hK.out (.int .i64 (M 8)) _ (sR_up hF 65 (by omega) _) (sF_val 65 (by omega) ((HG.out 65 (.int .i64 (M 8)) (by rw [hVS]; rfl) _).2 rfl)) (fun j hj hf h => sF_up 65 _ j hj (fun e => by subst e; exact absurd (Eq.trans (Eq.symm (by kernel_rfl)) hf) Bool.false_ne_true) h)
      ·
        intro u w21 au hsl hel hu hF hp' K hK
        have h62 : u 62 = .int .i64 (M 0) := (HG.out 62 (.int .i64 (M 0)) (by rw [hVS]; rfl) _).1 (PreF.get hp' 62 (by kernel_rfl)).1
        have t78 : au.tmps[78]?.getD undef = u 62 := hsl.out 62 78 (by kernel_rfl)
        rw [h62] at t78
        have h65 : u 65 = .int .i64 (M 8) := (HG.out 65 (.int .i64 (M 8)) (by rw [hVS]; rfl) _).1 (PreF.get hp' 65 (by kernel_rfl)).1
        have t81 : au.tmps[81]?.getD undef = u 65 := hsl.out 65 81 (by kernel_rfl)
        rw [h65] at t81
        refine step_plain rfl ?_
        go_simp
        exact hK.out (.int .i64 P08) _ (sR_up hF 66 (by omega) _) (sF_val 66 (by omega) ((HG.out 66 (.int .i64 P08) (by rw [hVS]; rfl) _).2 rfl)) (fun j hj hf h => sF_up 66 _ j hj (fun e => by subst e; exact absurd (Eq.trans (Eq.symm (by kernel_rfl)) hf) Bool.false_ne_true) h)
      ·
        intro u w21 au hsl hel hu hF hp' K hK
        have t4 : au.tmps[4]?.getD undef = .slice (some ⟨b, off, none⟩) 9 c0 := (hel.out 4 (by kernel_rfl)).trans (by kernel_rfl)
        refine step_plain rfl ?_
        go_simp
        exact hK.out (.slice (some ⟨b, off, none⟩) 9 c0) _ (sR_up hF 67 (by omega) _) (sF_val 67 (by omega) ((HG.out 67 (.slice (some ⟨b, off, none⟩) 9 c0) (by rw [hVS]; rfl) _).2 rfl)) (fun j hj hf h => sF_up 67 _ j hj (fun e => by subst e; exact absurd (Eq.trans (Eq.symm (by kernel_rfl)) hf) Bool.false_ne_true) h)
      ·
        intro u w21 au hsl hel hu hF hp' K hK
        have h67 : u 67 = .slice (some ⟨b, off, none⟩) 9 c0 := (HG.out 67 (.slice (some ⟨b, off, none⟩) 9 c0) (by rw [hVS]; rfl) _).1 (PreF.get hp' 67 (by kernel_rfl)).1
        have t83 : au.tmps[83]?.getD undef = u 67 := hsl.out 67 83 (by kernel_rfl)
        rw [h67] at t83
        refine step_plain rfl ?_
        go_simp
        exact hK.out (.pointer (some ⟨b, off + 2, none⟩)) _ (sR_up hF 68 (by omega) _) (sF_val 68 (by omega) ((HG.out 68 (.pointer (some ⟨b, off + 2, none⟩)) (by rw [hVS]; rfl) _).2 rfl)) (fun j hj hf h => sF_up 68 _ j hj (fun e => by subst e; exact absurd (Eq.trans (Eq.symm (by kernel_rfl)) hf) Bool.false_ne_true) h)
      ·
        intro u w21 au hsl hel hu hF hp' K hK
        have h68 : u 68 = .pointer (some ⟨b, off + 2, none⟩) := (HG.out 68 (.pointer (some ⟨b, off + 2, none⟩)) (by rw [hVS]; rfl) _).1 (PreF.get hp' 68 (by kernel_rfl)).1
        have t84 : au.tmps[84]?.getD undef = u 68 := hsl.out 68 84 (by kernel_rfl)
        rw [h68] at t84
        have hw : w21 = w1.drew := hF ((hu.out 135 (by decide) (.inr (by kernel_rfl))).trans (by kernel_rfl))
        have xc : w21.cell? ⟨b, off + 2, none⟩ = some (.int .i64 (M 2)) := by rw [hw]; exact m2.out
        clear hw
        refine step_plain rfl ?_
        go_simp
        exact hK.out (.int .i64 (M 2)) _ (sR_up hF 69 (by omega) _) (sF_val 69 (by omega) ((HG.out 69 (.int .i64 (M 2)) (by rw [hVS]; rfl) _).2 rfl)) (fun j hj hf h => sF_up 69 _ j hj (fun e => by subst e; exact absurd (Eq.trans (Eq.symm (by kernel_rfl)) hf) Bool.false_ne_true) h)
      ·
        intro u w21 au hsl hel hu hF hp' K hK
        have t4 : au.tmps[4]?.getD undef = .slice (some ⟨b, off, none⟩) 9 c0 := (hel.out 4 (by kernel_rfl)).trans (by kernel_rfl)
        refine step_plain rfl ?_
        go_simp
        exact hK.out (.slice (some ⟨b, off, none⟩) 9 c0) _ (sR_up hF 70 (by omega) _) (sF_val 70 (by omega) ((HG.out 70 (.slice (some ⟨b, off, none⟩) 9 c0) (by rw [hVS]; rfl) _).2 rfl)) (fun j hj hf h => sF_up 70 _ j hj (fun e => by subst e; exact absurd (Eq.trans (Eq.symm (by kernel_rfl)) hf) Bool.false_ne_true) h)
      ·
        intro u w21 au hsl hel hu hF hp' K hK
        have h70 : u 70 = .slice (some ⟨b, off, none⟩) 9 c0 := (HG.out 70 (.slice (some ⟨b, off, none⟩) 9 c0) (by rw [hVS]; rfl) _).1 (PreF.get hp' 70 (by kernel_rfl)).1
        have t86 : au.tmps[86]?.getD undef = u 70 := hsl.out 70 86 (by kernel_rfl)
        rw [h70] at t86
        refine step_plain rfl ?_
        go_simp
        exact hK.out (.pointer (some ⟨b, off + 6, none⟩)) _ (sR_up hF 71 (by omega) _) (sF_val 71 (by omega) ((HG.out 71 (.pointer (some ⟨b, off + 6, none⟩)) (by rw [hVS]; rfl) _).2 rfl)) (fun j hj hf h => sF_up 71 _ j hj (fun e => by subst e; exact absurd (Eq.trans (Eq.symm (by kernel_rfl)) hf) Bool.false_ne_true) h)
      ·
        intro u w21 au hsl hel hu hF hp' K hK
        have h71 : u 71 = .pointer (some ⟨b, off + 6, none⟩) := (HG.out 71 (.pointer (some ⟨b, off + 6, none⟩)) (by rw [hVS]; rfl) _).1 (PreF.get hp' 71 (by kernel_rfl)).1
        have t87 : au.tmps[87]?.getD undef = u 71 := hsl.out 71 87 (by kernel_rfl)
        rw [h71] at t87
        have hw : w21 = w1.drew := hF ((hu.out 135 (by decide) (.inr (by kernel_rfl))).trans (by kernel_rfl))
        have xc : w21.cell? ⟨b, off + 6, none⟩ = some (.int .i64 (M 6)) := by rw [hw]; exact m6.out
        clear hw
        refine step_plain rfl ?_
        go_simp
        exact hK.out (.int .i64 (M 6)) _ (sR_up hF 72 (by omega) _) (sF_val 72 (by omega) ((HG.out 72 (.int .i64 (M 6)) (by rw [hVS]; rfl) _).2 rfl)) (fun j hj hf h => sF_up 72 _ j hj (fun e => by subst e; exact absurd (Eq.trans (Eq.symm (by kernel_rfl)) hf) Bool.false_ne_true) h)
      ·
        intro u w21 au hsl hel hu hF hp' K hK
        have h69 : u 69 = .int .i64 (M 2) := (HG.out 69 (.int .i64 (M 2)) (by rw [hVS]; rfl) _).1 (PreF.get hp' 69 (by kernel_rfl)).1
        have t85 : au.tmps[85]?.getD undef = u 69 := hsl.out 69 85 (by kernel_rfl)
        rw [h69] at t85
        have h72 : u 72 = .int .i64 (M 6) := (HG.out 72 (.int .i64 (M 6)) (by rw [hVS]; rfl) _).1 (PreF.get hp' 72 (by kernel_rfl)).1
        have t88 : au.tmps[88]?.getD undef = u 72 := hsl.out 72 88 (by kernel_rfl)
        rw [h72] at t88
        refine step_plain rfl ?_
        go_simp
        exact hK.out (.int .i64 P26) _ (sR_up hF 73 (by omega) _) (sF_val 73 (by omega) ((HG.out 73 (.int .i64 P26) (by rw [hVS]; rfl) _).2 rfl)) (fun j hj hf h => sF_up 73 _ j hj (fun e => by subst e; exact absurd (Eq.trans (Eq.symm (by kernel_rfl)) hf) Bool.false_ne_true) h)
      ·
        intro u w21 au hsl hel hu hF hp' K hK
        have h66 : u 66 = .int .i64 P08 := (HG.out 66 (.int .i64 P08) (by rw [hVS]; rfl) _).1 (PreF.get hp' 66 (by kernel_rfl)).1
        have t82 : au.tmps[82]?.getD undef = u 66 := hsl.out 66 82 (by kernel_rfl)
        rw [h66] at t82
        have h73 : u 73 = .int .i64 P26 := (HG.out 73 (.int .i64 P26) (by rw [hVS]; rfl) _).1 (PreF.get hp' 73 (by kernel_rfl)).1
        have t89 : au.tmps[89]?.getD undef = u 73 := hsl.out 73 89 (by kernel_rfl)
        rw [h73] at t89
        refine step_plain rfl ?_
        go_simp
        exact hK.out (.int .i64 (J 4)) _ (sR_up hF 74 (by omega) _) (sF_val 74 (by omega) ((HG.out 74 (.int .i64 (J 4)) (by rw [hVS]; rfl) _).2 rfl)) (fun j hj hf h => sF_up 74 _ j hj (fun e => by subst e; exact absurd (Eq.trans (Eq.symm (by kernel_rfl)) hf) Bool.false_ne_true) h)
      ·
        intro u w21 au hsl hel hu hF hp' K hK
        have t4 : au.tmps[4]?.getD undef = .slice (some ⟨b, off, none⟩) 9 c0 := (hel.out 4 (by kernel_rfl)).trans (by kernel_rfl)
        refine step_plain rfl ?_
        go_simp
        exact hK.out (.slice (some ⟨b, off, none⟩) 9 c0) _ (sR_up hF 75 (by omega) _) (sF_val 75 (by omega) ((HG.out 75 (.slice (some ⟨b, off, none⟩) 9 c0) (by rw [hVS]; rfl) _).2 rfl)) (fun j hj hf h => sF_up 75 _ j hj (fun e => by subst e; exact absurd (Eq.trans (Eq.symm (by kernel_rfl)) hf) Bool.false_ne_true) h)
      ·
        intro u w21 au hsl hel hu hF hp' K hK
        have h75 : u 75 = .slice (some ⟨b, off, none⟩) 9 c0 := (HG.out 75 (.slice (some ⟨b, off, none⟩) 9 c0) (by rw [hVS]; rfl) _).1 (PreF.get hp' 75 (by kernel_rfl)).1
        have t91 : au.tmps[91]?.getD undef = u 75 := hsl.out 75 91 (by kernel_rfl)
        rw [h75] at t91
        refine step_plain rfl ?_
        go_simp
        exact hK.out (.pointer (some ⟨b, off + 2, none⟩)) _ (sR_up hF 76 (by omega) _) (sF_val 76 (by omega) ((HG.out 76 (.pointer (some ⟨b, off + 2, none⟩)) (by rw [hVS]; rfl) _).2 rfl)) (fun j hj hf h => sF_up 76 _ j hj (fun e => by subst e; exact absurd (Eq.trans (Eq.symm (by kernel_rfl)) hf) Bool.false_ne_true) h)
      ·
        intro u w21 au hsl hel hu hF hp' K hK
        have h76 : u 76 = .pointer (some ⟨b, off + 2, none⟩) := (HG.out 76 (.pointer (some ⟨b, off + 2, none⟩)) (by rw [hVS]; rfl) _).1 (PreF.get hp' 76 (by kernel_rfl)).1
        have t92 : au.tmps[92]?.getD undef = u 76 := hsl.out 76 92 (by kernel_rfl)
        rw [h76] at t92
        have hw : w21 = w1.drew := hF ((hu.out 135 (by decide) (.inr (by kernel_rfl))).trans (by kernel_rfl))
        have xc : w21.cell? ⟨b, off + 2, none⟩ = some (.int .i64 (M 2)) := by rw [hw]; exact m2.out
        clear hw
        refine step_plain rfl ?_
        go_simp
        exact hK.out (.int .i64 (M 2)) _ (sR_up hF 77 (by omega) _) (sF_val 77 (by omega) ((HG.out 77 (.int .i64 (M 2)) (by rw [hVS]; rfl) _).2 rfl)) (fun j hj hf h => sF_up 77 _ j hj (fun e => by subst e; exact absurd (Eq.trans (Eq.symm (by kernel_rfl)) hf) Bool.false_ne_true) h)
      ·
        intro u w21 au hsl hel hu hF hp' K hK
        have t4 : au.tmps[4]?.getD undef = .slice (some ⟨b, off, none⟩) 9 c0 := (hel.out 4 (by kernel_rfl)).trans (by kernel_rfl)
        refine step_plain rfl ?_
        go_simp
        exact hK.out (.slice (some ⟨b, off, none⟩) 9 c0) _ (sR_up hF 78 (by omega) _) (sF_val 78 (by omega) ((HG.out 78 (.slice (some ⟨b, off, none⟩) 9 c0) (by rw [hVS]; rfl) _).2 rfl)) (fun j hj hf h => sF_up 78 _ j hj (fun e => by subst e; exact absurd (Eq.trans (Eq.symm (by kernel_rfl)) hf) Bool.false_ne_true) h)
      ·
        intro u w21 au hsl hel hu hF hp' K hK
        have h78 : u 78 = .slice (some ⟨b, off, none⟩) 9 c0 := (HG.out 78 (.slice (some ⟨b, off, none⟩) 9 c0) (by rw [hVS]; rfl) _).1 (PreF.get hp' 78 (by kernel_rfl)).1
        have t94 : au.tmps[94]?.getD undef = u 78 := hsl.out 78 94 (by kernel_rfl)
        rw [h78] at t94
        refine step_plain rfl ?_
        go_simp
        exact hK.out (.pointer (some ⟨b, off + 3, none⟩)) _ (sR_up hF 79 (by omega) _) (sF_val 79 (by omega) ((HG.out 79 (.pointer (some ⟨b, off + 3, none⟩)) (by rw [hVS]; rfl) _).2 rfl)) (fun j hj hf h => sF_up 79 _ j hj (fun e => by subst e; exact absurd (Eq.trans (Eq.symm (by kernel_rfl)) hf) Bool.false_ne_true) h)
      ·
        intro u w21 au hsl hel hu hF hp' K hK
        have h79 : u 79 = .pointer (some ⟨b, off + 3, none⟩) := (HG.out 79 (.pointer (some ⟨b, off + 3, none⟩)) (by rw [hVS]; rfl) _).1 (PreF.get hp' 79 (by kernel_rfl)).1
        have t95 : au.tmps[95]?.getD undef = u 79 := hsl.out 79 95 (by kernel_rfl)
        rw [h79] at t95
        have hw : w21 = w1.drew := hF ((hu.out 135 (by decide) (.inr (by kernel_rfl))).trans (by kernel_rfl))
        have xc : w21.cell? ⟨b, off + 3, none⟩ = some (.int .i64 (M 3)) := by rw [hw]; exact m3.out
        clear hw
        refine step_plain rfl ?_
        go_simp
        exact hK.out (.int .i64 (M 3)) _ (sR_up hF 80 (by omega) _) (sF_val 80 (by omega) ((HG.out 80 (.int .i64 (M 3)) (by rw [hVS]; rfl) _).2 rfl)) (fun j hj hf h => sF_up 80 _ j hj (fun e => by subst e; exact absurd (Eq.trans (Eq.symm (by kernel_rfl)) hf) Bool.false_ne_true) h)
      ·
        intro u w21 au hsl hel hu hF hp' K hK
        have h77 : u 77 = .int .i64 (M 2) := (HG.out 77 (.int .i64 (M 2)) (by rw [hVS]; rfl) _).1 (PreF.get hp' 77 (by kernel_rfl)).1
        have t93 : au.tmps[93]?.getD undef = u 77 := hsl.out 77 93 (by kernel_rfl)
        rw [h77] at t93
        have h80 : u 80 = .int .i64 (M 3) := (HG.out 80 (.int .i64 (M 3)) (by rw [hVS]; rfl) _).1 (PreF.get hp' 80 (by kernel_rfl)).1
        have t96 : au.tmps[96]?.getD undef = u 80 := hsl.out 80 96 (by kernel_rfl)
        rw [h80] at t96
        refine step_plain rfl ?_
        go_simp
        exact hK.out (.int .i64 P23) _ (sR_up hF 81 (by omega) _) (sF_val 81 (by omega) ((HG.out 81 (.int .i64 P23) (by rw [hVS]; rfl) _).2 rfl)) (fun j hj hf h => sF_up 81 _ j hj (fun e => by subst e; exact absurd (Eq.trans (Eq.symm (by kernel_rfl)) hf) Bool.false_ne_true) h)
      ·
        intro u w21 au hsl hel hu hF hp' K hK
        have t4 : au.tmps[4]?.getD undef = .slice (some ⟨b, off, none⟩) 9 c0 := (hel.out 4 (by kernel_rfl)).trans (by kernel_rfl)
        refine step_plain rfl ?_
        go_simp
        exact hK.out (.slice (some ⟨b, off, none⟩) 9 c0) _ (sR_up hF 82 (by omega) _) (sF_val 82 (by omega) ((HG.out 82 (.slice (some ⟨b, off, none⟩) 9 c0) (by rw [hVS]; rfl) _).2 rfl)) (fun j hj hf h => sF_up 82 _ j hj (fun e => by subst e; exact absurd (Eq.trans (Eq.symm (by kernel_rfl)) hf) Bool.false_ne_true) h)
      ·
        intro u w21 au hsl hel hu hF hp' K hK
        have h82 : u 82 = .slice (some ⟨b, off, none⟩) 9 c0 := (HG.out 82 (.slice (some ⟨b, off, none⟩) 9 c0) (by rw [hVS]; rfl) _).1 (PreF.get hp' 82 (by kernel_rfl)).1
        have t98 : au.tmps[98]?.getD undef = u 82 := hsl.out 82 98 (by kernel_rfl)
        rw [h82] at t98
        refine step_plain rfl ?_
        go_simp
        exact hK.out (.pointer (some ⟨b, off, none⟩)) _ (sR_up hF 83 (by omega) _) (sF_val 83 (by omega) ((HG.out 83 (.pointer (some ⟨b, off, none⟩)) (by rw [hVS]; rfl) _).2 rfl)) (fun j hj hf h => sF_up 83 _ j hj (fun e => by subst e; exact absurd (Eq.trans (Eq.symm (by kernel_rfl)) hf) Bool.false_ne_true) h)
      ·
        intro u w21 au hsl hel hu hF hp' K hK
        have h83 : u 83 = .pointer (some ⟨b, off, none⟩) := (HG.out 83 (.pointer (some ⟨b, off, none⟩)) (by rw [hVS]; rfl) _).1 (PreF.get hp' 83 (by kernel_rfl)).1
        have t99 : au.tmps[99]?.getD undef = u 83 := hsl.out 83 99 (by kernel_rfl)
        rw [h83] at t99
        have hw : w21 = w1.drew := hF ((hu.out 135 (by decide) (.inr (by kernel_rfl))).trans (by kernel_rfl))
        have xc : w21.cell? ⟨b, off, none⟩ = some (.int .i64 (M 0)) := by rw [hw]; exact m0.out
        clear hw
        refine step_plain rfl ?_
        go_simp
        exact hK.out (.int .i64 (M 0)) _ (sR_up hF 84 (by omega) _) (sF_val 84 (by omega) ((HG.out 84 (.int .i64 (M 0)) (by rw [hVS]; rfl) _).2 rfl)) (fun j hj hf h => sF_up 84 _ j hj (fun e => by subst e; exact absurd (Eq.trans (Eq.symm (by kernel_rfl)) hf) Bool.false_ne_true) h)
      ·
        intro u w21 au hsl hel hu hF hp' K hK
        have t4 : au.tmps[4]?.getD undef = .slice (some ⟨b, off, none⟩) 9 c0 := (hel.out 4 (by kernel_rfl)).trans (by kernel_rfl)
        refine step_plain rfl ?_
        go_simp
        exact hK.out (.slice (some ⟨b, off, none⟩) 9 c0) _ (sR_up hF 85 (by omega) _) (sF_val 85 (by omega) ((HG.out 85 (.slice (some ⟨b, off, none⟩) 9 c0) (by rw [hVS]; rfl) _).2 rfl)) (fun j hj hf h => sF_up 85 _ j hj (fun e => by subst e; exact absurd (Eq.trans (Eq.symm (by kernel_rfl)) hf) Bool.false_ne_true) h)
      ·
        intro u w21 au hsl hel hu hF hp' K hK
        have h85 : u 85 = .slice (some ⟨b, off, none⟩) 9 c0 := (HG.out 85 (.slice (some ⟨b, off, none⟩) 9 c0) (by rw [hVS]; rfl) _).1 (PreF.get hp' 85 (by kernel_rfl)).1
        have t101 : au.tmps[101]?.getD undef = u 85 := hsl.out 85 101 (by kernel_rfl)
        rw [h85] at t101
        refine step_plain rfl ?_
        go_simp
        exact hK.out (.pointer (some ⟨b, off + 5, none⟩)) _ (sR_up hF 86 (by omega) _) (sF_val 86 (by omega) ((HG.out 86 (.pointer (some ⟨b, off + 5, none⟩)) (by rw [hVS]; rfl) _).2 rfl)) (fun j hj hf h => sF_up 86 _ j hj (fun e => by subst e; exact absurd (Eq.trans (Eq.symm (by kernel_rfl)) hf) Bool.false_ne_true) h)
      ·
        intro u w21 au hsl hel hu hF hp' K hK
        have h86 : u 86 = .pointer (some ⟨b, off + 5, none⟩) := (HG.out 86 (.pointer (some ⟨b, off + 5, none⟩)) (by rw [hVS]; rfl) _).1 (PreF.get hp' 86 (by kernel_rfl)).1
        have t102 : au.tmps[102]?.getD undef = u 86 := hsl.out 86 102 (by kernel_rfl)
        rw [h86] at t102
        have hw : w21 = w1.drew := hF ((hu.out 135 (by decide) (.inr (by kernel_rfl))).trans (by kernel_rfl))
        have xc : w21.cell? ⟨b, off + 5, none⟩ = some (.int .i64 (M 5)) := by rw [hw]; exact m5.out
        clear hw
        refine step_plain rfl ?_
        go_simp
        exact hK.out (.int .i64 (M 5)) _ (sR_up hF 87 (by omega) _) (sF_val 87 (by omega) ((HG.out 87 (.int .i64 (M 5)) (by rw [hVS]; rfl) _).2 rfl)) (fun j hj hf h => sF_up 87 _ j hj (fun e => by subst e; exact absurd (Eq.trans (Eq.symm (by kernel_rfl)) hf) Bool.false_ne_true) h)
      ·
        intro u w21 au hsl hel hu hF hp' K hK
        have h84 : u 84 = .int .i64 (M 0) := (HG.out 84 (.int .i64 (M 0)) (by rw [hVS]; rfl) _).1 (PreF.get hp' 84 (by kernel_rfl)).1
        have t100 : au.tmps[100]?.getD undef = u 84 := hsl.out 84 100 (by kernel_rfl)
        rw [h84] at t100
        have h87 : u 87 = .int .i64 (M 5) := (HG.out 87 (.int .i64 (M 5)) (by rw [hVS]; rfl) _).1 (PreF.get hp' 87 (by kernel_rfl)).1
        have t103 : au.tmps[103]?.getD undef = u 87 := hsl.out 87 103 (by kernel_rfl)
        rw [h87] at t103
        refine step_plain rfl ?_
        go_simp
        exact hK.out (.int .i64 P05) _ (sR_up hF 88 (by omega) _) (sF_val 88 (by omega) ((HG.out 88 (.int .i64 P05) (by rw [hVS]; rfl) _).2 rfl)) (fun j hj hf h => sF_up 88 _ j hj (fun e => by subst e; exact absurd (Eq.trans (Eq.symm (by kernel_rfl)) hf) Bool.false_ne_true) h)
      ·
        intro u w21 au hsl hel hu hF hp' K hK
        have h81 : u 81 = .int .i64 P23 := (HG.out 81 (.int .i64 P23) (by rw [hVS]; rfl) _).1 (PreF.get hp' 81 (by kernel_rfl)).1
        have t97 : au.tmps[97]?.getD undef = u 81 := hsl.out 81 97 (by kernel_rfl)
        rw [h81] at t97
        have h88 : u 88 = .int .i64 P05 := (HG.out 88 (.int .i64 P05) (by rw [hVS]; rfl) _).1 (PreF.get hp' 88 (by kernel_rfl)).1
        have t104 : au.tmps[104]?.getD undef = u 88 := hsl.out 88 104 (by kernel_rfl)
        rw [h88] at t104
        refine step_plain rfl ?_
        go_simp
        exact hK.out (.int .i64 (J 5)) _ (sR_up hF 89 (by omega) _) (sF_val 89 (by omega) ((HG.out 89 (.int .i64 (J 5)) (by rw [hVS]; rfl) _).2 rfl)) (fun j hj hf h => sF_up 89 _ j hj (fun e => by subst e; exact absurd (Eq.trans (Eq.symm (by kernel_rfl)) hf) Bool.false_ne_true) h)
      ·
        intro u w21 au hsl hel hu hF hp' K hK
        have t4 : au.tmps[4]?.getD undef = .slice (some ⟨b, off, none⟩) 9 c0 := (hel.out 4 (by kernel_rfl)).trans (by kernel_rfl)
        refine step_plain rfl ?_
        go_simp
        exact hK.out (.slice (some ⟨b, off, none⟩) 9 c0) _ (sR_up hF 90 (by omega) _) (sF_val 90 (by omega) ((HG.out 90 (.slice (some ⟨b, off, none⟩) 9 c0) (by rw [hVS]; rfl) _).2 rfl)) (fun j hj hf h => sF_up 90 _ j hj (fun e => by subst e; exact absurd (Eq.trans (Eq.symm (by kernel_rfl)) hf) Bool.false_ne_true) h)
      ·
        intro u w21 au hsl hel hu hF hp' K hK
        have h90 : u 90 = .slice (some ⟨b, off, none⟩) 9 c0 := (HG.out 90 (.slice (some ⟨b, off, none⟩) 9 c0) (by rw [hVS]; rfl) _).1 (PreF.get hp' 90 (by kernel_rfl)).1
        have t106 : au.tmps[106]?.getD undef = u 90 := hsl.out 90 106 (by kernel_rfl)
        rw [h90] at t106
        refine step_plain rfl ?_
        go_simp
        exact hK.out (.pointer (some ⟨b, off + 3, none⟩)) _ (sR_up hF 91 (by omega) _) (sF_val 91 (by omega) ((HG.out 91 (.pointer (some ⟨b, off + 3, none⟩)) (by rw [hVS]; rfl) _).2 rfl)) (fun j hj hf h => sF_up 91 _ j hj (fun e => by subst e; exact absurd (Eq.trans (Eq.symm (by kernel_rfl)) hf) Bool.false_ne_true) h)
      ·
        intro u w21 au hsl hel hu hF hp' K hK
        have h91 : u 91 = .pointer (some ⟨b, off + 3, none⟩) := (HG.out 91 (.pointer (some ⟨b, off + 3, none⟩)) (by rw [hVS]; rfl) _).1 (PreF.get hp' 91 (by kernel_rfl)).1
        have t107 : au.tmps[107]?.getD undef = u 91 := hsl.out 91 107 (by kernel_rfl)
        rw [h91] at t107
        have hw : w21 = w1.drew := hF ((hu.out 135 (by decide) (.inr (by kernel_rfl))).trans (by kernel_rfl))
        have xc : w21.cell? ⟨b, off + 3, none⟩ = some (.int .i64 (M 3)) := by rw [hw]; exact m3.out
        clear hw
        refine step_plain rfl ?_
        go_simp
        exact hK.out (.int .i64 (M 3)) _ (sR_up hF 92 (by omega) _) (sF_val 92 (by omega) ((HG.out 92 (.int .i64 (M 3)) (by rw [hVS]; rfl) _).2 rfl)) (fun j hj hf h => sF_up 92 _ j hj (fun e => by subst e; exact absurd (Eq.trans (Eq.symm (by kernel_rfl)) hf) Bool.false_ne_true) h)
      ·
        intro u w21 au hsl hel hu hF hp' K hK
        have t4 : au.tmps[4]?.getD undef = .slice (some ⟨b, off, none⟩) 9 c0 := (hel.out 4 (by kernel_rfl)).trans (by kernel_rfl)
        refine step_plain rfl ?_
        go_simp
        exact hK.out (.slice (some ⟨b, off, none⟩) 9 c0) _ (sR_up hF 93 (by omega) _) (sF_val 93 (by omega) ((HG.out 93 (.slice (some ⟨b, off, none⟩) 9 c0) (by rw [hVS]; rfl) _).2 rfl)) (fun j hj hf h => sF_up 93 _ j hj (fun e => by subst e; exact absurd (Eq.trans (Eq.symm (by kernel_rfl)) hf) Bool.false_ne_true) h)
      ·
        intro u w21 au hsl hel hu hF hp' K hK
        have h93 : u 93 = .slice (some ⟨b, off, none⟩) 9 c0 := (HG.out 93 (.slice (some ⟨b, off, none⟩) 9 c0) (by rw [hVS]; rfl) _).1 (PreF.get hp' 93 (by kernel_rfl)).1
        have t109 : au.tmps[109]?.getD undef = u 93 := hsl.out 93 109 (by kernel_rfl)
        rw [h93] at t109
        refine step_plain rfl ?_
        go_simp
        exact hK.out (.pointer (some ⟨b, off + 7, none⟩)) _ (sR_up hF 94 (by omega) _) (sF_val 94 (by omega) ((HG.out 94 (.pointer (some ⟨b, off + 7, none⟩)) (by rw [hVS]; rfl) _).2 rfl)) (fun j hj hf h => sF_up 94 _ j hj (fun e => by subst e; exact absurd (Eq.trans (Eq.symm (by kernel_rfl)) hf) Bool.false_ne_true) h)
      ·
        intro u w21 au hsl hel hu hF hp' K hK
        have h94 : u 94 = .pointer (some ⟨b, off + 7, none⟩) := (HG.out 94 (.pointer (some ⟨b, off + 7, none⟩)) (by rw [hVS]; rfl) _).1 (PreF.get hp' 94 (by kernel_rfl)).1
        have t110 : au.tmps[110]?.getD undef = u 94 := hsl.out 94 110 (by kernel_rfl)
        rw [h94] at t110
        have hw : w21 = w1.drew := hF ((hu.out 135 (by decide) (.inr (by kernel_rfl))).trans (by kernel_rfl))
        have xc : w21.cell? ⟨b, off + 7, none⟩ = some (.int .i64 (M 7)) := by rw [hw]; exact m7.out
        clear hw
        refine step_plain rfl ?_
        go_simp
        exact hK.out (.int .i64 (M 7)) _ (sR_up hF 95 (by omega) _) (sF_val 95 (by omega) ((HG.out 95 (.int .i64 (M 7)) (by rw [hVS]; rfl) _).2 rfl)) (fun j hj hf h => sF_up 95 _ j hj (fun e => by subst e; exact absurd (Eq.trans (Eq.symm (by kernel_rfl)) hf) Bool.false_ne_true) h)
      ·
        intro u w21 au hsl hel hu hF hp' K hK
        have h92 : u 92 = .int .i64 (M 3) := (HG.out 92 (.int .i64 (M 3)) (by rw [hVS]; rfl) _).1 (PreF.get hp' 92 (by kernel_rfl)).1
        have t108 : au.tmps[108]?.getD undef = u 92 := hsl.out 92 108 (by kernel_rfl)
        rw [h92] at t108
        have h95 : u 95 = .int .i64 (M 7) := (HG.out 95 (.int .i64 (M 7)) (by rw [hVS]; rfl) _).1 (PreF.get hp' 95 (by kernel_rfl)).1
        have t111 : au.tmps[111]?.getD undef = u 95 := hsl.out 95 111 (by kernel_rfl)
        rw [h95] at t111
        refine step_plain rfl ?_
        go_simp
        exact hK.out (.int .i64 P37) _ (sR_up hF 96 (by omega) _) (sF_val 96 (by omega) ((HG.out 96 (.int .i64 P37) (by rw [hVS]; rfl) _).2 rfl)) (fun j hj hf h => sF_up 96 _ j hj (fun e => by subst e; exact absurd (Eq.trans (Eq.symm (by kernel_rfl)) hf) Bool.false_ne_true) h)
      ·
        intro u w21 au hsl hel hu hF hp' K hK
        have t4 : au.tmps[4]?.getD undef = .slice (some ⟨b, off, none⟩) 9 c0 := (hel.out 4 (by kernel_rfl)).trans (by kernel_rfl)
        refine step_plain rfl ?_
        go_simp
        exact hK.out (.slice (some ⟨b, off, none⟩) 9 c0) _ (sR_up hF 97 (by omega) _) (sF_val 97 (by omega) ((HG.out 97 (.slice (some ⟨b, off, none⟩) 9 c0) (by rw [hVS]; rfl) _).2 rfl)) (fun j hj hf h => sF_up 97 _ j hj (fun e => by subst e; exact absurd (Eq.trans (Eq.symm (by kernel_rfl)) hf) Bool.false_ne_true) h)
      ·
        intro u w21 au hsl hel hu hF hp' K hK
        have h97 : u 97 = .slice (some ⟨b, off, none⟩) 9 c0 := (HG.out 97 (.slice (some ⟨b, off, none⟩) 9 c0) (by rw [hVS]; rfl) _).1 (PreF.get hp' 97 (by kernel_rfl)).1
        have t113 : au.tmps[113]?.getD undef = u 97 := hsl.out 97 113 (by kernel_rfl)
        rw [h97] at t113
        refine step_plain rfl ?_
        go_simp
        exact hK.out (.pointer (some ⟨b, off + 4, none⟩)) _ (sR_up hF 98 (by omega) _) (sF_val 98 (by omega) ((HG.out 98 (.pointer (some ⟨b, off + 4, none⟩)) (by rw [hVS]; rfl) _).2 rfl)) (fun j hj hf h => sF_up 98 _ j hj (fun e => by subst e; exact absurd (Eq.trans (Eq.symm (by kernel_rfl)) hf) Bool.false_ne_true) h)
      ·
        intro u w21 au hsl hel hu hF hp' K hK
        have h98 : u 98 = .pointer (some ⟨b, off + 4, none⟩) := (HG.out 98 (.pointer (some ⟨b, off + 4, none⟩)) (by rw [hVS]; rfl) _).1 (PreF.get hp' 98 (by kernel_rfl)).1
        have t114 : au.tmps[114]?.getD undef = u 98 := hsl.out 98 114 (by kernel_rfl)
        rw [h98] at t114
        have hw : w21 = w1.drew := hF ((hu.out 135 (by decide) (.inr (by kernel_rfl))).trans (by kernel_rfl))
        have xc : w21.cell? ⟨b, off + 4, none⟩ = some (.int .i64 (M 4)) := by rw [hw]; exact m4.out
        clear hw
        refine step_plain rfl ?_
        go_simp
        exact hK.out (.int .i64 (M 4)) _ (sR_up hF 99 (by omega) _) (sF_val 99 (by omega) ((HG.out 99 (.int .i64 (M 4)) (by rw [hVS]; rfl) _).2 rfl)) (fun j hj hf h => sF_up 99 _ j hj (fun e => by subst e; exact absurd (Eq.trans (Eq.symm (by kernel_rfl)) hf) Bool.false_ne_true) h)
      ·
        intro u w21 au hsl hel hu hF hp' K hK
        have t4 : au.tmps[4]?.getD undef = .slice (some ⟨b, off, none⟩) 9 c0 := (hel.out 4 (by kernel_rfl)).trans (by kernel_rfl)
        refine step_plain rfl ?_
        go_simp
        exact hK.out (.slice (some ⟨b, off, none⟩) 9 c0) _ (sR_up hF 100 (by omega) _) (sF_val 100 (by omega) ((HG.out 100 (.slice (some ⟨b, off, none⟩) 9 c0) (by rw [hVS]; rfl) _).2 rfl)) (fun j hj hf h => sF_up 100 _ j hj (fun e => by subst e; exact absurd (Eq.trans (Eq.symm (by kernel_rfl)) hf) Bool.false_ne_true) h)
      ·
        intro u w21 au hsl hel hu hF hp' K hK
        have h100 : u 100 = .slice (some ⟨b, off, none⟩) 9 c0 := (HG.out 100 (.slice (some ⟨b, off, none⟩) 9 c0) (by rw [hVS]; rfl) _).1 (PreF.get hp' 100 (by kernel_rfl)).1
        have t116 : au.tmps[116]?.getD undef = u 100 := hsl.out 100 116 (by kernel_rfl)
        rw [h100] at t116
        refine step_plain rfl ?_
        go_simp
        exact hK.out (.pointer (some ⟨b, off + 6, none⟩)) _ (sR_up hF 101 (by omega) _) (sF_val 101 (by omega) ((HG.out 101 (.pointer (some ⟨b, off + 6, none⟩)) (by rw [hVS]; rfl) _).2 rfl)) (fun j hj hf h => sF_up 101 _ j hj (fun e => by subst e; exact absurd (Eq.trans (Eq.symm (by kernel_rfl)) hf) Bool.false_ne_true) h)
      ·
        intro u w21 au hsl hel hu hF hp' K hK
        have h101 : u 101 = .pointer (some ⟨b, off + 6, none⟩) := (HG.out 101 (.pointer (some ⟨b, off + 6, none⟩)) (by rw [hVS]; rfl) _).1 (PreF.get hp' 101 (by kernel_rfl)).1
        have t117 : au.tmps[117]?.getD undef = u 101 := hsl.out 101 117 (by kernel_rfl)
        rw [h101] at t117
        have hw : w21 = w1.drew := hF ((hu.out 135 (by decide) (.inr (by kernel_rfl))).trans (by kernel_rfl))
        have xc : w21.cell? ⟨b, off + 6, none⟩ = some (.int .i64 (M 6)) := by rw [hw]; exact m6.out
        clear hw
        refine step_plain rfl ?_
        go_simp
        exact hK.out (.int .i64 (M 6)) _ (sR_up hF 102 (by omega) _) (sF_val 102 (by omega) ((HG.out 102 (.int .i64 (M 6)) (by rw [hVS]; rfl) _).2 rfl)) (fun j hj hf h => sF_up 102 _ j hj (fun e => by subst e; exact absurd (Eq.trans (Eq.symm (by kernel_rfl)) hf) Bool.false_ne_true) h)
      ·
        intro u w21 au hsl hel hu hF hp' K hK
        have h99 : u 99 = .int .i64 (M 4) := (HG.out 99 (.int .i64 (M 4)) (by rw [hVS]; rfl) _).1 (PreF.get hp' 99 (by kernel_rfl)).1
        have t115 : au.tmps[115]?.getD undef = u 99 := hsl.out 99 115 (by kernel_rfl)
        rw [h99] at t115
        have h102 : u 102 = .int .i64 (M 6) := (HG.out 102 (.int .i64 (M 6)) (by rw [hVS]; rfl) _).1 (PreF.get hp' 102 (by kernel_rfl)).1
        have t118 : au.tmps[118]?.getD undef = u 102 := hsl.out 102 118 (by kernel_rfl)
        rw [h102] at t118
        refine step_plain rfl ?_
        go_simp
        exact hK.out (.int .i64 P46) _ (sR_up hF 103 (by omega) _) (sF_val 103 (by omega) ((HG.out 103 (.int .i64 P46) (by rw [hVS]; rfl) _).2 rfl)) (fun j hj hf h => sF_up 103 _ j hj (fun e => by subst e; exact absurd (Eq.trans (Eq.symm (by kernel_rfl)) hf) Bool.false_ne_true) h)
      ·
        intro u w21 au hsl hel hu hF hp' K hK
        have h96 : u 96 = .int .i64 P37 := (HG.out 96 (.int .i64 P37) (by rw [hVS]; rfl) _).1 (PreF.get hp' 96 (by kernel_rfl)).1
        have t112 : au.tmps[112]?.getD undef = u 96 := hsl.out 96 112 (by kernel_rfl)
        rw [h96] at t112
        have h103 : u 103 = .int .i64 P46 := (HG.out 103 (.int .i64 P46) (by rw [hVS]; rfl) _).1 (PreF.get hp' 103 (by kernel_rfl)).1
        have t119 : au.tmps[119]?.getD undef = u 103 := hsl.out 103 119 (by kernel_rfl)
        rw [h103] at t119
        refine step_plain rfl ?_
        go_simp
        exact hK.out (.int .i64 (J 6)) _ (sR_up hF 104 (by omega) _) (sF_val 104 (by omega) ((HG.out 104 (.int .i64 (J 6)) (by rw [hVS]; rfl) _).2 rfl)) (fun j hj hf h => sF_up 104 _ j hj (fun e => by subst e; exact absurd (Eq.trans (Eq.symm (by kernel_rfl)) hf) Bool.false_ne_true) h)
      ·
        intro u w21 au hsl hel hu hF hp' K hK
        have t4 : au.tmps[4]?.getD undef = .slice (some ⟨b, off, none⟩) 9 c0 := (hel.out 4 (by kernel_rfl)).trans (by kernel_rfl)
        refine step_plain rfl ?_
        go_simp
        exact hK.out (.slice (some ⟨b, off, none⟩) 9 c0) _ (sR_up hF 105 (by omega) _) (sF_val 105 (by omega) ((HG.out 105 (.slice (some ⟨b, off, none⟩) 9 c0) (by rw [hVS]; rfl) _).2 rfl)) (fun j hj hf h => sF_up 105 _ j hj (fun e => by subst e; exact absurd (Eq.trans (Eq.symm (by kernel_rfl)) hf) Bool.false_ne_true) h)
      ·
        intro u w21 au hsl hel hu hF hp' K hK
        have h105 : u 105 = .slice (some ⟨b, off, none⟩) 9 c0 := (HG.out 105 (.slice (some ⟨b, off, none⟩) 9 c0) (by rw [hVS]; rfl) _).1 (PreF.get hp' 105 (by kernel_rfl)).1
        have t121 : au.tmps[121]?.getD undef = u 105 := hsl.out 105 121 (by kernel_rfl)
        rw [h105] at t121
        refine step_plain rfl ?_
        go_simp
        exact hK.out (.pointer (some ⟨b, off + 1, none⟩)) _ (sR_up hF 106 (by omega) _) (sF_val 106 (by omega) ((HG.out 106 (.pointer (some ⟨b, off + 1, none⟩)) (by rw [hVS]; rfl) _).2 rfl)) (fun j hj hf h => sF_up 106 _ j hj (fun e => by subst e; exact absurd (Eq.trans (Eq.symm (by kernel_rfl)) hf) Bool.false_ne_true) h)
      ·
        intro u w21 au hsl hel hu hF hp' K hK
        have h106 : u 106 = .pointer (some ⟨b, off + 1, none⟩) := (HG.out 106 (.pointer (some ⟨b, off + 1, none⟩)) (by rw [hVS]; rfl) _).1 (PreF.get hp' 106 (by kernel_rfl)).1
        have t122 : au.tmps[122]?.getD undef = u 106 := hsl.out 106 122 (by kernel_rfl)
        rw [h106] at t122
        have hw : w21 = w1.drew := hF ((hu.out 135 (by decide) (.inr (by kernel_rfl))).trans (by kernel_rfl))
        have xc : w21.cell? ⟨b, off + 1, none⟩ = some (.int .i64 (M 1)) := by rw [hw]; exact m1.out
        clear hw
        refine step_plain rfl ?_
        go_simp
        exact hK.out (.int .i64 (M 1)) _ (sR_up hF 107 (by omega) _) (sF_val 107 (by omega) ((HG.out 107 (.int .i64 (M 1)) (by rw [hVS]; rfl) _).2 rfl)) (fun j hj hf h => sF_up 107 _ j hj (fun e => by subst e; exact absurd (Eq.trans (Eq.symm (by kernel_rfl)) hf) Bool.false_ne_true) h)
      ·
        intro u w21 au hsl hel hu hF hp' K hK
        have t4 : au.tmps[4]?.getD undef = .slice (some ⟨b, off, none⟩) 9 c0 := (hel.out 4 (by kernel_rfl)).trans (by kernel_rfl)
        refine step_plain rfl ?_
        go_simp
        exact hK.out (.slice (some ⟨b, off, none⟩) 9 c0) _ (sR_up hF 108 (by omega) _) (sF_val 108 (by omega) ((HG.out 108 (.slice (some ⟨b, off, none⟩) 9 c0) (by rw [hVS]; rfl) _).2 rfl)) (fun j hj hf h => sF_up 108 _ j hj (fun e => by subst e; exact absurd (Eq.trans (Eq.symm (by kernel_rfl)) hf) Bool.false_ne_true) h)
      ·
        intro u w21 au hsl hel hu hF hp' K hK
        have h108 : u 108 = .slice (some ⟨b, off, none⟩) 9 c0 := (HG.out 108 (.slice (some ⟨b, off, none⟩) 9 c0) (by rw [hVS]; rfl) _).1 (PreF.get hp' 108 (by kernel_rfl)).1
        have t124 : au.tmps[124]?.getD undef = u 108 := hsl.out 108 124 (by kernel_rfl)
        rw [h108] at t124
        refine step_plain rfl ?_
        go_simp
        exact hK.out (.pointer (some ⟨b, off + 6, none⟩)) _ (sR_up hF 109 (by omega) _) (sF_val 109 (by omega) ((HG.out 109 (.pointer (some ⟨b, off + 6, none⟩)) (by rw [hVS]; rfl) _).2 rfl)) (fun j hj hf h => sF_up 109 _ j hj (fun e => by subst e; exact absurd (Eq.trans (Eq.symm (by kernel_rfl)) hf) Bool.false_ne_true) h)
      ·
        intro u w21 au hsl hel hu hF hp' K hK
        have h109 : u 109 = .pointer (some ⟨b, off + 6, none⟩) := (HG.out 109 (.pointer (some ⟨b, off + 6, none⟩)) (by rw [hVS]; rfl) _).1 (PreF.get hp' 109 (by kernel_rfl)).1
        have t125 : au.tmps[125]?.getD undef = u 109 := hsl.out 109 125 (by kernel_rfl)
        rw [h109] at t125
        have hw : w21 = w1.drew := hF ((hu.out 135 (by decide) (.inr (by kernel_rfl))).trans (by kernel_rfl))
        have xc : w21.cell? ⟨b, off + 6, none⟩ = some (.int .i64 (M 6)) := by rw [hw]; exact m6.out
        clear hw
        refine step_plain rfl ?_
        go_simp
        exact hK.out (.int .i64 (M 6)) _ (sR_up hF 110 (by omega) _) (sF_val 110 (by omega) ((HG.out 110 (.int .i64 (M 6)) (by rw [hVS]; rfl) _).2 rfl)) (fun j hj hf h => sF_up 110 _ j hj (fun e => by subst e; exact absurd (Eq.trans (Eq.symm (by kernel_rfl)) hf) Bool.false_ne_true) h)
      ·
        intro u w21 au hsl hel hu hF hp' K hK
        have h107 : u 107 = .int .i64 (M 1) := (HG.out 107 (.int .i64 (M 1)) (by rw [hVS]; rfl) _).1 (PreF.get hp' 107 (by kernel_rfl)).1
        have t123 : au.tmps[123]?.getD undef = u 107 := hsl.out 107 123 (by kernel_rfl)
        rw [h107] at t123
        have h110 : u 110 = .int .i64 (M 6) := (HG.out 110 (.int .i64 (M 6)) (by rw [hVS]; rfl) _).1 (PreF.get hp' 110 (by kernel_rfl)).1
        have t126 : au.tmps[126]?.getD undef = u 110 := hsl.out 110 126 (by kernel_rfl)
        rw [h110] at t126
        refine step_plain rfl ?_
        go_simp
        exact hK.out (.int .i64 P16) _ (sR_up hF 111 (by omega) _) (sF_val 111 (by omega) ((HG.out 111 (.int .i64 P16) (by rw [hVS]; rfl) _).2 rfl)) (fun j hj hf h => sF_up 111 _ j hj (fun e => by subst e; exact absurd (Eq.trans (Eq.symm (by kernel_rfl)) hf) Bool.false_ne_true) h)
      ·
        intro u w21 au hsl hel hu hF hp' K hK
        have t4 : au.tmps[4]?.getD undef = .slice (some ⟨b, off, none⟩) 9 c0 := (hel.out 4 (by kernel_rfl)).trans (by kernel_rfl)
        refine step_plain rfl ?_
        go_simp
        exact hK.out (.slice (some ⟨b, off, none⟩) 9 c0) _ (sR_up hF 112 (by omega) _) (sF_val 112 (by omega) ((HG.out 112 (.slice (some ⟨b, off, none⟩) 9 c0) (by rw [hVS]; rfl) _).2 rfl)) (fun j hj hf h => sF_up 112 _ j hj (fun e => by subst e; exact absurd (Eq.trans (Eq.symm (by kernel_rfl)) hf) Bool.false_ne_true) h)
      ·
        intro u w21 au hsl hel hu hF hp' K hK
        have h112 : u 112 = .slice (some ⟨b, off, none⟩) 9 c0 := (HG.out 112 (.slice (some ⟨b, off, none⟩) 9 c0) (by rw [hVS]; rfl) _).1 (PreF.get hp' 112 (by kernel_rfl)).1
        have t128 : au.tmps[128]?.getD undef = u 112 := hsl.out 112 128 (by kernel_rfl)
        rw [h112] at t128
        refine step_plain rfl ?_
        go_simp
        exact hK.out (.pointer (some ⟨b, off, none⟩)) _ (sR_up hF 113 (by omega) _) (sF_val 113 (by omega) ((HG.out 113 (.pointer (some ⟨b, off, none⟩)) (by rw [hVS]; rfl) _).2 rfl)) (fun j hj hf h => sF_up 113 _ j hj (fun e => by subst e; exact absurd (Eq.trans (Eq.symm (by kernel_rfl)) hf) Bool.false_ne_true) h)
      ·
        intro u w21 au hsl hel hu hF hp' K hK
        have h113 : u 113 = .pointer (some ⟨b, off, none⟩) := (HG.out 113 (.pointer (some ⟨b, off, none⟩)) (by rw [hVS]; rfl) _).1 (PreF.get hp' 113 (by kernel_rfl)).1
        have t129 : au.tmps[129]?.getD undef = u 113 := hsl.out 113 129 (by kernel_rfl)
        rw [h113] at t129
        have hw : w21 = w1.drew := hF ((hu.out 135 (by decide) (.inr (by kernel_rfl))).trans (by kernel_rfl))
        have xc : w21.cell? ⟨b, off, none⟩ = some (.int .i64 (M 0)) := by rw [hw]; exact m0.out
        clear hw
        refine step_plain rfl ?_
        go_simp
        exact hK.out (.int .i64 (M 0)) _ (sR_up hF 114 (by omega) _) (sF_val 114 (by omega) ((HG.out 114 (.int .i64 (M 0)) (by rw [hVS]; rfl) _).2 rfl)) (fun j hj hf h => sF_up 114 _ j hj (fun e => by subst e; exact absurd (Eq.trans (Eq.symm (by kernel_rfl)) hf) Bool.false_ne_true) h)
      ·
        intro u w21 au hsl hel hu hF hp' K hK
        have t4 : au.tmps[4]?.getD undef = .slice (some ⟨b, off, none⟩) 9 c0 := (hel.out 4 (by kernel_rfl)).trans (by kernel_rfl)
        refine step_plain rfl ?_
        go_simp
        exact hK.out (.slice (some ⟨b, off, none⟩) 9 c0) _ (sR_up hF 115 (by omega) _) (sF_val 115 (by omega) ((HG.out 115 (.slice (some ⟨b, off, none⟩) 9 c0) (by rw [hVS]; rfl) _).2 rfl)) (fun j hj hf h => sF_up 115 _ j hj (fun e => by subst e; exact absurd (Eq.trans (Eq.symm (by kernel_rfl)) hf) Bool.false_ne_true) h)
      ·
        intro u w21 au hsl hel hu hF hp' K hK
        have h115 : u 115 = .slice (some ⟨b, off, none⟩) 9 c0 := (HG.out 115 (.slice (some ⟨b, off, none⟩) 9 c0) (by rw [hVS]; rfl) _).1 (PreF.get hp' 115 (by kernel_rfl)).1
        have t131 : au.tmps[131]?.getD undef = u 115 := hsl.out 115 131 (by kernel_rfl)
        rw [h115] at t131
        refine step_plain rfl ?_
        go_simp
        exact hK.out (.pointer (some ⟨b, off + 7, none⟩)) _ (sR_up hF 116 (by omega) _) (sF_val 116 (by omega) ((HG.out 116 (.pointer (some ⟨b, off + 7, none⟩)) (by rw [hVS]; rfl) _).2 rfl)) (fun j hj hf h => sF_up 116 _ j hj (fun e => by subst e; exact absurd (Eq.trans (Eq.symm (by kernel_rfl)) hf) Bool.false_ne_true) h)
      ·
        intro u w21 au hsl hel hu hF hp' K hK
        have h116 : u 116 = .pointer (some ⟨b, off + 7, none⟩) := (HG.out 116 (.pointer (some ⟨b, off + 7, none⟩)) (by rw [hVS]; rfl) _).1 (PreF.get hp' 116 (by kernel_rfl)).1
        have t132 : au.tmps[132]?.getD undef = u 116 := hsl.out 116 132 (by kernel_rfl)
        rw [h116] at t132
        have hw : w21 = w1.drew := hF ((hu.out 135 (by decide) (.inr (by kernel_rfl))).trans (by kernel_rfl))
        have xc : w21.cell? ⟨b, off + 7, none⟩ = some (.int .i64 (M 7)) := by rw [hw]; exact m7.out
        clear hw
        refine step_plain rfl ?_
        go_simp
        exact hK.out (.int .i64 (M 7)) _ (sR_up hF 117 (by omega) _) (sF_val 117 (by omega) ((HG.out 117 (.int .i64 (M 7)) (by rw [hVS]; rfl) _).2 rfl)) (fun j hj hf h => sF_up 117 _ j hj (fun e => by subst e; exact absurd (Eq.trans (Eq.symm (by kernel_rfl)) hf) Bool.false_ne_true) h)
      ·
        intro u w21 au hsl hel hu hF hp' K hK
        have h114 : u 114 = .int .i64 (M 0) := (HG.out 114 (.int .i64 (M 0)) (by rw [hVS]; rfl) _).1 (PreF.get hp' 114 (by kernel_rfl)).1
        have t130 : au.tmps[130]?.getD undef = u 114 := hsl.out 114 130 (by kernel_rfl)
        rw [h114] at t130
        have h117 : u 117 = .int .i64 (M 7) := (HG.out 117 (.int .i64 (M 7)) (by rw [hVS]; rfl) _).1 (PreF.get hp' 117 (by kernel_rfl)).1
        have t133 : au.tmps[133]?.getD undef = u 117 := hsl.out 117 133 (by kernel_rfl)
        rw [h117] at t133
        refine step_plain rfl ?_
        go_simp
        exact hK.out (.int .i64 P07) _ (sR_up hF 118 (by omega) _) (sF_val 118 (by omega) ((HG.out 118 (.int .i64 P07) (by rw [hVS]; rfl) _).2 rfl)) (fun j hj hf h => sF_up 118 _ j hj (fun e => by subst e; exact absurd (Eq.trans (Eq.symm (by kernel_rfl)) hf) Bool.false_ne_true) h)
      ·
        intro u w21 au hsl hel hu hF hp' K hK
        have h111 : u 111 = .int .i64 P16 := (HG.out 111 (.int .i64 P16) (by rw [hVS]; rfl) _).1 (PreF.get hp' 111 (by kernel_rfl)).1
        have t127 : au.tmps[127]?.getD undef = u 111 := hsl.out 111 127 (by kernel_rfl)
        rw [h111] at t127
        have h118 : u 118 = .int .i64 P07 := (HG.out 118 (.int .i64 P07) (by rw [hVS]; rfl) _).1 (PreF.get hp' 118 (by kernel_rfl)).1
        have t134 : au.tmps[134]?.getD undef = u 118 := hsl.out 118 134 (by kernel_rfl)
        rw [h118] at t134
        refine step_plain rfl ?_
        go_simp
        exact hK.out (.int .i64 (J 7)) _ (sR_up hF 119 (by omega) _) (sF_val 119 (by omega) ((HG.out 119 (.int .i64 (J 7)) (by rw [hVS]; rfl) _).2 rfl)) (fun j hj hf h => sF_up 119 _ j hj (fun e => by subst e; exact absurd (Eq.trans (Eq.symm (by kernel_rfl)) hf) Bool.false_ne_true) h)
      ·
        intro u w21 au hsl hel hu hF hp' K hK
        have t4 : au.tmps[4]?.getD undef = .slice (some ⟨b, off, none⟩) 9 c0 := (hel.out 4 (by kernel_rfl)).trans (by kernel_rfl)
        refine step_plain rfl ?_
        go_simp
        exact hK.out (.slice (some ⟨b, off, none⟩) 9 c0) _ (sR_up hF 120 (by omega) _) (sF_val 120 (by omega) ((HG.out 120 (.slice (some ⟨b, off, none⟩) 9 c0) (by rw [hVS]; rfl) _).2 rfl)) (fun j hj hf h => sF_up 120 _ j hj (fun e => by subst e; exact absurd (Eq.trans (Eq.symm (by kernel_rfl)) hf) Bool.false_ne_true) h)
      ·
        intro u w21 au hsl hel hu hF hp' K hK
        have h120 : u 120 = .slice (some ⟨b, off, none⟩) 9 c0 := (HG.out 120 (.slice (some ⟨b, off, none⟩) 9 c0) (by rw [hVS]; rfl) _).1 (PreF.get hp' 120 (by kernel_rfl)).1
        have t136 : au.tmps[136]?.getD undef = u 120 := hsl.out 120 136 (by kernel_rfl)
        rw [h120] at t136
        refine step_plain rfl ?_
        go_simp
        exact hK.out (.pointer (some ⟨b, off, none⟩)) _ (sR_up hF 121 (by omega) _) (sF_val 121 (by omega) ((HG.out 121 (.pointer (some ⟨b, off, none⟩)) (by rw [hVS]; rfl) _).2 rfl)) (fun j hj hf h => sF_up 121 _ j hj (fun e => by subst e; exact absurd (Eq.trans (Eq.symm (by kernel_rfl)) hf) Bool.false_ne_true) h)
      ·
        intro u w21 au hsl hel hu hF hp' K hK
        have h121 : u 121 = .pointer (some ⟨b, off, none⟩) := (HG.out 121 (.pointer (some ⟨b, off, none⟩)) (by rw [hVS]; rfl) _).1 (PreF.get hp' 121 (by kernel_rfl)).1
        have t137 : au.tmps[137]?.getD undef = u 121 := hsl.out 121 137 (by kernel_rfl)
        rw [h121] at t137
        have hw : w21 = w1.drew := hF ((hu.out 135 (by decide) (.inr (by kernel_rfl))).trans (by kernel_rfl))
        have xc : w21.cell? ⟨b, off, none⟩ = some (.int .i64 (M 0)) := by rw [hw]; exact m0.out
        clear hw
        refine step_plain rfl ?_
        go_simp
        exact hK.out (.int .i64 (M 0)) _ (sR_up hF 122 (by omega) _) (sF_val 122 (by omega) ((HG.out 122 (.int .i64 (M 0)) (by rw [hVS]; rfl) _).2 rfl)) (fun j hj hf h => sF_up 122 _ j hj (fun e => by subst e; exact absurd (Eq.trans (Eq.symm (by kernel_rfl)) hf) Bool.false_ne_true) h)
      ·
        intro u w21 au hsl hel hu hF hp' K hK
        have t4 : au.tmps[4]?.getD undef = .slice (some ⟨b, off, none⟩) 9 c0 := (hel.out 4 (by kernel_rfl)).trans (by kernel_rfl)
        refine step_plain rfl ?_
        go_simp
        exact hK.out (.slice (some ⟨b, off, none⟩) 9 c0) _ (sR_up hF 123 (by omega) _) (sF_val 123 (by omega) ((HG.out 123 (.slice (some ⟨b, off, none⟩) 9 c0) (by rw [hVS]; rfl) _).2 rfl)) (fun j hj hf h => sF_up 123 _ j hj (fun e => by subst e; exact absurd (Eq.trans (Eq.symm (by kernel_rfl)) hf) Bool.false_ne_true) h)
      ·
        intro u w21 au hsl hel hu hF hp' K hK
        have h123 : u 123 = .slice (some ⟨b, off, none⟩) 9 c0 := (HG.out 123 (.slice (some ⟨b, off, none⟩) 9 c0) (by rw [hVS]; rfl) _).1 (PreF.get hp' 123 (by kernel_rfl)).1
        have t139 : au.tmps[139]?.getD undef = u 123 := hsl.out 123 139 (by kernel_rfl)
        rw [h123] at t139
        refine step_plain rfl ?_
        go_simp
        exact hK.out (.pointer (some ⟨b, off + 4, none⟩)) _ (sR_up hF 124 (by omega) _) (sF_val 124 (by omega) ((HG.out 124 (.pointer (some ⟨b, off + 4, none⟩)) (by rw [hVS]; rfl) _).2 rfl)) (fun j hj hf h => sF_up 124 _ j hj (fun e => by subst e; exact absurd (Eq.trans (Eq.symm (by kernel_rfl)) hf) Bool.false_ne_true) h)
      ·
        intro u w21 au hsl hel hu hF hp' K hK
        have h124 : u 124 = .pointer (some ⟨b, off + 4, none⟩) := (HG.out 124 (.pointer (some ⟨b, off + 4, none⟩)) (by rw [hVS]; rfl) _).1 (PreF.get hp' 124 (by kernel_rfl)).1
        have t140 : au.tmps[140]?.getD undef = u 124 := hsl.out 124 140 (by kernel_rfl)
        rw [h124] at t140
        have hw : w21 = w1.drew := hF ((hu.out 135 (by decide) (.inr (by kernel_rfl))).trans (by kernel_rfl))
        have xc : w21.cell? ⟨b, off + 4, none⟩ = some (.int .i64 (M 4)) := by rw [hw]; exact m4.out
        clear hw
        refine step_plain rfl ?_
        go_simp
        exact hK.out (.int .i64 (M 4)) _ (sR_up hF 125 (by omega) _) (sF_val 125 (by omega) ((HG.out 125 (.int .i64 (M 4)) (by rw [hVS]; rfl) _).2 rfl)) (fun j hj hf h => sF_up 125 _ j hj (fun e => by subst e; exact absurd (Eq.trans (Eq.symm (by kernel_rfl)) hf) Bool.false_ne_true) h)
      ·
        intro u w21 au hsl hel hu hF hp' K hK
        have h122 : u 122 = .int .i64 (M 0) := (HG.out 122 (.int .i64 (M 0)) (by rw [hVS]; rfl) _).1 (PreF.get hp' 122 (by kernel_rfl)).1
        have t138 : au.tmps[138]?.getD undef = u 122 := hsl.out 122 138 (by kernel_rfl)
        rw [h122] at t138
        have h125 : u 125 = .int .i64 (M 4) := (HG.out 125 (.int .i64 (M 4)) (by rw [hVS]; rfl) _).1 (PreF.get hp' 125 (by kernel_rfl)).1
        have t141 : au.tmps[141]?.getD undef = u 125 := hsl.out 125 141 (by kernel_rfl)
        rw [h125] at t141
        refine step_plain rfl ?_
        go_simp
        exact hK.out (.int .i64 P04) _ (sR_up hF 126 (by omega) _) (sF_val 126 (by omega) ((HG.out 126 (.int .i64 P04) (by rw [hVS]; rfl) _).2 rfl)) (fun j hj hf h => sF_up 126 _ j hj (fun e => by subst e; exact absurd (Eq.trans (Eq.symm (by kernel_rfl)) hf) Bool.false_ne_true) h)
      ·
        intro u w21 au hsl hel hu hF hp' K hK
        have t4 : au.tmps[4]?.getD undef = .slice (some ⟨b, off, none⟩) 9 c0 := (hel.out 4 (by kernel_rfl)).trans (by kernel_rfl)
        refine step_plain rfl ?_
        go_simp
        exact hK.out (.slice (some ⟨b, off, none⟩) 9 c0) _ (sR_up hF 127 (by omega) _) (sF_val 127 (by omega) ((HG.out 127 (.slice (some ⟨b, off, none⟩) 9 c0) (by rw [hVS]; rfl) _).2 rfl)) (fun j hj hf h => sF_up 127 _ j hj (fun e => by subst e; exact absurd (Eq.trans (Eq.symm (by kernel_rfl)) hf) Bool.false_ne_true) h)
      ·
        intro u w21 au hsl hel hu hF hp' K hK
        have h127 : u 127 = .slice (some ⟨b, off, none⟩) 9 c0 := (HG.out 127 (.slice (some ⟨b, off, none⟩) 9 c0) (by rw [hVS]; rfl) _).1 (PreF.get hp' 127 (by kernel_rfl)).1
        have t143 : au.tmps[143]?.getD undef = u 127 := hsl.out 127 143 (by kernel_rfl)
        rw [h127] at t143
        refine step_plain rfl ?_
        go_simp
        exact hK.out (.pointer (some ⟨b, off + 1, none⟩)) _ (sR_up hF 128 (by omega) _) (sF_val 128 (by omega) ((HG.out 128 (.pointer (some ⟨b, off + 1, none⟩)) (by rw [hVS]; rfl) _).2 rfl)) (fun j hj hf h => sF_up 128 _ j hj (fun e => by subst e; exact absurd (Eq.trans (Eq.symm (by kernel_rfl)) hf) Bool.false_ne_true) h)
      ·
        intro u w21 au hsl hel hu hF hp' K hK
        have h128 : u 128 = .pointer (some ⟨b, off + 1, none⟩) := (HG.out 128 (.pointer (some ⟨b, off + 1, none⟩)) (by rw [hVS]; rfl) _).1 (PreF.get hp' 128 (by kernel_rfl)).1
        have t144 : au.tmps[144]?.getD undef = u 128 := hsl.out 128 144 (by kernel_rfl)
        rw [h128] at t144
        have hw : w21 = w1.drew := hF ((hu.out 135 (by decide) (.inr (by kernel_rfl))).trans (by kernel_rfl))
        have xc : w21.cell? ⟨b, off + 1, none⟩ = some (.int .i64 (M 1)) := by rw [hw]; exact m1.out
        clear hw
        refine step_plain rfl ?_
        go_simp
        exact hK.out (.int .i64 (M 1)) _ (sR_up hF 129 (by omega) _) (sF_val 129 (by omega) ((HG.out 129 (.int .i64 (M 1)) (by rw [hVS]; rfl) _).2 rfl)) (fun j hj hf h => sF_up 129 _ j hj (fun e => by subst e; exact absurd (Eq.trans (Eq.symm (by kernel_rfl)) hf) Bool.false_ne_true) h)
      ·
        intro u w21 au hsl hel hu hF hp' K hK
        have t4 : au.tmps[4]?.getD undef = .slice (some ⟨b, off, none⟩) 9 c0 := (hel.out 4 (by kernel_rfl)).trans (by kernel_rfl)
        refine step_plain rfl ?_
        go_simp
        exact hK.out (.slice (some ⟨b, off, none⟩) 9 c0) _ (sR_up hF 130 (by omega) _) (sF_val 130 (by omega) ((HG.out 130 (.slice (some ⟨b, off, none⟩) 9 c0) (by rw [hVS]; rfl) _).2 rfl)) (fun j hj hf h => sF_up 130 _ j hj (fun e => by subst e; exact absurd (Eq.trans (Eq.symm (by kernel_rfl)) hf) Bool.false_ne_true) h)
      ·
        intro u w21 au hsl hel hu hF hp' K hK
        have h130 : u 130 = .slice (some ⟨b, off, none⟩) 9 c0 := (HG.out 130 (.slice (some ⟨b, off, none⟩) 9 c0) (by rw [hVS]; rfl) _).1 (PreF.get hp' 130 (by kernel_rfl)).1
        have t146 : au.tmps[146]?.getD undef = u 130 := hsl.out 130 146 (by kernel_rfl)
        rw [h130] at t146
        refine step_plain rfl ?_
        go_simp
        exact hK.out (.pointer (some ⟨b, off + 3, none⟩)) _ (sR_up hF 131 (by omega) _) (sF_val 131 (by omega) ((HG.out 131 (.pointer (some ⟨b, off + 3, none⟩)) (by rw [hVS]; rfl) _).2 rfl)) (fun j hj hf h => sF_up 131 _ j hj (fun e => by subst e; exact absurd (Eq.trans (Eq.symm (by kernel_rfl)) hf) Bool.false_ne_true) h)
      ·
        intro u w21 au hsl hel hu hF hp' K hK
        have h131 : u 131 = .pointer (some ⟨b, off + 3, none⟩) := (HG.out 131 (.pointer (some ⟨b, off + 3, none⟩)) (by rw [hVS]; rfl) _).1 (PreF.get hp' 131 (by kernel_rfl)).1
        have t147 : au.tmps[147]?.getD undef = u 131 := hsl.out 131 147 (by kernel_rfl)
        rw [h131] at t147
        have hw : w21 = w1.drew := hF ((hu.out 135 (by decide) (.inr (by kernel_rfl))).trans (by kernel_rfl))
        have xc : w21.cell? ⟨b, off + 3, none⟩ = some (.int .i64 (M 3)) := by rw [hw]; exact m3.out
        clear hw
        refine step_plain rfl ?_
        go_simp
        exact hK.out (.int .i64 (M 3)) _ (sR_up hF 132 (by omega) _) (sF_val 132 (by omega) ((HG.out 132 (.int .i64 (M 3)) (by rw [hVS]; rfl) _).2 rfl)) (fun j hj hf h => sF_up 132 _ j hj (fun e => by subst e; exact absurd (Eq.trans (Eq.symm (by kernel_rfl)) hf) Bool.false_ne_true) h)
      ·
        intro u w21 au hsl hel hu hF hp' K hK
        have h129 : u 129 = .int .i64 (M 1) := (HG.out 129 (.int .i64 (M 1)) (by rw [hVS]; rfl) _).1 (PreF.get hp' 129 (by kernel_rfl)).1
        have t145 : au.tmps[145]?.getD undef = u 129 := hsl.out 129 145 (by kernel_rfl)
        rw [h129] at t145
        have h132 : u 132 = .int .i64 (M 3) := (HG.out 132 (.int .i64 (M 3)) (by rw [hVS]; rfl) _).1 (PreF.get hp' 132 (by kernel_rfl)).1
        have t148 : au.tmps[148]?.getD undef = u 132 := hsl.out 132 148 (by kernel_rfl)
        rw [h132] at t148
        refine step_plain rfl ?_
        go_simp
        exact hK.out (.int .i64 P13) _ (sR_up hF 133 (by omega) _) (sF_val 133 (by omega) ((HG.out 133 (.int .i64 P13) (by rw [hVS]; rfl) _).2 rfl)) (fun j hj hf h => sF_up 133 _ j hj (fun e => by subst e; exact absurd (Eq.trans (Eq.symm (by kernel_rfl)) hf) Bool.false_ne_true) h)
      ·
        intro u w21 au hsl hel hu hF hp' K hK
        have h126 : u 126 = .int .i64 P04 := (HG.out 126 (.int .i64 P04) (by rw [hVS]; rfl) _).1 (PreF.get hp' 126 (by kernel_rfl)).1
        have t142 : au.tmps[142]?.getD undef = u 126 := hsl.out 126 142 (by kernel_rfl)
        rw [h126] at t142
        have h133 : u 133 = .int .i64 P13 := (HG.out 133 (.int .i64 P13) (by rw [hVS]; rfl) _).1 (PreF.get hp' 133 (by kernel_rfl)).1
        have t149 : au.tmps[149]?.getD undef = u 133 := hsl.out 133 149 (by kernel_rfl)
        rw [h133] at t149
        refine step_plain rfl ?_
        go_simp
        exact hK.out (.int .i64 (J 8)) _ (sR_up hF 134 (by omega) _) (sF_val 134 (by omega) ((HG.out 134 (.int .i64 (J 8)) (by rw [hVS]; rfl) _).2 rfl)) (fun j hj hf h => sF_up 134 _ j hj (fun e => by subst e; exact absurd (Eq.trans (Eq.symm (by kernel_rfl)) hf) Bool.false_ne_true) h)
      ·
        intro u w21 au hsl hel hu hF hp' K hK
        have h14 : u 14 = .int .i64 (J 0) := (HG.out 14 (.int .i64 (J 0)) (by rw [hVS]; rfl) _).1 (PreF.get hp' 14 (by kernel_rfl)).1
        have t30 : au.tmps[30]?.getD undef = u 14 := hsl.out 14 30 (by kernel_rfl)
        rw [h14] at t30
        have h29 : u 29 = .int .i64 (J 1) := (HG.out 29 (.int .i64 (J 1)) (by rw [hVS]; rfl) _).1 (PreF.get hp' 29 (by kernel_rfl)).1
        have t45 : au.tmps[45]?.getD undef = u 29 := hsl.out 29 45 (by kernel_rfl)
        rw [h29] at t45
        have h44 : u 44 = .int .i64 (J 2) := (HG.out 44 (.int .i64 (J 2)) (by rw [hVS]; rfl) _).1 (PreF.get hp' 44 (by kernel_rfl)).1
        have t60 : au.tmps[60]?.getD undef = u 44 := hsl.out 44 60 (by kernel_rfl)
        rw [h44] at t60
        have h59 : u 59 = .int .i64 (J 3) := (HG.out 59 (.int .i64 (J 3)) (by rw [hVS]; rfl) _).1 (PreF.get hp' 59 (by kernel_rfl)).1
        have t75 : au.tmps[75]?.getD undef = u 59 := hsl.out 59 75 (by kernel_rfl)
        rw [h59] at t75
        have h74 : u 74 = .int .i64 (J 4) := (HG.out 74 (.int .i64 (J 4)) (by rw [hVS]; rfl) _).1 (PreF.get hp' 74 (by kernel_rfl)).1
        have t90 : au.tmps[90]?.getD undef = u 74 := hsl.out 74 90 (by kernel_rfl)
        rw [h74] at t90
        have h89 : u 89 = .int .i64 (J 5) := (HG.out 89 (.int .i64 (J 5)) (by rw [hVS]; rfl) _).1 (PreF.get hp' 89 (by kernel_rfl)).1
        have t105 : au.tmps[105]?.getD undef = u 89 := hsl.out 89 105 (by kernel_rfl)
        rw [h89] at t105
        have h104 : u 104 = .int .i64 (J 6) := (HG.out 104 (.int .i64 (J 6)) (by rw [hVS]; rfl) _).1 (PreF.get hp' 104 (by kernel_rfl)).1
        have t120 : au.tmps[120]?.getD undef = u 104 := hsl.out 104 120 (by kernel_rfl)
        rw [h104] at t120
        have h119 : u 119 = .int .i64 (J 7) := (HG.out 119 (.int .i64 (J 7)) (by rw [hVS]; rfl) _).1 (PreF.get hp' 119 (by kernel_rfl)).1
        have t135 : au.tmps[135]?.getD undef = u 119 := hsl.out 119 135 (by kernel_rfl)
        rw [h119] at t135
        have h134 : u 134 = .int .i64 (J 8) := (HG.out 134 (.int .i64 (J 8)) (by rw [hVS]; rfl) _).1 (PreF.get hp' 134 (by kernel_rfl)).1
        have t150 : au.tmps[150]?.getD undef = u 134 := hsl.out 134 150 (by kernel_rfl)
        rw [h134] at t150
        have hw : w21 = w1.drew := hF ((hu.out 135 (by decide) (.inl rfl)).trans (by kernel_rfl))
        subst hw
        refine step_plain rfl ?_
        go_simp
        exact hK.out (.slice (some ⟨w1.heap.size, 0, none⟩) 9 9) _ (sR_st (by simp [undef])) (sF_st ((HG.out 135 (.slice (some ⟨w1.heap.size, 0, none⟩) 9 9) (by rw [hVS]; rfl) _).2 rfl) (by rw [hPP]; rfl)) (fun j hj _ h => sF_keep _ j hj h)
      ·
        intro u w21 au hsl hel hu hF hp' K hK
        have h135 : u 135 = .slice (some ⟨w1.heap.size, 0, none⟩) 9 9 := (HG.out 135 (.slice (some ⟨w1.heap.size, 0, none⟩) 9 9) (by rw [hVS]; rfl) _).1 (PreF.get hp' 135 (by kernel_rfl)).1
        have t151 : au.tmps[151]?.getD undef = u 135 := hsl.out 135 151 (by kernel_rfl)
        rw [h135] at t151
        refine step_plain rfl ?_
        go_simp
        exact hK.out (.slice (some ⟨w1.heap.size, 0, none⟩) 9 9) _ (sR_up hF 136 (by omega) _) (sF_val 136 (by omega) ((HG.out 136 (.slice (some ⟨w1.heap.size, 0, none⟩) 9 9) (by rw [hVS]; rfl) _).2 rfl)) (fun j hj hf h => ⟨by rw [upU_other _ _ hj]; exact h.1, h.2⟩)
    · intro u w30 hF hall
      have hp := (hall 135 (by decide)).2 rfl
      rw [hPP] at hp
      have HE := hide hp
      have h136 := (HG.out 136 (.slice (some ⟨w1.heap.size, 0, none⟩) 9 9) (by rw [hVS]; rfl) _).1 (hall 136 (by decide)).1
      clear hF hall hp HG hVS hPP
      show K1 _ _
      refine hK1 _ _ (Met.intro (hJ1 _ _ ?_))
      clear hJ1 hK1
      refine Exists.intro (u 136) ?_
      refine Exists.intro (vFrame D (some ⟨b, off, none⟩) 9 c0 (some ⟨b', off', none⟩) 3 c1) ?_
      refine Exists.intro (.bool true) ?_
      refine Exists.intro (.bool false) ?_
      refine Exists.intro (undef) ?_
      refine Exists.intro (.pointer (some ⟨w.heap.size, 0, none⟩)) ?_
      refine Exists.intro (.slice (some ⟨b, off, none⟩) 9 c0) ?_
      refine Exists.intro (u 0) ?_
      refine Exists.intro (u 1) ?_
      refine Exists.intro (u 2) ?_
      refine Exists.intro (u 3) ?_
      refine Exists.intro (u 4) ?_
      refine Exists.intro (u 5) ?_
      refine Exists.intro (u 6) ?_
      refine Exists.intro (u 7) ?_
      refine Exists.intro (u 8) ?_
      refine Exists.intro (u 9) ?_
      refine Exists.intro (u 10) ?_
      refine Exists.intro (u 11) ?_
      refine Exists.intro (u 12) ?_
      refine Exists.intro (u 13) ?_
      refine Exists.intro (u 14) ?_
      refine Exists.intro (u 15) ?_
      refine Exists.intro (u 16) ?_
      refine Exists.intro (u 17) ?_
      refine Exists.intro (u 18) ?_
      refine Exists.intro (u 19) ?_
      refine Exists.intro (u 20) ?_
      refine Exists.intro (u 21) ?_
      refine Exists.intro (u 22) ?_
      refine Exists.intro (u 23) ?_
      refine Exists.intro (u 24) ?_
      refine Exists.intro (u 25) ?_
      refine Exists.intro (u 26) ?_
      refine Exists.intro (u 27) ?_
      refine Exists.intro (u 28) ?_
      refine Exists.intro (u 29) ?_
      refine Exists.intro (u 30) ?_
      refine Exists.intro (u 31) ?_
      refine Exists.intro (u 32) ?_
      refine Exists.intro (u 33) ?_
      refine Exists.intro (u 34) ?_
      refine Exists.intro (u 35) ?_
      refine Exists.intro (u 36) ?_
      refine Exists.intro (u 37) ?_
      refine Exists.intro (u 38) ?_
      refine Exists.intro (u 39) ?_
      refine Exists.intro (u 40) ?_
      refine Exists.intro (u 41) ?_
      refine Exists.intro (u 42) ?_
      refine Exists.intro (u 43) ?_
      refine Exists.intro (u 44) ?_
      refine Exists.intro (u 45) ?_
      refine Exists.intro (u 46) ?_
      refine Exists.intro (u 47) ?_
      refine Exists.intro (u 48) ?_
      refine Exists.intro (u 49) ?_
      refine Exists.intro (u 50) ?_
      refine Exists.intro (u 51) ?_
      refine Exists.intro (u 52) ?_
      refine Exists.intro (u 53) ?_
      refine Exists.intro (u 54) ?_
      refine Exists.intro (u 55) ?_
      refine Exists.intro (u 56) ?_
      refine Exists.intro (u 57) ?_
      refine Exists.intro (u 58) ?_
      refine Exists.intro (u 59) ?_
      refine Exists.intro (u 60) ?_
      refine Exists.intro (u 61) ?_
      refine Exists.intro (u 62) ?_
      refine Exists.intro (u 63) ?_
      refine Exists.intro (u 64) ?_
      refine Exists.intro (u 65) ?_
      refine Exists.intro (u 66) ?_
      refine Exists.intro (u 67) ?_
      refine Exists.intro (u 68) ?_
      refine Exists.intro (u 69) ?_
      refine Exists.intro (u 70) ?_
      refine Exists.intro (u 71) ?_
      refine Exists.intro (u 72) ?_
      refine Exists.intro (u 73) ?_
      refine Exists.intro (u 74) ?_
      refine Exists.intro (u 75) ?_
      refine Exists.intro (u 76) ?_
      refine Exists.intro (u 77) ?_
      refine Exists.intro (u 78) ?_
      refine Exists.intro (u 79) ?_
      refine Exists.intro (u 80) ?_
      refine Exists.intro (u 81) ?_
      refine Exists.intro (u 82) ?_
      refine Exists.intro (u 83) ?_
      refine Exists.intro (u 84) ?_
      refine Exists.intro (u 85) ?_
      refine Exists.intro (u 86) ?_
      refine Exists.intro (u 87) ?_
      refine Exists.intro (u 88) ?_
      refine Exists.intro (u 89) ?_
      refine Exists.intro (u 90) ?_
      refine Exists.intro (u 91) ?_
      refine Exists.intro (u 92) ?_
      refine Exists.intro (u 93) ?_
      refine Exists.intro (u 94) ?_
      refine Exists.intro (u 95) ?_
      refine Exists.intro (u 96) ?_
      refine Exists.intro (u 97) ?_
      refine Exists.intro (u 98) ?_
      refine Exists.intro (u 99) ?_
      refine Exists.intro (u 100) ?_
      refine Exists.intro (u 101) ?_
      refine Exists.intro (u 102) ?_
      refine Exists.intro (u 103) ?_
      refine Exists.intro (u 104) ?_
      refine Exists.intro (u 105) ?_
      refine Exists.intro (u 106) ?_
      refine Exists.intro (u 107) ?_
      refine Exists.intro (u 108) ?_
      refine Exists.intro (u 109) ?_
      refine Exists.intro (u 110) ?_
      refine Exists.intro (u 111) ?_
      refine Exists.intro (u 112) ?_
      refine Exists.intro (u 113) ?_
      refine Exists.intro (u 114) ?_
      refine Exists.intro (u 115) ?_
      refine Exists.intro (u 116) ?_
      refine Exists.intro (u 117) ?_
      refine Exists.intro (u 118) ?_
      refine Exists.intro (u 119) ?_
      refine Exists.intro (u 120) ?_
      refine Exists.intro (u 121) ?_
      refine Exists.intro (u 122) ?_
      refine Exists.intro (u 123) ?_
      refine Exists.intro (u 124) ?_
      refine Exists.intro (u 125) ?_
      refine Exists.intro (u 126) ?_
      refine Exists.intro (u 127) ?_
      refine Exists.intro (u 128) ?_
      refine Exists.intro (u 129) ?_
      refine Exists.intro (u 130) ?_
      refine Exists.intro (u 131) ?_
      refine Exists.intro (u 132) ?_
      refine Exists.intro (u 133) ?_
      refine Exists.intro (u 134) ?_
      refine Exists.intro (u 135) ?_
      refine Exists.intro (undef) ?_
      refine Exists.intro (undef) ?_
      refine Exists.intro (undef) ?_
      refine Exists.intro (undef) ?_
      refine Exists.intro (undef) ?_
      refine Exists.intro (undef) ?_
      refine Exists.intro (undef) ?_
      refine Exists.intro (undef) ?_
      refine Exists.intro (undef) ?_
      refine Exists.intro (undef) ?_
      refine Exists.intro (undef) ?_
      refine Exists.intro (undef) ?_
      refine Exists.intro (undef) ?_
      refine Exists.intro (undef) ?_
      refine Exists.intro (undef) ?_
      refine Exists.intro (undef) ?_
      refine Exists.intro (undef) ?_
      refine Exists.intro (undef) ?_
      refine Exists.intro (undef) ?_
      refine Exists.intro (undef) ?_
      refine Exists.intro (undef) ?_
      refine Exists.intro (undef) ?_
      refine Exists.intro (undef) ?_
      refine Exists.intro (undef) ?_
      refine Exists.intro (undef) ?_
      refine Exists.intro (undef) ?_
      refine Exists.intro (undef) ?_
      refine Exists.intro (undef) ?_
      refine Exists.intro (undef) ?_
      refine Exists.intro (undef) ?_
      refine Exists.intro (undef) ?_
      refine Exists.intro (undef) ?_
      refine Exists.intro (undef) ?_
      refine Exists.intro (undef) ?_
      refine Exists.intro (undef) ?_
      refine Exists.intro (undef) ?_
      refine Exists.intro (undef) ?_
      refine Exists.intro (undef) ?_
      refine Exists.intro (undef) ?_
      refine Exists.intro (undef) ?_
      refine Exists.intro (undef) ?_
      refine Exists.intro (undef) ?_
      refine Exists.intro (undef) ?_
      refine Exists.intro (undef) ?_
      refine Exists.intro (undef) ?_
      refine Exists.intro (undef) ?_
      refine Exists.intro (undef) ?_
      refine Exists.intro (undef) ?_
      refine Exists.intro (undef) ?_
      refine Exists.intro (undef) ?_
      refine Exists.intro (undef) ?_
      refine Exists.intro (undef) ?_
      refine Exists.intro (undef) ?_
      refine Exists.intro (undef) ?_
      refine Exists.intro (undef) ?_
      refine Exists.intro (undef) ?_
      refine Exists.intro (undef) ?_
      refine Exists.intro (undef) ?_
      refine Exists.intro (undef) ?_
      refine Exists.intro (undef) ?_
      refine Exists.intro (undef) ?_
      refine Exists.intro (undef) ?_
      refine Exists.intro (undef) ?_
      refine Exists.intro (undef) ?_
      refine Exists.intro (undef) ?_
      refine Exists.intro (undef) ?_
      refine Exists.intro (undef) ?_
      refine Exists.intro (undef) ?_
      refine Exists.intro (undef) ?_
      refine Exists.intro (undef) ?_
      refine Exists.intro (undef) ?_
      exact ⟨⟨h136, HE.out⟩, by kernel_rfl⟩
  case rest =>
    obtain ⟨rfl, hwc⟩ := hcut
    have HS2 := hide (HS1.out.drew.box (c9 J) 2)
    rw [← hwc] at HS2
    obtain ⟨w2, hw2⟩ : ∃ wn, wn = wc := ⟨_, rfl⟩
    rw [← hw2] at HS2
    rw [← hw2]
    clear hwc hw2
    clear HS1 i0 m0 m1 m2 m3 m4 m5 m6 m7 m8 v04 v05 v07 v08 v13 v15 v16 v18 v23 v24 v26 v27 v37 v38 v46 v48 v56 v57 vj0 vj1 vj2 vj3 vj4 vj5 vj6 vj7 vj8
    have hbz : w1.drew.heap.size = w1.heap.size := rfl
    try rw [hbz] at HS2
    clear hbz
    generalize w1.heap.size = ba at *
    have mk9 : ∀ wx : World, (Instr.makeSlice 24 (.int .i64 9) (.int .i64 9)).run Try.prog wx = .ok (.slice (some ⟨wx.heap.size, 0, none⟩) 9 9) (wx.alloc (.cells (c9 (hy (fun _ => 0) 0)).toArray 2)) := fun wx => by have := make_px 9 (by omega) wx; rw [made9] at this; exact this
    have mk3 : ∀ wx : World, (Instr.makeSlice 24 (.int .i64 3) (.int .i64 3)).run Try.prog wx = .ok (.slice (some ⟨wx.heap.size, 0, none⟩) 3 3) (wx.alloc (.cells (c3 (hy (fun _ => 0) 0)).toArray 2)) := fun wx => by have := make_px 3 (by omega) wx; rw [made3] at this; exact this
    have HS3 := hide ((HS2.out.box (c9 (hy (ivN D J) 0)) 2).box' (c3 (hy (ivS J T) 0)) 2 (b := w2.heap.size + 1) (by simp))
    have hc9 : c9 (hy (fun _ => 0) 0) = c9 (hy (ivN D J) 0) := rfl
    have hc3 : c3 (hy (fun _ => 0) 0) = c3 (hy (ivS J T) 0) := rfl
    rw [hc9] at mk9
    rw [hc3] at mk3
    clear hc9 hc3
    generalize hA9 : (c9 (hy (ivN D J) 0)).toArray = A9 at *
    generalize hA3 : (c3 (hy (ivS J T) 0)).toArray = A3 at *
    clear HS2
    go_upto_region 7 with fail
    generalize w2.heap.size + 1 = bt at *
    generalize w2.heap.size = bm at *
    generalize (w2.alloc (.cells A9 2)).alloc (.cells A3 2) = w3 at *
    clear hA9 hA3 mk9 mk3
    go_wp2_with fail
    go_loopw [8] (fun i wr => ∃ j : Nat, j ≤ 3 ∧ i = .int .i64 j ∧ St w [(bt, c3 (hy (ivS J T) (j))), (bm, c9 (hy (ivN D J) (3 * j))), (ba, c9 J), (w.heap.size + 1, [.slice none 0 0, .slice none 0 0, .int .i64 0]), (w.heap.size, [.slice (some ⟨b, off, none⟩) 9 c0, .slice (some ⟨b', off', none⟩) 3 c1, .int .i64 D])] [] wr) (fun i _ => 3 - (intOf i).toNat)
    case atStart => exact ⟨0, by omega, rfl, HS3.out⟩
    case round =>
      obtain ⟨i, hi, rfl, hst⟩ := hrel
      have HSo := hide hst
      clear hst HS3
      obtain ⟨wo, hwo⟩ : ∃ wo, wo = wr := ⟨_, rfl⟩
      rw [← hwo] at HSo
      rw [← hwo]
      clear hwo
      by_cases hlt : i < 3
      · have hii : (i : Int) < 3 := by omega
        go_wp2_with fail
        go_loopw [9] (fun k wr => ∃ q : Nat, q ≤ 3 ∧ k = .int .i64 q ∧ St w [(bt, c3 (hy (ivS J T) (i))), (bm, c9 (hy (ivN D J) (3 * i + q))), (ba, c9 J), (w.heap.size + 1, [.slice none 0 0, .slice none 0 0, .int .i64 0]), (w.heap.size, [.slice (some ⟨b, off, none⟩) 9 c0, .slice (some ⟨b', off', none⟩) 3 c1, .int .i64 D])] [] wr) (fun k _ => 3 - (intOf k).toNat)
        case atStart => exact ⟨0, by omega, rfl, HSo.out⟩
        case round =>
          obtain ⟨k, hk, rfl, hst⟩ := hrel
          have HSi := hide hst
          clear hst HSo
          obtain ⟨wi, hwi⟩ : ∃ wi, wi = wr := ⟨_, rfl⟩
          rw [← hwi] at HSi
          rw [← hwi]
          clear hwi
          by_cases hkl : k < 3
          · have hkk : (k : Int) < 3 := by omega
            obtain ⟨p0, hp0⟩ : ∃ x : Nat, x = 3 * i := ⟨_, rfl⟩
            have lp0 : (p0 : Int) < 9 := by omega
            obtain ⟨pk, hpk⟩ : ∃ x : Nat, x = 3 * i + k := ⟨_, rfl⟩
            have lpk : (pk : Int) < 9 := by omega
            have mJpk : Hid (wi.cell? ⟨ba, pk, none⟩ = some (.int .i64 (J pk))) := HSi.out.cell 2 rfl pk (c9_at _ (by omega))
            have e0 : IntKind.i64.wrap (3 * (i : Int)) = (p0 : Int) := by rw [IntKind.wrap_i64]; omega
            have ek : IntKind.i64.wrap ((p0 : Int) + (k : Int)) = (pk : Int) := by rw [IntKind.wrap_i64]; omega
            have nd := mul_b12 (HJ.out pk) (show -1000000 ≤ D ∧ D ≤ 1000000 by have := BD.out; omega)
            obtain ⟨X, hX⟩ : ∃ Y, Y = J pk * D := ⟨_, rfl⟩
            rw [← hX] at nd
            have v0 : IntKind.i64.wrap (J pk * D) = X := by rw [IntKind.wrap_i64, ← hX]; omega
            have HX : Hid (X = ivN D J (3 * i + k)) := by show _ = _; rw [hX, hpk]; rfl
            have HSN : Hid (St w [(bt, c3 (hy (ivS J T) (i))), (bm, c9 (hy (ivN D J) (3 * i + k + 1))), (ba, c9 J), (w.heap.size + 1, [.slice none 0 0, .slice none 0 0, .int .i64 0]), (w.heap.size, [.slice (some ⟨b, off, none⟩) 9 c0, .slice (some ⟨b', off', none⟩) 3 c1, .int .i64 D])] [] (wi.drew.setCell ⟨bm, pk, none⟩ (.int .i64 X))) := by
              have h := St.fill (L1 := [(bt, c3 (hy (ivS J T) i))]) HSi.out.drew pk (.int .i64 X)
              rw [HX.out, hpk, c9_hy (ivN D J) (show 3 * i + k < 9 by omega)] at h
              rw [HX.out, hpk]
              exact h
            have HOC : Hid (wi.cell? ⟨bm, pk, none⟩ = some (.int .i64 (hy (ivN D J) (3 * i + k) pk))) := HSi.out.cell 1 rfl pk (c9_at _ (by omega))
            have HOF : Hid (wi.frozen? ⟨bm, pk, none⟩ = false) := HSi.out.free 1 rfl pk (c9_at _ (by omega))
            have HIK : Hid (i < 3 ∧ k < 3) := ⟨hlt, hkl⟩
            clear hX nd hp0 hpk hlt hkl hi hk
            generalize hy (ivN D J) (3 * i + k) pk = OLD at *
            go_upto_region 13 with fail
            obtain ⟨G, hG⟩ : ∃ G : Nat → Value → Prop, G = (fun j v => match j with | 0 => v = .slice (some ⟨bm, 0, none⟩) 9 9 | 1 => v = .int .i64 (i : Int) | 2 => v = .int .i64 (p0 : Int) | 3 => v = .int .i64 (k : Int) | 4 => v = .int .i64 (pk : Int) | 5 => v = .slice (some ⟨ba, 0, none⟩) 9 9 | 6 => v = .int .i64 (i : Int) | 7 => v = .int .i64 (p0 : Int) | 8 => v = .int .i64 (k : Int) | 9 => v = .int .i64 (pk : Int) | 10 => v = .pointer (some ⟨ba, pk, none⟩) | 11 => v = .int .i64 (J pk) | 12 => v = .pointer (some ⟨w.heap.size, 2, none⟩) | 13 => v = .int .i64 D | 14 => v = .int .i64 X | 15 => v = .pointer (some ⟨bm, pk, none⟩) | _ => True) := ⟨_, rfl⟩
            have G0 : Hid (∀ v, G 0 v ↔ v = .slice (some ⟨bm, 0, none⟩) 9 9) := fun v => by rw [hG]; exact Iff.rfl
            have G1 : Hid (∀ v, G 1 v ↔ v = .int .i64 (i : Int)) := fun v => by rw [hG]; exact Iff.rfl
            have G2 : Hid (∀ v, G 2 v ↔ v = .int .i64 (p0 : Int)) := fun v => by rw [hG]; exact Iff.rfl
            have G3 : Hid (∀ v, G 3 v ↔ v = .int .i64 (k : Int)) := fun v => by rw [hG]; exact Iff.rfl
            have G4 : Hid (∀ v, G 4 v ↔ v = .int .i64 (pk : Int)) := fun v => by rw [hG]; exact Iff.rfl
            have G5 : Hid (∀ v, G 5 v ↔ v = .slice (some ⟨ba, 0, none⟩) 9 9) := fun v => by rw [hG]; exact Iff.rfl
            have G6 : Hid (∀ v, G 6 v ↔ v = .int .i64 (i : Int)) := fun v => by rw [hG]; exact Iff.rfl
            have G7 : Hid (∀ v, G 7 v ↔ v = .int .i64 (p0 : Int)) := fun v => by rw [hG]; exact Iff.rfl
            have G8 : Hid (∀ v, G 8 v ↔ v = .int .i64 (k : Int)) := fun v => by rw [hG]; exact Iff.rfl
            have G9 : Hid (∀ v, G 9 v ↔ v = .int .i64 (pk : Int)) := fun v => by rw [hG]; exact Iff.rfl
            have G10 : Hid (∀ v, G 10 v ↔ v = .pointer (some ⟨ba, pk, none⟩)) := fun v => by rw [hG]; exact Iff.rfl
            have G11 : Hid (∀ v, G 11 v ↔ v = .int .i64 (J pk)) := fun v => by rw [hG]; exact Iff.rfl
            have G12 : Hid (∀ v, G 12 v ↔ v = .pointer (some ⟨w.heap.size, 2, none⟩)) := fun v => by rw [hG]; exact Iff.rfl
            have G13 : Hid (∀ v, G 13 v ↔ v = .int .i64 D) := fun v => by rw [hG]; exact Iff.rfl
            have G14 : Hid (∀ v, G 14 v ↔ v = .int .i64 X) := fun v => by rw [hG]; exact Iff.rfl
            have G15 : Hid (∀ v, G 15 v ↔ v = .pointer (some ⟨bm, pk, none⟩)) := fun v => by rw [hG]; exact Iff.rfl
            have G16 : Hid (∀ v, G 16 v) := fun v => by rw [hG]; trivial
            clear hG
            obtain ⟨PP, hPP⟩ : ∃ P : World → Prop, P = (fun wx => wx = wi.drew.setCell ⟨bm, pk, none⟩ (.int .i64 X)) := ⟨_, rfl⟩
            refine region_opsV (sR 16 wi) (sF 16 G PP) (by kernel_rfl) (by kernel_rfl) (by kernel_rfl) (by kernel_rfl) (fun _ => rfl) ?_ ?_
            · refine ⟨?_, ?_, ?_, ?_, ?_, ?_, ?_, ?_, ?_, ?_, ?_, ?_, ?_, ?_, ?_, ?_, ?_, trivial⟩
              ·
                intro u w21 au hsl hel hu hF hp' K hK
                have t6 : au.tmps[6]?.getD undef = .slice (some ⟨bm, 0, none⟩) 9 9 := (hel.out 6 (by kernel_rfl)).trans (by kernel_rfl)
                refine step_plain rfl ?_
                go_simp
                exact hK.out (.slice (some ⟨bm, 0, none⟩) 9 9) _ (sR_up hF 0 (by omega) _) (sF_val 0 (by omega) ((G0.out _).2 rfl)) (fun j hj hf h => sF_up 0 _ j hj (fun e => by subst e; exact absurd (Eq.trans (Eq.symm (by kernel_rfl)) hf) Bool.false_ne_true) h)
              ·
                intro u w21 au hsl hel hu hF hp' K hK
                have t8 : au.tmps[8]?.getD undef = .int .i64 (i : Int) := (hel.out 8 (by kernel_rfl)).trans (by kernel_rfl)
                refine step_plain rfl ?_
                go_simp
                exact hK.out (.int .i64 (i : Int)) _ (sR_up hF 1 (by omega) _) (sF_val 1 (by omega) ((G1.out _).2 rfl)) (fun j hj hf h => sF_up 1 _ j hj (fun e => by subst e; exact absurd (Eq.trans (Eq.symm (by kernel_rfl)) hf) Bool.false_ne_true) h)
              ·
                intro u w21 au hsl hel hu hF hp' K hK
                have h1 : u 1 = .int .i64 (i : Int) := (G1.out _).1 (PreF.get hp' 1 (by kernel_rfl)).1
                have t163 : au.tmps[163]?.getD undef = u 1 := hsl.out 1 163 (by kernel_rfl)
                rw [h1] at t163
                refine step_plain rfl ?_
                go_simp
                exact hK.out (.int .i64 (p0 : Int)) _ (sR_up hF 2 (by omega) _) (sF_val 2 (by omega) ((G2.out _).2 rfl)) (fun j hj hf h => sF_up 2 _ j hj (fun e => by subst e; exact absurd (Eq.trans (Eq.symm (by kernel_rfl)) hf) Bool.false_ne_true) h)
              ·
                intro u w21 au hsl hel hu hF hp' K hK
                have t9 : au.tmps[9]?.getD undef = .int .i64 (k : Int) := (hel.out 9 (by kernel_rfl)).trans (by kernel_rfl)
                refine step_plain rfl ?_
                go_simp
                exact hK.out (.int .i64 (k : Int)) _ (sR_up hF 3 (by omega) _) (sF_val 3 (by omega) ((G3.out _).2 rfl)) (fun j hj hf h => sF_up 3 _ j hj (fun e => by subst e; exact absurd (Eq.trans (Eq.symm (by kernel_rfl)) hf) Bool.false_ne_true) h)
              ·
                intro u w21 au hsl hel hu hF hp' K hK
                have h2 : u 2 = .int .i64 (p0 : Int) := (G2.out _).1 (PreF.get hp' 2 (by kernel_rfl)).1
                have t164 : au.tmps[164]?.getD undef = u 2 := hsl.out 2 164 (by kernel_rfl)
                rw [h2] at t164
                have h3 : u 3 = .int .i64 (k : Int) := (G3.out _).1 (PreF.get hp' 3 (by kernel_rfl)).1
                have t165 : au.tmps[165]?.getD undef = u 3 := hsl.out 3 165 (by kernel_rfl)
                rw [h3] at t165
                refine step_plain rfl ?_
                go_simp
                exact hK.out (.int .i64 (pk : Int)) _ (sR_up hF 4 (by omega) _) (sF_val 4 (by omega) ((G4.out _).2 rfl)) (fun j hj hf h => sF_up 4 _ j hj (fun e => by subst e; exact absurd (Eq.trans (Eq.symm (by kernel_rfl)) hf) Bool.false_ne_true) h)
              ·
                intro u w21 au hsl hel hu hF hp' K hK
                have t5 : au.tmps[5]?.getD undef = .slice (some ⟨ba, 0, none⟩) 9 9 := (hel.out 5 (by kernel_rfl)).trans (by kernel_rfl)
                refine step_plain rfl ?_
                go_simp
                exact hK.out (.slice (some ⟨ba, 0, none⟩) 9 9) _ (sR_up hF 5 (by omega) _) (sF_val 5 (by omega) ((G5.out _).2 rfl)) (fun j hj hf h => sF_up 5 _ j hj (fun e => by subst e; exact absurd (Eq.trans (Eq.symm (by kernel_rfl)) hf) Bool.false_ne_true) h)
              ·
                intro u w21 au hsl hel hu hF hp' K hK
                have t8 : au.tmps[8]?.getD undef = .int .i64 (i : Int) := (hel.out 8 (by kernel_rfl)).trans (by kernel_rfl)
                refine step_plain rfl ?_
                go_simp
                exact hK.out (.int .i64 (i : Int)) _ (sR_up hF 6 (by omega) _) (sF_val 6 (by omega) ((G6.out _).2 rfl)) (fun j hj hf h => sF_up 6 _ j hj (fun e => by subst e; exact absurd (Eq.trans (Eq.symm (by kernel_rfl)) hf) Bool.false_ne_true) h)
              ·
                intro u w21 au hsl hel hu hF hp' K hK
                have h6 : u 6 = .int .i64 (i : Int) := (G6.out _).1 (PreF.get hp' 6 (by kernel_rfl)).1
                have t168 : au.tmps[168]?.getD undef = u 6 := hsl.out 6 168 (by kernel_rfl)
                rw [h6] at t168
                refine step_plain rfl ?_
                go_simp
                exact hK.out (.int .i64 (p0 : Int)) _ (sR_up hF 7 (by omega) _) (sF_val 7 (by omega) ((G7.out _).2 rfl)) (fun j hj hf h => sF_up 7 _ j hj (fun e => by subst e; exact absurd (Eq.trans (Eq.symm (by kernel_rfl)) hf) Bool.false_ne_true) h)
              ·
                intro u w21 au hsl hel hu hF hp' K hK
                have t9 : au.tmps[9]?.getD undef = .int .i64 (k : Int) := (hel.out 9 (by kernel_rfl)).trans (by kernel_rfl)
                refine step_plain rfl ?_
                go_simp
                exact hK.out (.int .i64 (k : Int)) _ (sR_up hF 8 (by omega) _) (sF_val 8 (by omega) ((G8.out _).2 rfl)) (fun j hj hf h => sF_up 8 _ j hj (fun e => by subst e; exact absurd (Eq.trans (Eq.symm (by kernel_rfl)) hf) Bool.false_ne_true) h)
              ·
                intro u w21 au hsl hel hu hF hp' K hK
                have h7 : u 7 = .int .i64 (p0 : Int) := (G7.out _).1 (PreF.get hp' 7 (by kernel_rfl)).1
                have t169 : au.tmps[169]?.getD undef = u 7 := hsl.out 7 169 (by kernel_rfl)
                rw [h7] at t169
                have h8 : u 8 = .int .i64 (k : Int) := (G8.out _).1 (PreF.get hp' 8 (by kernel_rfl)).1
                have t170 : au.tmps[170]?.getD undef = u 8 := hsl.out 8 170 (by kernel_rfl)
                rw [h8] at t170
                refine step_plain rfl ?_
                go_simp
                exact hK.out (.int .i64 (pk : Int)) _ (sR_up hF 9 (by omega) _) (sF_val 9 (by omega) ((G9.out _).2 rfl)) (fun j hj hf h => sF_up 9 _ j hj (fun e => by subst e; exact absurd (Eq.trans (Eq.symm (by kernel_rfl)) hf) Bool.false_ne_true) h)
              ·
                intro u w21 au hsl hel hu hF hp' K hK
                have h5 : u 5 = .slice (some ⟨ba, 0, none⟩) 9 9 := (G5.out _).1 (PreF.get hp' 5 (by kernel_rfl)).1
                have t167 : au.tmps[167]?.getD undef = u 5 := hsl.out 5 167 (by kernel_rfl)
                rw [h5] at t167
                have h9 : u 9 = .int .i64 (pk : Int) := (G9.out _).1 (PreF.get hp' 9 (by kernel_rfl)).1
                have t171 : au.tmps[171]?.getD undef = u 9 := hsl.out 9 171 (by kernel_rfl)
                rw [h9] at t171
                refine step_plain rfl ?_
                go_simp
                exact hK.out (.pointer (some ⟨ba, pk, none⟩)) _ (sR_up hF 10 (by omega) _) (sF_val 10 (by omega) ((G10.out _).2 rfl)) (fun j hj hf h => sF_up 10 _ j hj (fun e => by subst e; exact absurd (Eq.trans (Eq.symm (by kernel_rfl)) hf) Bool.false_ne_true) h)
              ·
                intro u w21 au hsl hel hu hF hp' K hK
                have h10 : u 10 = .pointer (some ⟨ba, pk, none⟩) := (G10.out _).1 (PreF.get hp' 10 (by kernel_rfl)).1
                have t172 : au.tmps[172]?.getD undef = u 10 := hsl.out 10 172 (by kernel_rfl)
                rw [h10] at t172
                have hw : w21 = wi.drew := hF ((hu.out 16 (by decide) (.inr (by kernel_rfl))).trans (by kernel_rfl))
                have xc : w21.cell? ⟨ba, pk, none⟩ = some (.int .i64 (J pk)) := by rw [hw]; exact mJpk.out
                clear hw
                refine step_plain rfl ?_
                go_simp
                exact hK.out (.int .i64 (J pk)) _ (sR_up hF 11 (by omega) _) (sF_val 11 (by omega) ((G11.out _).2 rfl)) (fun j hj hf h => sF_up 11 _ j hj (fun e => by subst e; exact absurd (Eq.trans (Eq.symm (by kernel_rfl)) hf) Bool.false_ne_true) h)
              ·
                intro u w21 au hsl hel hu hF hp' K hK
                have t1 : au.tmps[1]?.getD undef = .pointer (some ⟨w.heap.size, 0, none⟩) := (hel.out 1 (by kernel_rfl)).trans (by kernel_rfl)
                refine step_plain rfl ?_
                go_simp
                exact hK.out (.pointer (some ⟨w.heap.size, 2, none⟩)) _ (sR_up hF 12 (by omega) _) (sF_val 12 (by omega) ((G12.out _).2 rfl)) (fun j hj hf h => sF_up 12 _ j hj (fun e => by subst e; exact absurd (Eq.trans (Eq.symm (by kernel_rfl)) hf) Bool.false_ne_true) h)
              ·
                intro u w21 au hsl hel hu hF hp' K hK
                have h12 : u 12 = .pointer (some ⟨w.heap.size, 2, none⟩) := (G12.out _).1 (PreF.get hp' 12 (by kernel_rfl)).1
                have t174 : au.tmps[174]?.getD undef = u 12 := hsl.out 12 174 (by kernel_rfl)
                rw [h12] at t174
                have hw : w21 = wi.drew := hF ((hu.out 16 (by decide) (.inr (by kernel_rfl))).trans (by kernel_rfl))
                have xc : w21.cell? ⟨w.heap.size, 2, none⟩ = some (.int .i64 D) := by rw [hw]; exact HSi.out.cell 4 rfl 2 rfl
                clear hw
                refine step_plain rfl ?_
                go_simp
                exact hK.out (.int .i64 D) _ (sR_up hF 13 (by omega) _) (sF_val 13 (by omega) ((G13.out _).2 rfl)) (fun j hj hf h => sF_up 13 _ j hj (fun e => by subst e; exact absurd (Eq.trans (Eq.symm (by kernel_rfl)) hf) Bool.false_ne_true) h)
              ·
                intro u w21 au hsl hel hu hF hp' K hK
                have h11 : u 11 = .int .i64 (J pk) := (G11.out _).1 (PreF.get hp' 11 (by kernel_rfl)).1
                have t173 : au.tmps[173]?.getD undef = u 11 := hsl.out 11 173 (by kernel_rfl)
                rw [h11] at t173
                have h13 : u 13 = .int .i64 D := (G13.out _).1 (PreF.get hp' 13 (by kernel_rfl)).1
                have t175 : au.tmps[175]?.getD undef = u 13 := hsl.out 13 175 (by kernel_rfl)
                rw [h13] at t175
                refine step_plain rfl ?_
                go_simp
                exact hK.out (.int .i64 X) _ (sR_up hF 14 (by omega) _) (sF_val 14 (by omega) ((G14.out _).2 rfl)) (fun j hj hf h => sF_up 14 _ j hj (fun e => by subst e; exact absurd (Eq.trans (Eq.symm (by kernel_rfl)) hf) Bool.false_ne_true) h)
              ·
                intro u w21 au hsl hel hu hF hp' K hK
                have h0 : u 0 = .slice (some ⟨bm, 0, none⟩) 9 9 := (G0.out _).1 (PreF.get hp' 0 (by kernel_rfl)).1
                have t162 : au.tmps[162]?.getD undef = u 0 := hsl.out 0 162 (by kernel_rfl)
                rw [h0] at t162
                have h4 : u 4 = .int .i64 (pk : Int) := (G4.out _).1 (PreF.get hp' 4 (by kernel_rfl)).1
                have t166 : au.tmps[166]?.getD undef = u 4 := hsl.out 4 166 (by kernel_rfl)
                rw [h4] at t166
                refine step_plain rfl ?_
                go_simp
                exact hK.out (.pointer (some ⟨bm, pk, none⟩)) _ (sR_up hF 15 (by omega) _) (sF_val 15 (by omega) ((G15.out _).2 rfl)) (fun j hj hf h => sF_up 15 _ j hj (fun e => by subst e; exact absurd (Eq.trans (Eq.symm (by kernel_rfl)) hf) Bool.false_ne_true) h)
              ·
                intro u w21 au hsl hel hu hF hp' K hK
                have h15 : u 15 = .pointer (some ⟨bm, pk, none⟩) := (G15.out _).1 (PreF.get hp' 15 (by kernel_rfl)).1
                have t177 : au.tmps[177]?.getD undef = u 15 := hsl.out 15 177 (by kernel_rfl)
                rw [h15] at t177
                have h14 : u 14 = .int .i64 X := (G14.out _).1 (PreF.get hp' 14 (by kernel_rfl)).1
                have t176 : au.tmps[176]?.getD undef = u 14 := hsl.out 14 176 (by kernel_rfl)
                rw [h14] at t176
                have hw : w21 = wi.drew := hF ((hu.out 16 (by decide) (.inl rfl)).trans (by kernel_rfl))
                have xc : w21.cell? ⟨bm, pk, none⟩ = some (.int .i64 OLD) := by rw [hw]; exact HOC.out
                have xf : w21.frozen? ⟨bm, pk, none⟩ = false := by rw [hw]; exact HOF.out
                have HW21 := hide hw
                clear hw
                refine step_plain rfl ?_
                go_simp
                exact hK.out (.bool true) _ (sR_st (by simp [undef])) (sF_st (G16.out _) (by rw [hPP, HW21.out])) (fun j hj _ h => sF_keep _ j hj h)
            · intro u w30 hF hall
              have hp := (hall 16 (by decide)).2 rfl
              rw [hPP] at hp
              have HE := hide hp
              clear hF hall hp
              simp only [rgPut, Act.put]
              go_simp
              have HL := hide HSN.out
              rw [← HE.out] at HL
              clear HSN HE HOC HOF
              have hkk := HIK.out.2
              go_wp2_with fail
              exact ⟨⟨k + 1, by omega, by simp, HL.out⟩, by simp [intOf] <;> omega⟩
          · have hkk : ¬ (k : Int) < 3 := by omega
            have HSj : Hid (St w [(bt, c3 (hy (ivS J T) (i))), (bm, c9 (hy (ivN D J) (3 * (i + 1)))), (ba, c9 J), (w.heap.size + 1, [.slice none 0 0, .slice none 0 0, .int .i64 0]), (w.heap.size, [.slice (some ⟨b, off, none⟩) 9 c0, .slice (some ⟨b', off', none⟩) 3 c1, .int .i64 D])] [] wi) := by
              have h := HSi.out
              rw [show 3 * i + k = 3 * (i + 1) by omega] at h
              exact h
            clear HSi
            obtain ⟨p0, hp0⟩ : ∃ x : Nat, x = 3 * i := ⟨_, rfl⟩
            have lp0 : (p0 : Int) < 9 := by omega
            obtain ⟨p1, hp1⟩ : ∃ x : Nat, x = 3 * i + 1 := ⟨_, rfl⟩
            have lp1 : (p1 : Int) < 9 := by omega
            obtain ⟨p2, hp2⟩ : ∃ x : Nat, x = 3 * i + 2 := ⟨_, rfl⟩
            have lp2 : (p2 : Int) < 9 := by omega
            have mJp0 : Hid (wi.cell? ⟨ba, p0, none⟩ = some (.int .i64 (J p0))) := HSj.out.cell 2 rfl p0 (c9_at _ (by omega))
            have mJp1 : Hid (wi.cell? ⟨ba, p1, none⟩ = some (.int .i64 (J p1))) := HSj.out.cell 2 rfl p1 (c9_at _ (by omega))
            have mJp2 : Hid (wi.cell? ⟨ba, p2, none⟩ = some (.int .i64 (J p2))) := HSj.out.cell 2 rfl p2 (c9_at _ (by omega))
            have mT0 : Hid (wi.cell? ⟨b', off', none⟩ = some (Value.int .i64 (T 0))) := by obtain ⟨_, _, heq, hz⟩ := (HP1.out.below HSj.out.below).at (show 0 < 3 by omega); cases heq; exact hz
            have mT1 : Hid (wi.cell? ⟨b', off' + 1, none⟩ = some (Value.int .i64 (T 1))) := by obtain ⟨_, _, heq, hz⟩ := (HP1.out.below HSj.out.below).at (show 1 < 3 by omega); cases heq; exact hz
            have mT2 : Hid (wi.cell? ⟨b', off' + 2, none⟩ = some (Value.int .i64 (T 2))) := by obtain ⟨_, _, heq, hz⟩ := (HP1.out.below HSj.out.below).at (show 2 < 3 by omega); cases heq; exact hz
            have e0 : IntKind.i64.wrap (3 * (i : Int)) = (p0 : Int) := by rw [IntKind.wrap_i64]; omega
            have e1 : IntKind.i64.wrap ((p0 : Int) + 1) = (p1 : Int) := by rw [IntKind.wrap_i64]; omega
            have e2 : IntKind.i64.wrap ((p0 : Int) + 2) = (p2 : Int) := by rw [IntKind.wrap_i64]; omega
            have nd0 := mul_b12 (HJ.out p0) (BT.out 0 (by omega))
            obtain ⟨Y0, hY0⟩ : ∃ Y, Y = J p0 * T 0 := ⟨_, rfl⟩
            rw [← hY0] at nd0
            have nd1 := mul_b12 (HJ.out p1) (BT.out 1 (by omega))
            obtain ⟨Y1, hY1⟩ : ∃ Y, Y = J p1 * T 1 := ⟨_, rfl⟩
            rw [← hY1] at nd1
            have nd2 := mul_b12 (HJ.out p2) (BT.out 2 (by omega))
            obtain ⟨Y2, hY2⟩ : ∃ Y, Y = J p2 * T 2 := ⟨_, rfl⟩
            rw [← hY2] at nd2
            obtain ⟨Y3, hY3⟩ : ∃ Y, Y = Y0 + Y1 := ⟨_, rfl⟩
            obtain ⟨Y4, hY4⟩ : ∃ Y, Y = Y3 + Y2 := ⟨_, rfl⟩
            obtain ⟨X, hX⟩ : ∃ Y, Y = -Y4 := ⟨_, rfl⟩
            have v0 : IntKind.i64.wrap (J p0 * T 0) = Y0 := by rw [IntKind.wrap_i64, ← hY0]; omega
            have v1 : IntKind.i64.wrap (J p1 * T 1) = Y1 := by rw [IntKind.wrap_i64, ← hY1]; omega
            have v2 : IntKind.i64.wrap (J p2 * T 2) = Y2 := by rw [IntKind.wrap_i64, ← hY2]; omega
            have v3 : IntKind.i64.wrap (Y0 + Y1) = Y3 := by rw [IntKind.wrap_i64]; omega
            have v4 : IntKind.i64.wrap (Y3 + Y2) = Y4 := by rw [IntKind.wrap_i64]; omega
            have v5 : IntKind.i64.wrap (-Y4) = X := by rw [IntKind.wrap_i64]; omega
            have HX : Hid (X = ivS J T i) := by show _ = _; unfold ivS timF; rw [hX, hY4, hY3, hY0, hY1, hY2, hp0, hp1, hp2]
            have HSN : Hid (St w [(bt, c3 (hy (ivS J T) (i + 1))), (bm, c9 (hy (ivN D J) (3 * (i + 1)))), (ba, c9 J), (w.heap.size + 1, [.slice none 0 0, .slice none 0 0, .int .i64 0]), (w.heap.size, [.slice (some ⟨b, off, none⟩) 9 c0, .slice (some ⟨b', off', none⟩) 3 c1, .int .i64 D])] [] (wi.drew.setCell ⟨bt, i, none⟩ (.int .i64 X))) := by
              have h := St.fill (L1 := []) HSj.out.drew i (.int .i64 X)
              rw [HX.out, c3_hy (ivS J T) (hlt)] at h
              rw [HX.out]
              exact h
            have HOC : Hid (wi.cell? ⟨bt, i, none⟩ = some (.int .i64 (hy (ivS J T) i i))) := HSj.out.cell 0 rfl i (c3_at _ hlt)
            have HOF : Hid (wi.frozen? ⟨bt, i, none⟩ = false) := HSj.out.free 0 rfl i (c3_at _ hlt)
            have HIK : Hid (i < 3) := hlt
            clear hY0 hY1 hY2 hY3 hY4 hX nd0 nd1 nd2 hp0 hp1 hp2 hlt hi hk hkl
            generalize hy (ivS J T) i i = OLD at *
            go_upto_region 14 with fail
            obtain ⟨G, hG⟩ : ∃ G : Nat → Value → Prop, G = (fun j v => match j with | 0 => v = .slice (some ⟨bt, 0, none⟩) 3 3 | 1 => v = .int .i64 (i : Int) | 2 => v = .slice (some ⟨ba, 0, none⟩) 9 9 | 3 => v = .int .i64 (i : Int) | 4 => v = .int .i64 (p0 : Int) | 5 => v = .pointer (some ⟨ba, p0, none⟩) | 6 => v = .int .i64 (J p0) | 7 => v = .pointer (some ⟨w.heap.size, 1, none⟩) | 8 => v = .slice (some ⟨b', off', none⟩) 3 c1 | 9 => v = .pointer (some ⟨b', off', none⟩) | 10 => v = .int .i64 (T 0) | 11 => v = .int .i64 Y0 | 12 => v = .slice (some ⟨ba, 0, none⟩) 9 9 | 13 => v = .int .i64 (i : Int) | 14 => v = .int .i64 (p0 : Int) | 15 => v = .int .i64 (p1 : Int) | 16 => v = .pointer (some ⟨ba, p1, none⟩) | 17 => v = .int .i64 (J p1) | 18 => v = .pointer (some ⟨w.heap.size, 1, none⟩) | 19 => v = .slice (some ⟨b', off', none⟩) 3 c1 | 20 => v = .pointer (some ⟨b', off' + 1, none⟩) | 21 => v = .int .i64 (T 1) | 22 => v = .int .i64 Y1 | 23 => v = .int .i64 Y3 | 24 => v = .slice (some ⟨ba, 0, none⟩) 9 9 | 25 => v = .int .i64 (i : Int) | 26 => v = .int .i64 (p0 : Int) | 27 => v = .int .i64 (p2 : Int) | 28 => v = .pointer (some ⟨ba, p2, none⟩) | 29 => v = .int .i64 (J p2) | 30 => v = .pointer (some ⟨w.heap.size, 1, none⟩) | 31 => v = .slice (some ⟨b', off', none⟩) 3 c1 | 32 => v = .pointer (some ⟨b', off' + 2, none⟩) | 33 => v = .int .i64 (T 2) | 34 => v = .int .i64 Y2 | 35 => v = .int .i64 Y4 | 36 => v = .int .i64 X | 37 => v = .pointer (some ⟨bt, i, none⟩) | _ => True) := ⟨_, rfl⟩
            have G0 : Hid (∀ v, G 0 v ↔ v = .slice (some ⟨bt, 0, none⟩) 3 3) := fun v => by rw [hG]; exact Iff.rfl
            have G1 : Hid (∀ v, G 1 v ↔ v = .int .i64 (i : Int)) := fun v => by rw [hG]; exact Iff.rfl
            have G2 : Hid (∀ v, G 2 v ↔ v = .slice (some ⟨ba, 0, none⟩) 9 9) := fun v => by rw [hG]; exact Iff.rfl
            have G3 : Hid (∀ v, G 3 v ↔ v = .int .i64 (i : Int)) := fun v => by rw [hG]; exact Iff.rfl
            have G4 : Hid (∀ v, G 4 v ↔ v = .int .i64 (p0 : Int)) := fun v => by rw [hG]; exact Iff.rfl
            have G5 : Hid (∀ v, G 5 v ↔ v = .pointer (some ⟨ba, p0, none⟩)) := fun v => by rw [hG]; exact Iff.rfl
            have G6 : Hid (∀ v, G 6 v ↔ v = .int .i64 (J p0)) := fun v => by rw [hG]; exact Iff.rfl
            have G7 : Hid (∀ v, G 7 v ↔ v = .pointer (some ⟨w.heap.size, 1, none⟩)) := fun v => by rw [hG]; exact Iff.rfl
            have G8 : Hid (∀ v, G 8 v ↔ v = .slice (some ⟨b', off', none⟩) 3 c1) := fun v => by rw [hG]; exact Iff.rfl
            have G9 : Hid (∀ v, G 9 v ↔ v = .pointer (some ⟨b', off', none⟩)) := fun v => by rw [hG]; exact Iff.rfl
            have G10 : Hid (∀ v, G 10 v ↔ v = .int .i64 (T 0)) := fun v => by rw [hG]; exact Iff.rfl
            have G11 : Hid (∀ v, G 11 v ↔ v = .int .i64 Y0) := fun v => by rw [hG]; exact Iff.rfl
            have G12 : Hid (∀ v, G 12 v ↔ v = .slice (some ⟨ba, 0, none⟩) 9 9) := fun v => by rw [hG]; exact Iff.rfl
            have G13 : Hid (∀ v, G 13 v ↔ v = .int .i64 (i : Int)) := fun v => by rw [hG]; exact Iff.rfl
            have G14 : Hid (∀ v, G 14 v ↔ v = .int .i64 (p0 : Int)) := fun v => by rw [hG]; exact Iff.rfl
            have G15 : Hid (∀ v, G 15 v ↔ v = .int .i64 (p1 : Int)) := fun v => by rw [hG]; exact Iff.rfl
            have G16 : Hid (∀ v, G 16 v ↔ v = .pointer (some ⟨ba, p1, none⟩)) := fun v => by rw [hG]; exact Iff.rfl
            have G17 : Hid (∀ v, G 17 v ↔ v = .int .i64 (J p1)) := fun v => by rw [hG]; exact Iff.rfl
            have G18 : Hid (∀ v, G 18 v ↔ v = .pointer (some ⟨w.heap.size, 1, none⟩)) := fun v => by rw [hG]; exact Iff.rfl
            have G19 : Hid (∀ v, G 19 v ↔ v = .slice (some ⟨b', off', none⟩) 3 c1) := fun v => by rw [hG]; exact Iff.rfl
            have G20 : Hid (∀ v, G 20 v ↔ v = .pointer (some ⟨b', off' + 1, none⟩)) := fun v => by rw [hG]; exact Iff.rfl
            have G21 : Hid (∀ v, G 21 v ↔ v = .int .i64 (T 1)) := fun v => by rw [hG]; exact Iff.rfl
            have G22 : Hid (∀ v, G 22 v ↔ v = .int .i64 Y1) := fun v => by rw [hG]; exact Iff.rfl
            have G23 : Hid (∀ v, G 23 v ↔ v = .int .i64 Y3) := fun v => by rw [hG]; exact Iff.rfl
            have G24 : Hid (∀ v, G 24 v ↔ v = .slice (some ⟨ba, 0, none⟩) 9 9) := fun v => by rw [hG]; exact Iff.rfl
            have G25 : Hid (∀ v, G 25 v ↔ v = .int .i64 (i : Int)) := fun v => by rw [hG]; exact Iff.rfl
            have G26 : Hid (∀ v, G 26 v ↔ v = .int .i64 (p0 : Int)) := fun v => by rw [hG]; exact Iff.rfl
            have G27 : Hid (∀ v, G 27 v ↔ v = .int .i64 (p2 : Int)) := fun v => by rw [hG]; exact Iff.rfl
            have G28 : Hid (∀ v, G 28 v ↔ v = .pointer (some ⟨ba, p2, none⟩)) := fun v => by rw [hG]; exact Iff.rfl
            have G29 : Hid (∀ v, G 29 v ↔ v = .int .i64 (J p2)) := fun v => by rw [hG]; exact Iff.rfl
            have G30 : Hid (∀ v, G 30 v ↔ v = .pointer (some ⟨w.heap.size, 1, none⟩)) := fun v => by rw [hG]; exact Iff.rfl
            have G31 : Hid (∀ v, G 31 v ↔ v = .slice (some ⟨b', off', none⟩) 3 c1) := fun v => by rw [hG]; exact Iff.rfl
            have G32 : Hid (∀ v, G 32 v ↔ v = .pointer (some ⟨b', off' + 2, none⟩)) := fun v => by rw [hG]; exact Iff.rfl
            have G33 : Hid (∀ v, G 33 v ↔ v = .int .i64 (T 2)) := fun v => by rw [hG]; exact Iff.rfl
            have G34 : Hid (∀ v, G 34 v ↔ v = .int .i64 Y2) := fun v => by rw [hG]; exact Iff.rfl
            have G35 : Hid (∀ v, G 35 v ↔ v = .int .i64 Y4) := fun v => by rw [hG]; exact Iff.rfl
            have G36 : Hid (∀ v, G 36 v ↔ v = .int .i64 X) := fun v => by rw [hG]; exact Iff.rfl
            have G37 : Hid (∀ v, G 37 v ↔ v = .pointer (some ⟨bt, i, none⟩)) := fun v => by rw [hG]; exact Iff.rfl
            have G38 : Hid (∀ v, G 38 v) := fun v => by rw [hG]; trivial
            clear hG
            obtain ⟨PP, hPP⟩ : ∃ P : World → Prop, P = (fun wx => wx = wi.drew.setCell ⟨bt, i, none⟩ (.int .i64 X)) := ⟨_, rfl⟩
            refine region_opsV (sR 38 wi) (sF 38 G PP) (by kernel_rfl) (by kernel_rfl) (by kernel_rfl) (by kernel_rfl) (fun _ => rfl) ?_ ?_
            · refine ⟨?_, ?_, ?_, ?_, ?_, ?_, ?_, ?_, ?_, ?_, ?_, ?_, ?_, ?_, ?_, ?_, ?_, ?_, ?_, ?_, ?_, ?_, ?_, ?_, ?_, ?_, ?_, ?_, ?_, ?_, ?_, ?_, ?_, ?_, ?_, ?_, ?_, ?_, ?_, trivial⟩
              ·
                intro u w21 au hsl hel hu hF hp' K hK
                have t7 : au.tmps[7]?.getD undef = .slice (some ⟨bt, 0, none⟩) 3 3 := (hel.out 7 (by kernel_rfl)).trans (by kernel_rfl)
                refine step_plain rfl ?_
                go_simp
                exact hK.out (.slice (some ⟨bt, 0, none⟩) 3 3) _ (sR_up hF 0 (by omega) _) (sF_val 0 (by omega) ((G0.out _).2 rfl)) (fun j hj hf h => sF_up 0 _ j hj (fun e => by subst e; exact absurd (Eq.trans (Eq.symm (by kernel_rfl)) hf) Bool.false_ne_true) h)
              ·
                intro u w21 au hsl hel hu hF hp' K hK
                have t8 : au.tmps[8]?.getD undef = .int .i64 (i : Int) := (hel.out 8 (by kernel_rfl)).trans (by kernel_rfl)
                refine step_plain rfl ?_
                go_simp
                exact hK.out (.int .i64 (i : Int)) _ (sR_up hF 1 (by omega) _) (sF_val 1 (by omega) ((G1.out _).2 rfl)) (fun j hj hf h => sF_up 1 _ j hj (fun e => by subst e; exact absurd (Eq.trans (Eq.symm (by kernel_rfl)) hf) Bool.false_ne_true) h)
              ·
                intro u w21 au hsl hel hu hF hp' K hK
                have t5 : au.tmps[5]?.getD undef = .slice (some ⟨ba, 0, none⟩) 9 9 := (hel.out 5 (by kernel_rfl)).trans (by kernel_rfl)
                refine step_plain rfl ?_
                go_simp
                exact hK.out (.slice (some ⟨ba, 0, none⟩) 9 9) _ (sR_up hF 2 (by omega) _) (sF_val 2 (by omega) ((G2.out _).2 rfl)) (fun j hj hf h => sF_up 2 _ j hj (fun e => by subst e; exact absurd (Eq.trans (Eq.symm (by kernel_rfl)) hf) Bool.false_ne_true) h)
              ·
                intro u w21 au hsl hel hu hF hp' K hK
                have t8 : au.tmps[8]?.getD undef = .int .i64 (i : Int) := (hel.out 8 (by kernel_rfl)).trans (by kernel_rfl)
                refine step_plain rfl ?_
                go_simp
                exact hK.out (.int .i64 (i : Int)) _ (sR_up hF 3 (by omega) _) (sF_val 3 (by omega) ((G3.out _).2 rfl)) (fun j hj hf h => sF_up 3 _ j hj (fun e => by subst e; exact absurd (Eq.trans (Eq.symm (by kernel_rfl)) hf) Bool.false_ne_true) h)
              ·
                intro u w21 au hsl hel hu hF hp' K hK
                have h3 : u 3 = .int .i64 (i : Int) := (G3.out _).1 (PreF.get hp' 3 (by kernel_rfl)).1
                have t181 : au.tmps[181]?.getD undef = u 3 := hsl.out 3 181 (by kernel_rfl)
                rw [h3] at t181
                refine step_plain rfl ?_
                go_simp
                exact hK.out (.int .i64 (p0 : Int)) _ (sR_up hF 4 (by omega) _) (sF_val 4 (by omega) ((G4.out _).2 rfl)) (fun j hj hf h => sF_up 4 _ j hj (fun e => by subst e; exact absurd (Eq.trans (Eq.symm (by kernel_rfl)) hf) Bool.false_ne_true) h)
              ·
                intro u w21 au hsl hel hu hF hp' K hK
                have h2 : u 2 = .slice (some ⟨ba, 0, none⟩) 9 9 := (G2.out _).1 (PreF.get hp' 2 (by kernel_rfl)).1
                have t180 : au.tmps[180]?.getD undef = u 2 := hsl.out 2 180 (by kernel_rfl)
                rw [h2] at t180
                have h4 : u 4 = .int .i64 (p0 : Int) := (G4.out _).1 (PreF.get hp' 4 (by kernel_rfl)).1
                have t182 : au.tmps[182]?.getD undef = u 4 := hsl.out 4 182 (by kernel_rfl)
                rw [h4] at t182
                refine step_plain rfl ?_
                go_simp
                exact hK.out (.pointer (some ⟨ba, p0, none⟩)) _ (sR_up hF 5 (by omega) _) (sF_val 5 (by omega) ((G5.out _).2 rfl)) (fun j hj hf h => sF_up 5 _ j hj (fun e => by subst e; exact absurd (Eq.trans (Eq.symm (by kernel_rfl)) hf) Bool.false_ne_true) h)
              ·
                intro u w21 au hsl hel hu hF hp' K hK
                have h5 : u 5 = .pointer (some ⟨ba, p0, none⟩) := (G5.out _).1 (PreF.get hp' 5 (by kernel_rfl)).1
                have t183 : au.tmps[183]?.getD undef = u 5 := hsl.out 5 183 (by kernel_rfl)
                rw [h5] at t183
                have hw : w21 = wi.drew := hF ((hu.out 38 (by decide) (.inr (by kernel_rfl))).trans (by kernel_rfl))
                have xc : w21.cell? ⟨ba, p0, none⟩ = some (.int .i64 (J p0)) := by rw [hw]; exact mJp0.out
                clear hw
                refine step_plain rfl ?_
                go_simp
                exact hK.out (.int .i64 (J p0)) _ (sR_up hF 6 (by omega) _) (sF_val 6 (by omega) ((G6.out _).2 rfl)) (fun j hj hf h => sF_up 6 _ j hj (fun e => by subst e; exact absurd (Eq.trans (Eq.symm (by kernel_rfl)) hf) Bool.false_ne_true) h)
              ·
                intro u w21 au hsl hel hu hF hp' K hK
                have t1 : au.tmps[1]?.getD undef = .pointer (some ⟨w.heap.size, 0, none⟩) := (hel.out 1 (by kernel_rfl)).trans (by kernel_rfl)
                refine step_plain rfl ?_
                go_simp
                exact hK.out (.pointer (some ⟨w.heap.size, 1, none⟩)) _ (sR_up hF 7 (by omega) _) (sF_val 7 (by omega) ((G7.out _).2 rfl)) (fun j hj hf h => sF_up 7 _ j hj (fun e => by subst e; exact absurd (Eq.trans (Eq.symm (by kernel_rfl)) hf) Bool.false_ne_true) h)
              ·
                intro u w21 au hsl hel hu hF hp' K hK
                have h7 : u 7 = .pointer (some ⟨w.heap.size, 1, none⟩) := (G7.out _).1 (PreF.get hp' 7 (by kernel_rfl)).1
                have t185 : au.tmps[185]?.getD undef = u 7 := hsl.out 7 185 (by kernel_rfl)
                rw [h7] at t185
                have hw : w21 = wi.drew := hF ((hu.out 38 (by decide) (.inr (by kernel_rfl))).trans (by kernel_rfl))
                have xc : w21.cell? ⟨w.heap.size, 1, none⟩ = some (.slice (some ⟨b', off', none⟩) 3 c1) := by rw [hw]; exact HSj.out.cell 4 rfl 1 rfl
                clear hw
                refine step_plain rfl ?_
                go_simp
                exact hK.out (.slice (some ⟨b', off', none⟩) 3 c1) _ (sR_up hF 8 (by omega) _) (sF_val 8 (by omega) ((G8.out _).2 rfl)) (fun j hj hf h => sF_up 8 _ j hj (fun e => by subst e; exact absurd (Eq.trans (Eq.symm (by kernel_rfl)) hf) Bool.false_ne_true) h)
              ·
                intro u w21 au hsl hel hu hF hp' K hK
                have h8 : u 8 = .slice (some ⟨b', off', none⟩) 3 c1 := (G8.out _).1 (PreF.get hp' 8 (by kernel_rfl)).1
                have t186 : au.tmps[186]?.getD undef = u 8 := hsl.out 8 186 (by kernel_rfl)
                rw [h8] at t186
                refine step_plain rfl ?_
                go_simp
                exact hK.out (.pointer (some ⟨b', off', none⟩)) _ (sR_up hF 9 (by omega) _) (sF_val 9 (by omega) ((G9.out _).2 rfl)) (fun j hj hf h => sF_up 9 _ j hj (fun e => by subst e; exact absurd (Eq.trans (Eq.symm (by kernel_rfl)) hf) Bool.false_ne_true) h)
              ·
                intro u w21 au hsl hel hu hF hp' K hK
                have h9 : u 9 = .pointer (some ⟨b', off', none⟩) := (G9.out _).1 (PreF.get hp' 9 (by kernel_rfl)).1
                have t187 : au.tmps[187]?.getD undef = u 9 := hsl.out 9 187 (by kernel_rfl)
                rw [h9] at t187
                have hw : w21 = wi.drew := hF ((hu.out 38 (by decide) (.inr (by kernel_rfl))).trans (by kernel_rfl))
                have xc : w21.cell? ⟨b', off', none⟩ = some (.int .i64 (T 0)) := by rw [hw]; exact mT0.out
                clear hw
                refine step_plain rfl ?_
                go_simp
                exact hK.out (.int .i64 (T 0)) _ (sR_up hF 10 (by omega) _) (sF_val 10 (by omega) ((G10.out _).2 rfl)) (fun j hj hf h => sF_up 10 _ j hj (fun e => by subst e; exact absurd (Eq.trans (Eq.symm (by kernel_rfl)) hf) Bool.false_ne_true) h)
              ·
                intro u w21 au hsl hel hu hF hp' K hK
                have h6 : u 6 = .int .i64 (J p0) := (G6.out _).1 (PreF.get hp' 6 (by kernel_rfl)).1
                have t184 : au.tmps[184]?.getD undef = u 6 := hsl.out 6 184 (by kernel_rfl)
                rw [h6] at t184
                have h10 : u 10 = .int .i64 (T 0) := (G10.out _).1 (PreF.get hp' 10 (by kernel_rfl)).1
                have t188 : au.tmps[188]?.getD undef = u 10 := hsl.out 10 188 (by kernel_rfl)
                rw [h10] at t188
                refine step_plain rfl ?_
                go_simp
                exact hK.out (.int .i64 Y0) _ (sR_up hF 11 (by omega) _) (sF_val 11 (by omega) ((G11.out _).2 rfl)) (fun j hj hf h => sF_up 11 _ j hj (fun e => by subst e; exact absurd (Eq.trans (Eq.symm (by kernel_rfl)) hf) Bool.false_ne_true) h)
              ·
                intro u w21 au hsl hel hu hF hp' K hK
                have t5 : au.tmps[5]?.getD undef = .slice (some ⟨ba, 0, none⟩) 9 9 := (hel.out 5 (by kernel_rfl)).trans (by kernel_rfl)
                refine step_plain rfl ?_
                go_simp
                exact hK.out (.slice (some ⟨ba, 0, none⟩) 9 9) _ (sR_up hF 12 (by omega) _) (sF_val 12 (by omega) ((G12.out _).2 rfl)) (fun j hj hf h => sF_up 12 _ j hj (fun e => by subst e; exact absurd (Eq.trans (Eq.symm (by kernel_rfl)) hf) Bool.false_ne_true) h)
              ·
                intro u w21 au hsl hel hu hF hp' K hK
                have t8 : au.tmps[8]?.getD undef = .int .i64 (i : Int) := (hel.out 8 (by kernel_rfl)).trans (by kernel_rfl)
                refine step_plain rfl ?_
                go_simp
                exact hK.out (.int .i64 (i : Int)) _ (sR_up hF 13 (by omega) _) (sF_val 13 (by omega) ((G13.out _).2 rfl)) (fun j hj hf h => sF_up 13 _ j hj (fun e => by subst e; exact absurd (Eq.trans (Eq.symm (by kernel_rfl)) hf) Bool.false_ne_true) h)
              ·
                intro u w21 au hsl hel hu hF hp' K hK
                have h13 : u 13 = .int .i64 (i : Int) := (G13.out _).1 (PreF.get hp' 13 (by kernel_rfl)).1
                have t191 : au.tmps[191]?.getD undef = u 13 := hsl.out 13 191 (by kernel_rfl)
                rw [h13] at t191
                refine step_plain rfl ?_
                go_simp
                exact hK.out (.int .i64 (p0 : Int)) _ (sR_up hF 14 (by omega) _) (sF_val 14 (by omega) ((G14.out _).2 rfl)) (fun j hj hf h => sF_up 14 _ j hj (fun e => by subst e; exact absurd (Eq.trans (Eq.symm (by kernel_rfl)) hf) Bool.false_ne_true) h)
              ·
                intro u w21 au hsl hel hu hF hp' K hK
                have h14 : u 14 = .int .i64 (p0 : Int) := (G14.out _).1 (PreF.get hp' 14 (by kernel_rfl)).1
                have t192 : au.tmps[192]?.getD undef = u 14 := hsl.out 14 192 (by kernel_rfl)
                rw [h14] at t192
                refine step_plain rfl ?_
                go_simp
                exact hK.out (.int .i64 (p1 : Int)) _ (sR_up hF 15 (by omega) _) (sF_val 15 (by omega) ((G15.out _).2 rfl)) (fun j hj hf h => sF_up 15 _ j hj (fun e => by subst e; exact absurd (Eq.trans (Eq.symm (by kernel_rfl)) hf) Bool.false_ne_true) h)
              ·
                intro u w21 au hsl hel hu hF hp' K hK
                have h12 : u 12 = .slice (some ⟨ba, 0, none⟩) 9 9 := (G12.out _).1 (PreF.get hp' 12 (by kernel_rfl)).1
                have t190 : au.tmps[190]?.getD undef = u 12 := hsl.out 12 190 (by kernel_rfl)
                rw [h12] at t190
                have h15 : u 15 = .int .i64 (p1 : Int) := (G15.out _).1 (PreF.get hp' 15 (by kernel_rfl)).1
                have t193 : au.tmps[193]?.getD undef = u 15 := hsl.out 15 193 (by kernel_rfl)
                rw [h15] at t193
                refine step_plain rfl ?_
                go_simp
                exact hK.out (.pointer (some ⟨ba, p1, none⟩)) _ (sR_up hF 16 (by omega) _) (sF_val 16 (by omega) ((G16.out _).2 rfl)) (fun j hj hf h => sF_up 16 _ j hj (fun e => by subst e; exact absurd (Eq.trans (Eq.symm (by kernel_rfl)) hf) Bool.false_ne_true) h)
              ·
                intro u w21 au hsl hel hu hF hp' K hK
                have h16 : u 16 = .pointer (some ⟨ba, p1, none⟩) := (G16.out _).1 (PreF.get hp' 16 (by kernel_rfl)).1
                have t194 : au.tmps[194]?.getD undef = u 16 := hsl.out 16 194 (by kernel_rfl)
                rw [h16] at t194
                have hw : w21 = wi.drew := hF ((hu.out 38 (by decide) (.inr (by kernel_rfl))).trans (by kernel_rfl))
                have xc : w21.cell? ⟨ba, p1, none⟩ = some (.int .i64 (J p1)) := by rw [hw]; exact mJp1.out
                clear hw
                refine step_plain rfl ?_
                go_simp
                exact hK.out (.int .i64 (J p1)) _ (sR_up hF 17 (by omega) _) (sF_val 17 (by omega) ((G17.out _).2 rfl)) (fun j hj hf h => sF_up 17 _ j hj (fun e => by subst e; exact absurd (Eq.trans (Eq.symm (by kernel_rfl)) hf) Bool.false_ne_true) h)
              ·
                intro u w21 au hsl hel hu hF hp' K hK
                have t1 : au.tmps[1]?.getD undef = .pointer (some ⟨w.heap.size, 0, none⟩) := (hel.out 1 (by kernel_rfl)).trans (by kernel_rfl)
                refine step_plain rfl ?_
                go_simp
                exact hK.out (.pointer (some ⟨w.heap.size, 1, none⟩)) _ (sR_up hF 18 (by omega) _) (sF_val 18 (by omega) ((G18.out _).2 rfl)) (fun j hj hf h => sF_up 18 _ j hj (fun e => by subst e; exact absurd (Eq.trans (Eq.symm (by kernel_rfl)) hf) Bool.false_ne_true) h)
              ·
                intro u w21 au hsl hel hu hF hp' K hK
                have h18 : u 18 = .pointer (some ⟨w.heap.size, 1, none⟩) := (G18.out _).1 (PreF.get hp' 18 (by kernel_rfl)).1
                have t196 : au.tmps[196]?.getD undef = u 18 := hsl.out 18 196 (by kernel_rfl)
                rw [h18] at t196
                have hw : w21 = wi.drew := hF ((hu.out 38 (by decide) (.inr (by kernel_rfl))).trans (by kernel_rfl))
                have xc : w21.cell? ⟨w.heap.size, 1, none⟩ = some (.slice (some ⟨b', off', none⟩) 3 c1) := by rw [hw]; exact HSj.out.cell 4 rfl 1 rfl
                clear hw
                refine step_plain rfl ?_
                go_simp
                exact hK.out (.slice (some ⟨b', off', none⟩) 3 c1) _ (sR_up hF 19 (by omega) _) (sF_val 19 (by omega) ((G19.out _).2 rfl)) (fun j hj hf h => sF_up 19 _ j hj (fun e => by subst e; exact absurd (Eq.trans (Eq.symm (by kernel_rfl)) hf) Bool.false_ne_true) h)
              ·
                intro u w21 au hsl hel hu hF hp' K hK
                have h19 : u 19 = .slice (some ⟨b', off', none⟩) 3 c1 := (G19.out _).1 (PreF.get hp' 19 (by kernel_rfl)).1
                have t197 : au.tmps[197]?.getD undef = u 19 := hsl.out 19 197 (by kernel_rfl)
                rw [h19] at t197
                refine step_plain rfl ?_
                go_simp
                exact hK.out (.pointer (some ⟨b', off' + 1, none⟩)) _ (sR_up hF 20 (by omega) _) (sF_val 20 (by omega) ((G20.out _).2 rfl)) (fun j hj hf h => sF_up 20 _ j hj (fun e => by subst e; exact absurd (Eq.trans (Eq.symm (by kernel_rfl)) hf) Bool.false_ne_true) h)
              ·
                intro u w21 au hsl hel hu hF hp' K hK
                have h20 : u 20 = .pointer (some ⟨b', off' + 1, none⟩) := (G20.out _).1 (PreF.get hp' 20 (by kernel_rfl)).1
                have t198 : au.tmps[198]?.getD undef = u 20 := hsl.out 20 198 (by kernel_rfl)
                rw [h20] at t198
                have hw : w21 = wi.drew := hF ((hu.out 38 (by decide) (.inr (by kernel_rfl))).trans (by kernel_rfl))
                have xc : w21.cell? ⟨b', off' + 1, none⟩ = some (.int .i64 (T 1)) := by rw [hw]; exact mT1.out
                clear hw
                refine step_plain rfl ?_
                go_simp
                exact hK.out (.int .i64 (T 1)) _ (sR_up hF 21 (by omega) _) (sF_val 21 (by omega) ((G21.out _).2 rfl)) (fun j hj hf h => sF_up 21 _ j hj (fun e => by subst e; exact absurd (Eq.trans (Eq.symm (by kernel_rfl)) hf) Bool.false_ne_true) h)
              ·
                intro u w21 au hsl hel hu hF hp' K hK
                have h17 : u 17 = .int .i64 (J p1) := (G17.out _).1 (PreF.get hp' 17 (by kernel_rfl)).1
                have t195 : au.tmps[195]?.getD undef = u 17 := hsl.out 17 195 (by kernel_rfl)
                rw [h17] at t195
                have h21 : u 21 = .int .i64 (T 1) := (G21.out _).1 (PreF.get hp' 21 (by kernel_rfl)).1
                have t199 : au.tmps[199]?.getD undef = u 21 := hsl.out 21 199 (by kernel_rfl)
                rw [h21] at t199
                refine step_plain rfl ?_
                go_simp
                exact hK.out (.int .i64 Y1) _ (sR_up hF 22 (by omega) _) (sF_val 22 (by omega) ((G22.out _).2 rfl)) (fun j hj hf h => sF_up 22 _ j hj (fun e => by subst e; exact absurd (Eq.trans (Eq.symm (by kernel_rfl)) hf) Bool.false_ne_true) h)
              ·
                intro u w21 au hsl hel hu hF hp' K hK
                have h11 : u 11 = .int .i64 Y0 := (G11.out _).1 (PreF.get hp' 11 (by kernel_rfl)).1
                have t189 : au.tmps[189]?.getD undef = u 11 := hsl.out 11 189 (by kernel_rfl)
                rw [h11] at t189
                have h22 : u 22 = .int .i64 Y1 := (G22.out _).1 (PreF.get hp' 22 (by kernel_rfl)).1
                have t200 : au.tmps[200]?.getD undef = u 22 := hsl.out 22 200 (by kernel_rfl)
                rw [h22] at t200
                refine step_plain rfl ?_
                go_simp
                exact hK.out (.int .i64 Y3) _ (sR_up hF 23 (by omega) _) (sF_val 23 (by omega) ((G23.out _).2 rfl)) (fun j hj hf h => sF_up 23 _ j hj (fun e => by subst e; exact absurd (Eq.trans (Eq.symm (by kernel_rfl)) hf) Bool.false_ne_true) h)
              ·
                intro u w21 au hsl hel hu hF hp' K hK
                have t5 : au.tmps[5]?.getD undef = .slice (some ⟨ba, 0, none⟩) 9 9 := (hel.out 5 (by kernel_rfl)).trans (by kernel_rfl)
                refine step_plain rfl ?_
                go_simp
                exact hK.out (.slice (some ⟨ba, 0, none⟩) 9 9) _ (sR_up hF 24 (by omega) _) (sF_val 24 (by omega) ((G24.out _).2 rfl)) (fun j hj hf h => sF_up 24 _ j hj (fun e => by subst e; exact absurd (Eq.trans (Eq.symm (by kernel_rfl)) hf) Bool.false_ne_true) h)
              ·
                intro u w21 au hsl hel hu hF hp' K hK
                have t8 : au.tmps[8]?.getD undef = .int .i64 (i : Int) := (hel.out 8 (by kernel_rfl)).trans (by kernel_rfl)
                refine step_plain rfl ?_
                go_simp
                exact hK.out (.int .i64 (i : Int)) _ (sR_up hF 25 (by omega) _) (sF_val 25 (by omega) ((G25.out _).2 rfl)) (fun j hj hf h => sF_up 25 _ j hj (fun e => by subst e; exact absurd (Eq.trans (Eq.symm (by kernel_rfl)) hf) Bool.false_ne_true) h)
              ·
                intro u w21 au hsl hel hu hF hp' K hK
                have h25 : u 25 = .int .i64 (i : Int) := (G25.out _).1 (PreF.get hp' 25 (by kernel_rfl)).1
                have t203 : au.tmps[203]?.getD undef = u 25 := hsl.out 25 203 (by kernel_rfl)
                rw [h25] at t203
                refine step_plain rfl ?_
                go_simp
                exact hK.out (.int .i64 (p0 : Int)) _ (sR_up hF 26 (by omega) _) (sF_val 26 (by omega) ((G26.out _).2 rfl)) (fun j hj hf h => sF_up 26 _ j hj (fun e => by subst e; exact absurd (Eq.trans (Eq.symm (by kernel_rfl)) hf) Bool.false_ne_true) h)
              ·
                intro u w21 au hsl hel hu hF hp' K hK
                have h26 : u 26 = .int .i64 (p0 : Int) := (G26.out _).1 (PreF.get hp' 26 (by kernel_rfl)).1
                have t204 : au.tmps[204]?.getD undef = u 26 := hsl.out 26 204 (by kernel_rfl)
                rw [h26] at t204
                refine step_plain rfl ?_
                go_simp
                exact hK.out (.int .i64 (p2 : Int)) _ (sR_up hF 27 (by omega) _) (sF_val 27 (by omega) ((G27.out _).2 rfl)) (fun j hj hf h => sF_up 27 _ j hj (fun e => by subst e; exact absurd (Eq.trans (Eq.symm (by kernel_rfl)) hf) Bool.false_ne_true) h)
              ·
                intro u w21 au hsl hel hu hF hp' K hK
                have h24 : u 24 = .slice (some ⟨ba, 0, none⟩) 9 9 := (G24.out _).1 (PreF.get hp' 24 (by kernel_rfl)).1
                have t202 : au.tmps[202]?.getD undef = u 24 := hsl.out 24 202 (by kernel_rfl)
                rw [h24] at t202
                have h27 : u 27 = .int .i64 (p2 : Int) := (G27.out _).1 (PreF.get hp' 27 (by kernel_rfl)).1
                have t205 : au.tmps[205]?.getD undef = u 27 := hsl.out 27 205 (by kernel_rfl)
                rw [h27] at t205
                refine step_plain rfl ?_
                go_simp
                exact hK.out (.pointer (some ⟨ba, p2, none⟩)) _ (sR_up hF 28 (by omega) _) (sF_val 28 (by omega) ((G28.out _).2 rfl)) (fun j hj hf h => sF_up 28 _ j hj (fun e => by subst e; exact absurd (Eq.trans (Eq.symm (by kernel_rfl)) hf) Bool.false_ne_true) h)
              ·
                intro u w21 au hsl hel hu hF hp' K hK
                have h28 : u 28 = .pointer (some ⟨ba, p2, none⟩) := (G28.out _).1 (PreF.get hp' 28 (by kernel_rfl)).1
                have t206 : au.tmps[206]?.getD undef = u 28 := hsl.out 28 206 (by kernel_rfl)
                rw [h28] at t206
                have hw : w21 = wi.drew := hF ((hu.out 38 (by decide) (.inr (by kernel_rfl))).trans (by kernel_rfl))
                have xc : w21.cell? ⟨ba, p2, none⟩ = some (.int .i64 (J p2)) := by rw [hw]; exact mJp2.out
                clear hw
                refine step_plain rfl ?_
                go_simp
                exact hK.out (.int .i64 (J p2)) _ (sR_up hF 29 (by omega) _) (sF_val 29 (by omega) ((G29.out _).2 rfl)) (fun j hj hf h => sF_up 29 _ j hj (fun e => by subst e; exact absurd (Eq.trans (Eq.symm (by kernel_rfl)) hf) Bool.false_ne_true) h)
              ·
                intro u w21 au hsl hel hu hF hp' K hK
                have t1 : au.tmps[1]?.getD undef = .pointer (some ⟨w.heap.size, 0, none⟩) := (hel.out 1 (by kernel_rfl)).trans (by kernel_rfl)
                refine step_plain rfl ?_
                go_simp
                exact hK.out (.pointer (some ⟨w.heap.size, 1, none⟩)) _ (sR_up hF 30 (by omega) _) (sF_val 30 (by omega) ((G30.out _).2 rfl)) (fun j hj hf h => sF_up 30 _ j hj (fun e => by subst e; exact absurd (Eq.trans (Eq.symm (by kernel_rfl)) hf) Bool.false_ne_true) h)
              ·
                intro u w21 au hsl hel hu hF hp' K hK
                have h30 : u 30 = .pointer (some ⟨w.heap.size, 1, none⟩) := (G30.out _).1 (PreF.get hp' 30 (by kernel_rfl)).1
                have t208 : au.tmps[208]?.getD undef = u 30 := hsl.out 30 208 (by kernel_rfl)
                rw [h30] at t208
                have hw : w21 = wi.drew := hF ((hu.out 38 (by decide) (.inr (by kernel_rfl))).trans (by kernel_rfl))
                have xc : w21.cell? ⟨w.heap.size, 1, none⟩ = some (.slice (some ⟨b', off', none⟩) 3 c1) := by rw [hw]; exact HSj.out.cell 4 rfl 1 rfl
                clear hw
                refine step_plain rfl ?_
                go_simp
                exact hK.out (.slice (some ⟨b', off', none⟩) 3 c1) _ (sR_up hF 31 (by omega) _) (sF_val 31 (by omega) ((G31.out _).2 rfl)) (fun j hj hf h => sF_up 31 _ j hj (fun e => by subst e; exact absurd (Eq.trans (Eq.symm (by kernel_rfl)) hf) Bool.false_ne_true) h)
              ·
                intro u w21 au hsl hel hu hF hp' K hK
                have h31 : u 31 = .slice (some ⟨b', off', none⟩) 3 c1 := (G31.out _).1 (PreF.get hp' 31 (by kernel_rfl)).1
                have t209 : au.tmps[209]?.getD undef = u 31 := hsl.out 31 209 (by kernel_rfl)
                rw [h31] at t209
                refine step_plain rfl ?_
                go_simp
                exact hK.out (.pointer (some ⟨b', off' + 2, none⟩)) _ (sR_up hF 32 (by omega) _) (sF_val 32 (by omega) ((G32.out _).2 rfl)) (fun j hj hf h => sF_up 32 _ j hj (fun e => by subst e; exact absurd (Eq.trans (Eq.symm (by kernel_rfl)) hf) Bool.false_ne_true) h)
              ·
                intro u w21 au hsl hel hu hF hp' K hK
                have h32 : u 32 = .pointer (some ⟨b', off' + 2, none⟩) := (G32.out _).1 (PreF.get hp' 32 (by kernel_rfl)).1
                have t210 : au.tmps[210]?.getD undef = u 32 := hsl.out 32 210 (by kernel_rfl)
                rw [h32] at t210
                have hw : w21 = wi.drew := hF ((hu.out 38 (by decide) (.inr (by kernel_rfl))).trans (by kernel_rfl))
                have xc : w21.cell? ⟨b', off' + 2, none⟩ = some (.int .i64 (T 2)) := by rw [hw]; exact mT2.out
                clear hw
                refine step_plain rfl ?_
                go_simp
                exact hK.out (.int .i64 (T 2)) _ (sR_up hF 33 (by omega) _) (sF_val 33 (by omega) ((G33.out _).2 rfl)) (fun j hj hf h => sF_up 33 _ j hj (fun e => by subst e; exact absurd (Eq.trans (Eq.symm (by kernel_rfl)) hf) Bool.false_ne_true) h)
              ·
                intro u w21 au hsl hel hu hF hp' K hK
                have h29 : u 29 = .int .i64 (J p2) := (G29.out _).1 (PreF.get hp' 29 (by kernel_rfl)).1
                have t207 : au.tmps[207]?.getD undef = u 29 := hsl.out 29 207 (by kernel_rfl)
                rw [h29] at t207
                have h33 : u 33 = .int .i64 (T 2) := (G33.out _).1 (PreF.get hp' 33 (by kernel_rfl)).1
                have t211 : au.tmps[211]?.getD undef = u 33 := hsl.out 33 211 (by kernel_rfl)
                rw [h33] at t211
                refine step_plain rfl ?_
                go_simp
                exact hK.out (.int .i64 Y2) _ (sR_up hF 34 (by omega) _) (sF_val 34 (by omega) ((G34.out _).2 rfl)) (fun j hj hf h => sF_up 34 _ j hj (fun e => by subst e; exact absurd (Eq.trans (Eq.symm (by kernel_rfl)) hf) Bool.false_ne_true) h)
              ·
                intro u w21 au hsl hel hu hF hp' K hK
                have h23 : u 23 = .int .i64 Y3 := (G23.out _).1 (PreF.get hp' 23 (by kernel_rfl)).1
                have t201 : au.tmps[201]?.getD undef = u 23 := hsl.out 23 201 (by kernel_rfl)
                rw [h23] at t201
                have h34 : u 34 = .int .i64 Y2 := (G34.out _).1 (PreF.get hp' 34 (by kernel_rfl)).1
                have t212 : au.tmps[212]?.getD undef = u 34 := hsl.out 34 212 (by kernel_rfl)
                rw [h34] at t212
                refine step_plain rfl ?_
                go_simp
                exact hK.out (.int .i64 Y4) _ (sR_up hF 35 (by omega) _) (sF_val 35 (by omega) ((G35.out _).2 rfl)) (fun j hj hf h => sF_up 35 _ j hj (fun e => by subst e; exact absurd (Eq.trans (Eq.symm (by kernel_rfl)) hf) Bool.false_ne_true) h)
              ·
                intro u w21 au hsl hel hu hF hp' K hK
                have h35 : u 35 = .int .i64 Y4 := (G35.out _).1 (PreF.get hp' 35 (by kernel_rfl)).1
                have t213 : au.tmps[213]?.getD undef = u 35 := hsl.out 35 213 (by kernel_rfl)
                rw [h35] at t213
                refine step_plain rfl ?_
                go_simp
                exact hK.out (.int .i64 X) _ (sR_up hF 36 (by omega) _) (sF_val 36 (by omega) ((G36.out _).2 rfl)) (fun j hj hf h => sF_up 36 _ j hj (fun e => by subst e; exact absurd (Eq.trans (Eq.symm (by kernel_rfl)) hf) Bool.false_ne_true) h)
              ·
                intro u w21 au hsl hel hu hF hp' K hK
                have h0 : u 0 = .slice (some ⟨bt, 0, none⟩) 3 3 := (G0.out _).1 (PreF.get hp' 0 (by kernel_rfl)).1
                have t178 : au.tmps[178]?.getD undef = u 0 := hsl.out 0 178 (by kernel_rfl)
                rw [h0] at t178
                have h1 : u 1 = .int .i64 (i : Int) := (G1.out _).1 (PreF.get hp' 1 (by kernel_rfl)).1
                have t179 : au.tmps[179]?.getD undef = u 1 := hsl.out 1 179 (by kernel_rfl)
                rw [h1] at t179
                refine step_plain rfl ?_
                go_simp
                exact hK.out (.pointer (some ⟨bt, i, none⟩)) _ (sR_up hF 37 (by omega) _) (sF_val 37 (by omega) ((G37.out _).2 rfl)) (fun j hj hf h => sF_up 37 _ j hj (fun e => by subst e; exact absurd (Eq.trans (Eq.symm (by kernel_rfl)) hf) Bool.false_ne_true) h)
              ·
                intro u w21 au hsl hel hu hF hp' K hK
                have h37 : u 37 = .pointer (some ⟨bt, i, none⟩) := (G37.out _).1 (PreF.get hp' 37 (by kernel_rfl)).1
                have t215 : au.tmps[215]?.getD undef = u 37 := hsl.out 37 215 (by kernel_rfl)
                rw [h37] at t215
                have h36 : u 36 = .int .i64 X := (G36.out _).1 (PreF.get hp' 36 (by kernel_rfl)).1
                have t214 : au.tmps[214]?.getD undef = u 36 := hsl.out 36 214 (by kernel_rfl)
                rw [h36] at t214
                have hw : w21 = wi.drew := hF ((hu.out 38 (by decide) (.inl rfl)).trans (by kernel_rfl))
                have xc : w21.cell? ⟨bt, i, none⟩ = some (.int .i64 OLD) := by rw [hw]; exact HOC.out
                have xf : w21.frozen? ⟨bt, i, none⟩ = false := by rw [hw]; exact HOF.out
                have HW21 := hide hw
                clear hw
                refine step_plain rfl ?_
                go_simp
                exact hK.out (.bool true) _ (sR_st (by simp [undef])) (sF_st (G38.out _) (by rw [hPP, HW21.out])) (fun j hj _ h => sF_keep _ j hj h)
            · intro u w30 hF hall
              have hp := (hall 38 (by decide)).2 rfl
              rw [hPP] at hp
              have HE := hide hp
              clear hF hall hp
              simp only [rgPut, Act.put]
              go_simp
              have HL := hide HSN.out
              rw [← HE.out] at HL
              clear HSN HE HOC HOF
              have hlt := HIK.out
              go_wp2_with fail
              exact ⟨⟨i + 1, by omega, by simp, HL.out⟩, by simp [intOf] <;> omega⟩
      · have hii : ¬ (i : Int) < 3 := by omega
        have HSj : Hid (St w [(bt, c3 (hy (ivS J T) (3))), (bm, c9 (hy (ivN D J) (9))), (ba, c9 J), (w.heap.size + 1, [.slice none 0 0, .slice none 0 0, .int .i64 0]), (w.heap.size, [.slice (some ⟨b, off, none⟩) 9 c0, .slice (some ⟨b', off', none⟩) 3 c1, .int .i64 D])] [] wo) := by
          have h := HSo.out
          rw [show i = 3 by omega] at h
          exact h
        clear HSo
        have cD' := cD wo (HP0.out.below HSj.out.below)
        clear cD
        go_wp2_with fail
        refine cD'.mono ?_
        rintro e w4 ⟨rfl, hb⟩
        have HSk := hide (HSj.out.next hb)
        clear hb cD' HSj
        have hm9 : Px (some ⟨bm, 0, none⟩) 9 (ivN D J) w4 := (c9_px (HSk.out.bxAt 1 rfl)).px9 (fun k hk => by unfold hy; rw [if_pos hk])
        have ht3 : Px (some ⟨bt, 0, none⟩) 3 (ivS J T) w4 := (c3_px (HSk.out.bxAt 0 rfl)).px9 (fun k hk => by unfold hy; rw [if_pos hk])
        have cR := l7Right_any (some ⟨bm, 0, none⟩) 9 (ivN D J) (some ⟨bt, 0, none⟩) 3 (ivS J T) dd HDT.out.1 (by have := HDT.out.2; omega) (fun k hk => by have := mul_b12 (HJ.out k) (show -1000000 ≤ D ∧ D ≤ 1000000 by have := BD.out; omega); unfold ivN; omega) (fun k hk => by have := timJ_b HJ.out BT.out k; unfold ivS; omega) w4 hm9 ht3
        rw [HNM.out.1, HNM.out.2.1, HNM.out.2.2] at cR
        clear HNM hm9 ht3 HJ BD BT BM HDT HP0 HP1
        go_wp2_with fail
        refine cR.mono ?_
        rintro e w5 (⟨hq, b0, cc0, b1, cc1, rfl, hb0, hb1, hne, hr0, hr1, hb⟩ | ⟨hq, rfl, hb⟩)
        · have HQT : Hid (Q = true) := by show _ = _; rw [HQ2.out, hq]
          have HS6 := hide (HSk.out.next hb)
          have hzj := HSk.out.below.size
          have lt2 := (HSk.out.ltB 3 rfl).2
          have HR : Hid (w.heap.size ≤ b0 ∧ w.heap.size ≤ b1 ∧ b0 ≠ b1 ∧ w.heap.size + 1 ≠ b0 ∧ w.heap.size + 1 ≠ b1) := ⟨by omega, by omega, hne, by omega, by omega⟩
          have HR0 := hide hr0
          have HR1 := hide hr1
          clear hq HQ2 hb0 hb1 hne hr0 hr1 hb hzj lt2 HSk cR
          obtain ⟨z0, z1, z2⟩ := HS6.out.im3 3 rfl
          obtain ⟨y0, y1, y2⟩ := HS6.out.fr3 3 rfl
          have HB := hide (((HS6.out.below.setCell (p := ⟨w.heap.size + 1, 0, none⟩) (show w.heap.size ≤ w.heap.size + 1 by omega) (.slice (some ⟨b0, 0, none⟩) 9 cc0)).setCell (p := ⟨w.heap.size + 1, 1, none⟩) (show w.heap.size ≤ w.heap.size + 1 by omega) (.slice (some ⟨b1, 0, none⟩) 3 cc1)).setCell (p := ⟨w.heap.size + 1, 2, none⟩) (show w.heap.size ≤ w.heap.size + 1 by omega) (.int .i64 rD))
          clear HS6
          unfold vFrame
          go_wp2_with fail
          obtain ⟨r0, r1, r2, r3, r4⟩ := HR.out
          exact bodyPost_ret (v := .tuple #[vFrame rD (some ⟨b0, 0, none⟩) 9 cc0 (some ⟨b1, 0, none⟩) 3 cc1, .bool true]) (by simp [results, vFrame, Try.results12, go_sem, z0, z1, z2]) rfl (.inl ⟨HQT.out, b0, cc0, b1, cc1, rfl, r0, r1, r2, ((HR0.out.set (p := ⟨w.heap.size + 1, 0, none⟩) r3 _).set (p := ⟨w.heap.size + 1, 1, none⟩) r3 _).set (p := ⟨w.heap.size + 1, 2, none⟩) r3 _, ((HR1.out.set (p := ⟨w.heap.size + 1, 0, none⟩) r4 _).set (p := ⟨w.heap.size + 1, 1, none⟩) r4 _).set (p := ⟨w.heap.size + 1, 2, none⟩) r4 _, HB.out⟩)
        · have HQT : Hid (Q = false) := by show _ = _; rw [HQ2.out, hq]
          have HS6 := hide (HSk.out.next hb)
          clear hq HQ2 hb HSk cR
          obtain ⟨z0, z1, z2⟩ := HS6.out.im3 3 rfl
          obtain ⟨y0, y1, y2⟩ := HS6.out.fr3 3 rfl
          have HB := hide (((HS6.out.below.setCell (p := ⟨w.heap.size + 1, 0, none⟩) (show w.heap.size ≤ w.heap.size + 1 by omega) (.slice none 0 0)).setCell (p := ⟨w.heap.size + 1, 1, none⟩) (show w.heap.size ≤ w.heap.size + 1 by omega) (.slice none 0 0)).setCell (p := ⟨w.heap.size + 1, 2, none⟩) (show w.heap.size ≤ w.heap.size + 1 by omega) (.int .i64 0))
          clear HS6
          unfold vFrame
          go_wp2_with fail
          exact bodyPost_ret (v := .tuple #[vFrame 0 none 0 0 none 0 0, .bool false]) (by simp [results, vFrame, Try.results12, go_sem, z0, z1, z2]) rfl (.inr ⟨HQT.out, rfl, HB.out⟩)

end Go.Proofs.Ytjdbiaoheoialaa

/- Move: the specification. -/
import Derived.Test.YtpbeogepgjbacaaMvn
import Derived.Test.YtpbeogepgjbacaaRgs
import Derived.Test.YtpbeogepgjbacaaBxs
namespace Go.Proofs.Ytpbeogepgjbacaa
open Go.RowKit Go.Lib

set_option maxRecDepth 100000 in
set_option maxHeartbeats 8000000 in
theorem specMove_any (D : Int) (a0 : Option Addr) (n0 c0 : Nat) (M : Nat → Int) (hl0 : n0 ≤ 1048576) (a1 : Option Addr) (n1 c1 : Nat) (T : Nat → Int) (hl1 : n1 ≤ 1048576) (x y z : Int) (w : World) (h0 : Px a0 n0 M w) (h1 : Px a1 n1 T w) :
    Calls Try.prog 25 #[vFrame D a0 n0 c0 a1 n1 c1, .int .i64 x, .int .i64 y, .int .i64 z] w fun e w' => e = .returned (movV D n0 M n1 T x y z) ∧ Below w.heap.size w w' := by
  have HS0 := hide (((St.start w).box [.slice a0 n0 c0, .slice a1 n1 c1, .int .i64 D] 32).box' [.int .i64 0, .int .i64 0, .int .i64 0, .int .i64 0] 50 (b := w.heap.size + 1) (by simp))
  have c := fun w' h h' => specFrameOk_any D a0 n0 c0 M hl0 a1 n1 c1 T hl1 w' h h'
  have cx := l1In_any x (-1000000) 1000000
  have cy := l1In_any y (-1000000) 1000000
  have cz := l1In_any z (-1000000) 1000000
  have HP0 := hide h0
  have HP1 := hide h1
  clear h0 h1
  obtain ⟨V, hV⟩ : ∃ V, V = movV D n0 M n1 T x y z := ⟨_, rfl⟩
  rw [← hV]
  have HVn : Hid (movB D n0 M n1 T x y z = false → V = .agg #[.int .i64 0, .int .i64 0, .int .i64 0, .int .i64 0]) := fun e => by rw [hV]; unfold movV; rw [e]; rfl
  have HVy : Hid (movB D n0 M n1 T x y z = true → V = plV (mvX M T x y z 0) (mvX M T x y z 1) (mvX M T x y z 2) D (mvG M T D x y z)) := fun e => by rw [hV]; unfold movV; rw [e]; rfl
  clear hV
  cases hq0 : frmB D n0 M n1 T
  · have HN := hide (HVn.out (by unfold movB; rw [hq0]; rfl))
    rw [hq0] at c
    clear hq0 HVn HVy cx cy cz
    go_enter Try.func25, Try.ntmps25
    go_wp2_with fail
    refine (c _ (HP0.out.below HS0.out.below) (HP1.out.below HS0.out.below)).mono ?_
    rintro e w1 ⟨rfl, hb⟩
    have HS1 := hide (HS0.out.next hb)
    clear hb c HS0
    have z0 := HS1.out.cell 0 rfl 0 rfl
    have e0 := HS1.out.free 0 rfl 0 rfl
    have z1 := HS1.out.cell 0 rfl 1 rfl
    have e1 := HS1.out.free 0 rfl 1 rfl
    have z2 := HS1.out.cell 0 rfl 2 rfl
    have e2 := HS1.out.free 0 rfl 2 rfl
    have z3 := HS1.out.cell 0 rfl 3 rfl
    have e3 := HS1.out.free 0 rfl 3 rfl
    have HB := hide ((((HS1.out.below.setCell (p := ⟨w.heap.size + 1, 0, none⟩) (Nat.le_succ _) (.int .i64 0)).setCell (p := ⟨w.heap.size + 1, 1, none⟩) (Nat.le_succ _) (.int .i64 0)).setCell (p := ⟨w.heap.size + 1, 2, none⟩) (Nat.le_succ _) (.int .i64 0)).setCell (p := ⟨w.heap.size + 1, 3, none⟩) (Nat.le_succ _) (.int .i64 0))
    clear HS1
    go_wp2_with fail
    exact bodyPost_ret (v := .agg #[.int .i64 0, .int .i64 0, .int .i64 0, .int .i64 0]) (by simp [results, Try.results25, go_sem, z0, z1, z2, z3]) rfl ⟨by rw [HN.out], HB.out⟩
  rw [hq0] at c
  cases hq1 : inB x (-1000000) 1000000
  · have HN := hide (HVn.out (by unfold movB; rw [hq0, hq1]; rfl))
    rw [hq1] at cx
    clear hq0 hq1 HVn HVy cy cz
    go_enter Try.func25, Try.ntmps25
    go_wp2_with fail
    refine (c _ (HP0.out.below HS0.out.below) (HP1.out.below HS0.out.below)).mono ?_
    rintro e w1 ⟨rfl, hb⟩
    have HS1 := hide (HS0.out.next hb)
    clear hb c HS0
    go_wp2_with fail
    refine (cx _).mono ?_
    rintro e w1 ⟨rfl, rfl⟩
    have z0 := HS1.out.cell 0 rfl 0 rfl
    have e0 := HS1.out.free 0 rfl 0 rfl
    have z1 := HS1.out.cell 0 rfl 1 rfl
    have e1 := HS1.out.free 0 rfl 1 rfl
    have z2 := HS1.out.cell 0 rfl 2 rfl
    have e2 := HS1.out.free 0 rfl 2 rfl
    have z3 := HS1.out.cell 0 rfl 3 rfl
    have e3 := HS1.out.free 0 rfl 3 rfl
    have HB := hide ((((HS1.out.below.setCell (p := ⟨w.heap.size + 1, 0, none⟩) (Nat.le_succ _) (.int .i64 0)).setCell (p := ⟨w.heap.size + 1, 1, none⟩) (Nat.le_succ _) (.int .i64 0)).setCell (p := ⟨w.heap.size + 1, 2, none⟩) (Nat.le_succ _) (.int .i64 0)).setCell (p := ⟨w.heap.size + 1, 3, none⟩) (Nat.le_succ _) (.int .i64 0))
    clear HS1
    go_wp2_with fail
    exact bodyPost_ret (v := .agg #[.int .i64 0, .int .i64 0, .int .i64 0, .int .i64 0]) (by simp [results, Try.results25, go_sem, z0, z1, z2, z3]) rfl ⟨by rw [HN.out], HB.out⟩
  rw [hq1] at cx
  cases hq2 : inB y (-1000000) 1000000
  · have HN := hide (HVn.out (by unfold movB; rw [hq0, hq1, hq2]; rfl))
    rw [hq2] at cy
    clear hq0 hq1 hq2 HVn HVy cz
    go_enter Try.func25, Try.ntmps25
    go_wp2_with fail
    refine (c _ (HP0.out.below HS0.out.below) (HP1.out.below HS0.out.below)).mono ?_
    rintro e w1 ⟨rfl, hb⟩
    have HS1 := hide (HS0.out.next hb)
    clear hb c HS0
    go_wp2_with fail
    refine (cx _).mono ?_
    rintro e w1 ⟨rfl, rfl⟩
    go_wp2_with fail
    refine (cy _).mono ?_
    rintro e w1 ⟨rfl, rfl⟩
    have z0 := HS1.out.cell 0 rfl 0 rfl
    have e0 := HS1.out.free 0 rfl 0 rfl
    have z1 := HS1.out.cell 0 rfl 1 rfl
    have e1 := HS1.out.free 0 rfl 1 rfl
    have z2 := HS1.out.cell 0 rfl 2 rfl
    have e2 := HS1.out.free 0 rfl 2 rfl
    have z3 := HS1.out.cell 0 rfl 3 rfl
    have e3 := HS1.out.free 0 rfl 3 rfl
    have HB := hide ((((HS1.out.below.setCell (p := ⟨w.heap.size + 1, 0, none⟩) (Nat.le_succ _) (.int .i64 0)).setCell (p := ⟨w.heap.size + 1, 1, none⟩) (Nat.le_succ _) (.int .i64 0)).setCell (p := ⟨w.heap.size + 1, 2, none⟩) (Nat.le_succ _) (.int .i64 0)).setCell (p := ⟨w.heap.size + 1, 3, none⟩) (Nat.le_succ _) (.int .i64 0))
    clear HS1
    go_wp2_with fail
    exact bodyPost_ret (v := .agg #[.int .i64 0, .int .i64 0, .int .i64 0, .int .i64 0]) (by simp [results, Try.results25, go_sem, z0, z1, z2, z3]) rfl ⟨by rw [HN.out], HB.out⟩
  rw [hq2] at cy
  cases hq3 : inB z (-1000000) 1000000
  · have HN := hide (HVn.out (by unfold movB; rw [hq0, hq1, hq2, hq3]; rfl))
    rw [hq3] at cz
    clear hq0 hq1 hq2 hq3 HVn HVy 
    go_enter Try.func25, Try.ntmps25
    go_wp2_with fail
    refine (c _ (HP0.out.below HS0.out.below) (HP1.out.below HS0.out.below)).mono ?_
    rintro e w1 ⟨rfl, hb⟩
    have HS1 := hide (HS0.out.next hb)
    clear hb c HS0
    go_wp2_with fail
    refine (cx _).mono ?_
    rintro e w1 ⟨rfl, rfl⟩
    go_wp2_with fail
    refine (cy _).mono ?_
    rintro e w1 ⟨rfl, rfl⟩
    go_wp2_with fail
    refine (cz _).mono ?_
    rintro e w1 ⟨rfl, rfl⟩
    have z0 := HS1.out.cell 0 rfl 0 rfl
    have e0 := HS1.out.free 0 rfl 0 rfl
    have z1 := HS1.out.cell 0 rfl 1 rfl
    have e1 := HS1.out.free 0 rfl 1 rfl
    have z2 := HS1.out.cell 0 rfl 2 rfl
    have e2 := HS1.out.free 0 rfl 2 rfl
    have z3 := HS1.out.cell 0 rfl 3 rfl
    have e3 := HS1.out.free 0 rfl 3 rfl
    have HB := hide ((((HS1.out.below.setCell (p := ⟨w.heap.size + 1, 0, none⟩) (Nat.le_succ _) (.int .i64 0)).setCell (p := ⟨w.heap.size + 1, 1, none⟩) (Nat.le_succ _) (.int .i64 0)).setCell (p := ⟨w.heap.size + 1, 2, none⟩) (Nat.le_succ _) (.int .i64 0)).setCell (p := ⟨w.heap.size + 1, 3, none⟩) (Nat.le_succ _) (.int .i64 0))
    clear HS1
    go_wp2_with fail
    exact bodyPost_ret (v := .agg #[.int .i64 0, .int .i64 0, .int .i64 0, .int .i64 0]) (by simp [results, Try.results25, go_sem, z0, z1, z2, z3]) rfl ⟨by rw [HN.out], HB.out⟩
  rw [hq3] at cz
  have HV := hide (HVy.out (by unfold movB; rw [hq0, hq1, hq2, hq3]; rfl))
  obtain ⟨g1, g2, bD, bM, bT, -⟩ := frmB_parts hq0
  have bx := inB6 hq1
  have by' := inB6 hq2
  have bz := inB6 hq3
  have hgp := mvG_pos M T bD.1 x y z
  clear hq0 hq1 hq2 hq3 HVn HVy
  subst g1 g2
  obtain ⟨b, off, rfl, hbl⟩ := HP0.out.lt (by omega)
  obtain ⟨b', off', rfl, hbl'⟩ := HP1.out.lt (by omega)
  go_enter Try.func25, Try.ntmps25
  go_wp2_with fail
  refine (c _ (HP0.out.below HS0.out.below) (HP1.out.below HS0.out.below)).mono ?_
  rintro e w1 ⟨rfl, hb⟩
  have HS1 := hide (HS0.out.next hb)
  clear hb c HS0
  go_wp2_with fail
  refine (cx _).mono ?_
  rintro e w1 ⟨rfl, rfl⟩
  go_wp2_with fail
  refine (cy _).mono ?_
  rintro e w1 ⟨rfl, rfl⟩
  go_wp2_with fail
  refine (cz _).mono ?_
  rintro e w1 ⟨rfl, rfl⟩
  clear cx cy cz
  obtain ⟨i0, i1, i2⟩ := HS1.out.im3 1 rfl
  have HS2 := hide (HS1.out.box [.int .i64 0, .int .i64 0, .int .i64 0, .int .i64 D] 50)
  generalize hP : w1.heap.size = Pb at *
  generalize hX : w1.alloc (.cells [.int .i64 0, .int .i64 0, .int .i64 0, .int .i64 D].toArray 50) = wX at HS2
  have hX' : w1.alloc (.cells #[.int .i64 0, .int .i64 0, .int .i64 0, .int .i64 D] 50) = wX := hX
  clear hX HS1
  go_upto_region 4 with fail
  clear hX' hP i0 i1 i2
  have m0 : Hid (wX.cell? ⟨b, off, none⟩ = some (Value.int .i64 (M 0))) := by obtain ⟨_, _, heq, hz⟩ := (HP0.out.below HS2.out.below).at (show 0 < 9 by omega); cases heq; exact hz
  have m1 : Hid (wX.cell? ⟨b, off + 1, none⟩ = some (Value.int .i64 (M 1))) := by obtain ⟨_, _, heq, hz⟩ := (HP0.out.below HS2.out.below).at (show 1 < 9 by omega); cases heq; exact hz
  have m2 : Hid (wX.cell? ⟨b, off + 2, none⟩ = some (Value.int .i64 (M 2))) := by obtain ⟨_, _, heq, hz⟩ := (HP0.out.below HS2.out.below).at (show 2 < 9 by omega); cases heq; exact hz
  have t0' : Hid (wX.cell? ⟨b', off', none⟩ = some (Value.int .i64 (T 0))) := by obtain ⟨_, _, heq, hz⟩ := (HP1.out.below HS2.out.below).at (show 0 < 3 by omega); cases heq; exact hz
  have d0 := mul_b6 (bM 0 (by omega)) bx
  have d1 := mul_b6 (bM 1 (by omega)) by'
  have d2 := mul_b6 (bM 2 (by omega)) bz
  have d3 := bT 0 (by omega)
  obtain ⟨Y0, hY0⟩ : ∃ Y, Y = M 0 * x := ⟨_, rfl⟩
  obtain ⟨Y1, hY1⟩ : ∃ Y, Y = M 1 * y := ⟨_, rfl⟩
  obtain ⟨Y2, hY2⟩ : ∃ Y, Y = M 2 * z := ⟨_, rfl⟩
  rw [← hY0] at d0
  rw [← hY1] at d1
  rw [← hY2] at d2
  obtain ⟨Y3, hY3⟩ : ∃ Y, Y = Y0 + Y1 := ⟨_, rfl⟩
  obtain ⟨Y4, hY4⟩ : ∃ Y, Y = Y3 + Y2 := ⟨_, rfl⟩
  obtain ⟨X0, hX0⟩ : ∃ Y, Y = Y4 + T 0 := ⟨_, rfl⟩
  have w0 : IntKind.i64.wrap (M 0 * x) = Y0 := by rw [IntKind.wrap_i64, ← hY0]; omega
  have w1' : IntKind.i64.wrap (M 1 * y) = Y1 := by rw [IntKind.wrap_i64, ← hY1]; omega
  have w2 : IntKind.i64.wrap (M 2 * z) = Y2 := by rw [IntKind.wrap_i64, ← hY2]; omega
  have w3 : IntKind.i64.wrap (Y0 + Y1) = Y3 := by rw [IntKind.wrap_i64]; omega
  have w4 : IntKind.i64.wrap (Y3 + Y2) = Y4 := by rw [IntKind.wrap_i64]; omega
  have w5 : IntKind.i64.wrap (Y4 + T 0) = X0 := by rw [IntKind.wrap_i64]; omega
  have HX0 : Hid (X0 = mvX M T x y z 0) := by show _ = _; rw [hX0, hY4, hY3, hY0, hY1, hY2]; rfl
  have bX0 : -4000000000000 ≤ X0 ∧ X0 ≤ 4000000000000 := by omega
  clear hY0 hY1 hY2 hY3 hY4 hX0 d0 d1 d2 d3
  go_cut [] (fun wc => St w [(Pb, [.int .i64 X0, .int .i64 0, .int .i64 0, .int .i64 D]), (w.heap.size + 1, [.int .i64 0, .int .i64 0, .int .i64 0, .int .i64 0]), (w.heap.size, [.slice (some ⟨b, off, none⟩) 9 c0, .slice (some ⟨b', off', none⟩) 3 c1, .int .i64 D])] [] wc)
  case first =>
    have HSN : Hid (St w [(Pb, [.int .i64 X0, .int .i64 0, .int .i64 0, .int .i64 D]), (w.heap.size + 1, [.int .i64 0, .int .i64 0, .int .i64 0, .int .i64 0]), (w.heap.size, [.slice (some ⟨b, off, none⟩) 9 c0, .slice (some ⟨b', off', none⟩) 3 c1, .int .i64 D])] [] (wX.drew.setCell ⟨Pb, 0, none⟩ (.int .i64 X0))) := St.fill (L1 := []) HS2.out.drew 0 (.int .i64 X0)
    obtain ⟨G, hG⟩ : ∃ G : Nat → Value → Prop, G = (fun j v => match j with | 0 => v = .pointer (some ⟨w.heap.size, 0, none⟩) | 1 => v = .slice (some ⟨b, off, none⟩) 9 c0 | 2 => v = .pointer (some ⟨b, off, none⟩) | 3 => v = .int .i64 (M 0) | 4 => v = .int .i64 x | 5 => v = .int .i64 Y0 | 6 => v = .pointer (some ⟨w.heap.size, 0, none⟩) | 7 => v = .slice (some ⟨b, off, none⟩) 9 c0 | 8 => v = .pointer (some ⟨b, off + 1, none⟩) | 9 => v = .int .i64 (M 1) | 10 => v = .int .i64 y | 11 => v = .int .i64 Y1 | 12 => v = .int .i64 Y3 | 13 => v = .pointer (some ⟨w.heap.size, 0, none⟩) | 14 => v = .slice (some ⟨b, off, none⟩) 9 c0 | 15 => v = .pointer (some ⟨b, off + 2, none⟩) | 16 => v = .int .i64 (M 2) | 17 => v = .int .i64 z | 18 => v = .int .i64 Y2 | 19 => v = .int .i64 Y4 | 20 => v = .pointer (some ⟨w.heap.size, 1, none⟩) | 21 => v = .slice (some ⟨b', off', none⟩) 3 c1 | 22 => v = .pointer (some ⟨b', off', none⟩) | 23 => v = .int .i64 (T 0) | 24 => v = .int .i64 X0 | 25 => v = .pointer (some ⟨Pb, 0, none⟩) | _ => True) := ⟨_, rfl⟩
    have G0 : Hid (∀ v, G 0 v ↔ v = .pointer (some ⟨w.heap.size, 0, none⟩)) := fun v => by rw [hG]; exact Iff.rfl
    have G1 : Hid (∀ v, G 1 v ↔ v = .slice (some ⟨b, off, none⟩) 9 c0) := fun v => by rw [hG]; exact Iff.rfl
    have G2 : Hid (∀ v, G 2 v ↔ v = .pointer (some ⟨b, off, none⟩)) := fun v => by rw [hG]; exact Iff.rfl
    have G3 : Hid (∀ v, G 3 v ↔ v = .int .i64 (M 0)) := fun v => by rw [hG]; exact Iff.rfl
    have G4 : Hid (∀ v, G 4 v ↔ v = .int .i64 x) := fun v => by rw [hG]; exact Iff.rfl
    have G5 : Hid (∀ v, G 5 v ↔ v = .int .i64 Y0) := fun v => by rw [hG]; exact Iff.rfl
    have G6 : Hid (∀ v, G 6 v ↔ v = .pointer (some ⟨w.heap.size, 0, none⟩)) := fun v => by rw [hG]; exact Iff.rfl
    have G7 : Hid (∀ v, G 7 v ↔ v = .slice (some ⟨b, off, none⟩) 9 c0) := fun v => by rw [hG]; exact Iff.rfl
    have G8 : Hid (∀ v, G 8 v ↔ v = .pointer (some ⟨b, off + 1, none⟩)) := fun v => by rw [hG]; exact Iff.rfl
    have G9 : Hid (∀ v, G 9 v ↔ v = .int .i64 (M 1)) := fun v => by rw [hG]; exact Iff.rfl
    have G10 : Hid (∀ v, G 10 v ↔ v = .int .i64 y) := fun v => by rw [hG]; exact Iff.rfl
    have G11 : Hid (∀ v, G 11 v ↔ v = .int .i64 Y1) := fun v => by rw [hG]; exact Iff.rfl
    have G12 : Hid (∀ v, G 12 v ↔ v = .int .i64 Y3) := fun v => by rw [hG]; exact Iff.rfl
    have G13 : Hid (∀ v, G 13 v ↔ v = .pointer (some ⟨w.heap.size, 0, none⟩)) := fun v => by rw [hG]; exact Iff.rfl
    have G14 : Hid (∀ v, G 14 v ↔ v = .slice (some ⟨b, off, none⟩) 9 c0) := fun v => by rw [hG]; exact Iff.rfl
    have G15 : Hid (∀ v, G 15 v ↔ v = .pointer (some ⟨b, off + 2, none⟩)) := fun v => by rw [hG]; exact Iff.rfl
    have G16 : Hid (∀ v, G 16 v ↔ v = .int .i64 (M 2)) := fun v => by rw [hG]; exact Iff.rfl
    have G17 : Hid (∀ v, G 17 v ↔ v = .int .i64 z) := fun v => by rw [hG]; exact Iff.rfl
    have G18 : Hid (∀ v, G 18 v ↔ v = .int .i64 Y2) := fun v => by rw [hG]; exact Iff.rfl
    have G19 : Hid (∀ v, G 19 v ↔ v = .int .i64 Y4) := fun v => by rw [hG]; exact Iff.rfl
    have G20 : Hid (∀ v, G 20 v ↔ v = .pointer (some ⟨w.heap.size, 1, none⟩)) := fun v => by rw [hG]; exact Iff.rfl
    have G21 : Hid (∀ v, G 21 v ↔ v = .slice (some ⟨b', off', none⟩) 3 c1) := fun v => by rw [hG]; exact Iff.rfl
    have G22 : Hid (∀ v, G 22 v ↔ v = .pointer (some ⟨b', off', none⟩)) := fun v => by rw [hG]; exact Iff.rfl
    have G23 : Hid (∀ v, G 23 v ↔ v = .int .i64 (T 0)) := fun v => by rw [hG]; exact Iff.rfl
    have G24 : Hid (∀ v, G 24 v ↔ v = .int .i64 X0) := fun v => by rw [hG]; exact Iff.rfl
    have G25 : Hid (∀ v, G 25 v ↔ v = .pointer (some ⟨Pb, 0, none⟩)) := fun v => by rw [hG]; exact Iff.rfl
    have G26 : Hid (∀ v, G 26 v) := fun v => by rw [hG]; trivial
    clear hG
    obtain ⟨PP, hPP⟩ : ∃ P : World → Prop, P = (fun wx => wx = wX.drew.setCell ⟨Pb, 0, none⟩ (.int .i64 X0)) := ⟨_, rfl⟩
    refine region_opsU (sR 26 wX) (sF 26 G PP) (by kernel_rfl) (by kernel_rfl) (by kernel_rfl) (fun _ => rfl) ?_ ?_
    · refine ⟨?_, ?_, ?_, ?_, ?_, ?_, ?_, ?_, ?_, ?_, ?_, ?_, ?_, ?_, ?_, ?_, ?_, ?_, ?_, ?_, ?_, ?_, ?_, ?_, ?_, ?_, ?_, trivial⟩
      · intro u w21 au hau hu hF hp' K hK
        have t4 : au.tmps[4]?.getD undef = .pointer (some ⟨w.heap.size, 0, none⟩) := by rw [hau.out]; kernel_rfl
        refine step_plain rfl ?_
        go_simp
        exact hK.out (.pointer (some ⟨w.heap.size, 0, none⟩)) _ (sR_up hF 0 (by omega) _) (sF_val 0 (by omega) ((G0.out _).2 rfl)) (fun j hj hf h => sF_up 0 _ j hj (fun e => by subst e; exact absurd (Eq.trans (Eq.symm (by kernel_rfl)) hf) Bool.false_ne_true) h)
      · intro u w21 au hau hu hF hp' K hK
        have h0 : u 0 = .pointer (some ⟨w.heap.size, 0, none⟩) := (G0.out _).1 (PreF.get hp' 0 (by kernel_rfl)).1
        have t33 : au.tmps[33]?.getD undef = u 0 := by rw [hau.out]; kernel_rfl
        rw [h0] at t33
        have hw : w21 = wX.drew := hF ((hu.out 26 (by decide) (.inr (by kernel_rfl))).trans (by kernel_rfl))
        have xc : w21.cell? ⟨w.heap.size, 0, none⟩ = some (.slice (some ⟨b, off, none⟩) 9 c0) := by rw [hw]; exact HS2.out.cell 2 rfl 0 rfl
        clear hw
        refine step_plain rfl ?_
        go_simp
        exact hK.out (.slice (some ⟨b, off, none⟩) 9 c0) _ (sR_up hF 1 (by omega) _) (sF_val 1 (by omega) ((G1.out _).2 rfl)) (fun j hj hf h => sF_up 1 _ j hj (fun e => by subst e; exact absurd (Eq.trans (Eq.symm (by kernel_rfl)) hf) Bool.false_ne_true) h)
      · intro u w21 au hau hu hF hp' K hK
        have h1 : u 1 = .slice (some ⟨b, off, none⟩) 9 c0 := (G1.out _).1 (PreF.get hp' 1 (by kernel_rfl)).1
        have t34 : au.tmps[34]?.getD undef = u 1 := by rw [hau.out]; kernel_rfl
        rw [h1] at t34
        refine step_plain rfl ?_
        go_simp
        exact hK.out (.pointer (some ⟨b, off, none⟩)) _ (sR_up hF 2 (by omega) _) (sF_val 2 (by omega) ((G2.out _).2 rfl)) (fun j hj hf h => sF_up 2 _ j hj (fun e => by subst e; exact absurd (Eq.trans (Eq.symm (by kernel_rfl)) hf) Bool.false_ne_true) h)
      · intro u w21 au hau hu hF hp' K hK
        have h2 : u 2 = .pointer (some ⟨b, off, none⟩) := (G2.out _).1 (PreF.get hp' 2 (by kernel_rfl)).1
        have t35 : au.tmps[35]?.getD undef = u 2 := by rw [hau.out]; kernel_rfl
        rw [h2] at t35
        have hw : w21 = wX.drew := hF ((hu.out 26 (by decide) (.inr (by kernel_rfl))).trans (by kernel_rfl))
        have xc : w21.cell? ⟨b, off, none⟩ = some (.int .i64 (M 0)) := by rw [hw]; exact m0.out
        clear hw
        refine step_plain rfl ?_
        go_simp
        exact hK.out (.int .i64 (M 0)) _ (sR_up hF 3 (by omega) _) (sF_val 3 (by omega) ((G3.out _).2 rfl)) (fun j hj hf h => sF_up 3 _ j hj (fun e => by subst e; exact absurd (Eq.trans (Eq.symm (by kernel_rfl)) hf) Bool.false_ne_true) h)
      · intro u w21 au hau hu hF hp' K hK
        have t1 : au.tmps[1]?.getD undef = .int .i64 x := by rw [hau.out]; kernel_rfl
        refine step_plain rfl ?_
        go_simp
        exact hK.out (.int .i64 x) _ (sR_up hF 4 (by omega) _) (sF_val 4 (by omega) ((G4.out _).2 rfl)) (fun j hj hf h => sF_up 4 _ j hj (fun e => by subst e; exact absurd (Eq.trans (Eq.symm (by kernel_rfl)) hf) Bool.false_ne_true) h)
      · intro u w21 au hau hu hF hp' K hK
        have h3 : u 3 = .int .i64 (M 0) := (G3.out _).1 (PreF.get hp' 3 (by kernel_rfl)).1
        have t36 : au.tmps[36]?.getD undef = u 3 := by rw [hau.out]; kernel_rfl
        rw [h3] at t36
        have h4 : u 4 = .int .i64 x := (G4.out _).1 (PreF.get hp' 4 (by kernel_rfl)).1
        have t37 : au.tmps[37]?.getD undef = u 4 := by rw [hau.out]; kernel_rfl
        rw [h4] at t37
        refine step_plain rfl ?_
        go_simp
        exact hK.out (.int .i64 Y0) _ (sR_up hF 5 (by omega) _) (sF_val 5 (by omega) ((G5.out _).2 rfl)) (fun j hj hf h => sF_up 5 _ j hj (fun e => by subst e; exact absurd (Eq.trans (Eq.symm (by kernel_rfl)) hf) Bool.false_ne_true) h)
      · intro u w21 au hau hu hF hp' K hK
        have t4 : au.tmps[4]?.getD undef = .pointer (some ⟨w.heap.size, 0, none⟩) := by rw [hau.out]; kernel_rfl
        refine step_plain rfl ?_
        go_simp
        exact hK.out (.pointer (some ⟨w.heap.size, 0, none⟩)) _ (sR_up hF 6 (by omega) _) (sF_val 6 (by omega) ((G6.out _).2 rfl)) (fun j hj hf h => sF_up 6 _ j hj (fun e => by subst e; exact absurd (Eq.trans (Eq.symm (by kernel_rfl)) hf) Bool.false_ne_true) h)
      · intro u w21 au hau hu hF hp' K hK
        have h6 : u 6 = .pointer (some ⟨w.heap.size, 0, none⟩) := (G6.out _).1 (PreF.get hp' 6 (by kernel_rfl)).1
        have t39 : au.tmps[39]?.getD undef = u 6 := by rw [hau.out]; kernel_rfl
        rw [h6] at t39
        have hw : w21 = wX.drew := hF ((hu.out 26 (by decide) (.inr (by kernel_rfl))).trans (by kernel_rfl))
        have xc : w21.cell? ⟨w.heap.size, 0, none⟩ = some (.slice (some ⟨b, off, none⟩) 9 c0) := by rw [hw]; exact HS2.out.cell 2 rfl 0 rfl
        clear hw
        refine step_plain rfl ?_
        go_simp
        exact hK.out (.slice (some ⟨b, off, none⟩) 9 c0) _ (sR_up hF 7 (by omega) _) (sF_val 7 (by omega) ((G7.out _).2 rfl)) (fun j hj hf h => sF_up 7 _ j hj (fun e => by subst e; exact absurd (Eq.trans (Eq.symm (by kernel_rfl)) hf) Bool.false_ne_true) h)
      · intro u w21 au hau hu hF hp' K hK
        have h7 : u 7 = .slice (some ⟨b, off, none⟩) 9 c0 := (G7.out _).1 (PreF.get hp' 7 (by kernel_rfl)).1
        have t40 : au.tmps[40]?.getD undef = u 7 := by rw [hau.out]; kernel_rfl
        rw [h7] at t40
        refine step_plain rfl ?_
        go_simp
        exact hK.out (.pointer (some ⟨b, off + 1, none⟩)) _ (sR_up hF 8 (by omega) _) (sF_val 8 (by omega) ((G8.out _).2 rfl)) (fun j hj hf h => sF_up 8 _ j hj (fun e => by subst e; exact absurd (Eq.trans (Eq.symm (by kernel_rfl)) hf) Bool.false_ne_true) h)
      · intro u w21 au hau hu hF hp' K hK
        have h8 : u 8 = .pointer (some ⟨b, off + 1, none⟩) := (G8.out _).1 (PreF.get hp' 8 (by kernel_rfl)).1
        have t41 : au.tmps[41]?.getD undef = u 8 := by rw [hau.out]; kernel_rfl
        rw [h8] at t41
        have hw : w21 = wX.drew := hF ((hu.out 26 (by decide) (.inr (by kernel_rfl))).trans (by kernel_rfl))
        have xc : w21.cell? ⟨b, off + 1, none⟩ = some (.int .i64 (M 1)) := by rw [hw]; exact m1.out
        clear hw
        refine step_plain rfl ?_
        go_simp
        exact hK.out (.int .i64 (M 1)) _ (sR_up hF 9 (by omega) _) (sF_val 9 (by omega) ((G9.out _).2 rfl)) (fun j hj hf h => sF_up 9 _ j hj (fun e => by subst e; exact absurd (Eq.trans (Eq.symm (by kernel_rfl)) hf) Bool.false_ne_true) h)
      · intro u w21 au hau hu hF hp' K hK
        have t2 : au.tmps[2]?.getD undef = .int .i64 y := by rw [hau.out]; kernel_rfl
        refine step_plain rfl ?_
        go_simp
        exact hK.out (.int .i64 y) _ (sR_up hF 10 (by omega) _) (sF_val 10 (by omega) ((G10.out _).2 rfl)) (fun j hj hf h => sF_up 10 _ j hj (fun e => by subst e; exact absurd (Eq.trans (Eq.symm (by kernel_rfl)) hf) Bool.false_ne_true) h)
      · intro u w21 au hau hu hF hp' K hK
        have h9 : u 9 = .int .i64 (M 1) := (G9.out _).1 (PreF.get hp' 9 (by kernel_rfl)).1
        have t42 : au.tmps[42]?.getD undef = u 9 := by rw [hau.out]; kernel_rfl
        rw [h9] at t42
        have h10 : u 10 = .int .i64 y := (G10.out _).1 (PreF.get hp' 10 (by kernel_rfl)).1
        have t43 : au.tmps[43]?.getD undef = u 10 := by rw [hau.out]; kernel_rfl
        rw [h10] at t43
        refine step_plain rfl ?_
        go_simp
        exact hK.out (.int .i64 Y1) _ (sR_up hF 11 (by omega) _) (sF_val 11 (by omega) ((G11.out _).2 rfl)) (fun j hj hf h => sF_up 11 _ j hj (fun e => by subst e; exact absurd (Eq.trans (Eq.symm (by kernel_rfl)) hf) Bool.false_ne_true) h)
      · intro u w21 au hau hu hF hp' K hK
        have h5 : u 5 = .int .i64 Y0 := (G5.out _).1 (PreF.get hp' 5 (by kernel_rfl)).1
        have t38 : au.tmps[38]?.getD undef = u 5 := by rw [hau.out]; kernel_rfl
        rw [h5] at t38
        have h11 : u 11 = .int .i64 Y1 := (G11.out _).1 (PreF.get hp' 11 (by kernel_rfl)).1
        have t44 : au.tmps[44]?.getD undef = u 11 := by rw [hau.out]; kernel_rfl
        rw [h11] at t44
        refine step_plain rfl ?_
        go_simp
        exact hK.out (.int .i64 Y3) _ (sR_up hF 12 (by omega) _) (sF_val 12 (by omega) ((G12.out _).2 rfl)) (fun j hj hf h => sF_up 12 _ j hj (fun e => by subst e; exact absurd (Eq.trans (Eq.symm (by kernel_rfl)) hf) Bool.false_ne_true) h)
      · intro u w21 au hau hu hF hp' K hK
        have t4 : au.tmps[4]?.getD undef = .pointer (some ⟨w.heap.size, 0, none⟩) := by rw [hau.out]; kernel_rfl
        refine step_plain rfl ?_
        go_simp
        exact hK.out (.pointer (some ⟨w.heap.size, 0, none⟩)) _ (sR_up hF 13 (by omega) _) (sF_val 13 (by omega) ((G13.out _).2 rfl)) (fun j hj hf h => sF_up 13 _ j hj (fun e => by subst e; exact absurd (Eq.trans (Eq.symm (by kernel_rfl)) hf) Bool.false_ne_true) h)
      · intro u w21 au hau hu hF hp' K hK
        have h13 : u 13 = .pointer (some ⟨w.heap.size, 0, none⟩) := (G13.out _).1 (PreF.get hp' 13 (by kernel_rfl)).1
        have t46 : au.tmps[46]?.getD undef = u 13 := by rw [hau.out]; kernel_rfl
        rw [h13] at t46
        have hw : w21 = wX.drew := hF ((hu.out 26 (by decide) (.inr (by kernel_rfl))).trans (by kernel_rfl))
        have xc : w21.cell? ⟨w.heap.size, 0, none⟩ = some (.slice (some ⟨b, off, none⟩) 9 c0) := by rw [hw]; exact HS2.out.cell 2 rfl 0 rfl
        clear hw
        refine step_plain rfl ?_
        go_simp
        exact hK.out (.slice (some ⟨b, off, none⟩) 9 c0) _ (sR_up hF 14 (by omega) _) (sF_val 14 (by omega) ((G14.out _).2 rfl)) (fun j hj hf h => sF_up 14 _ j hj (fun e => by subst e; exact absurd (Eq.trans (Eq.symm (by kernel_rfl)) hf) Bool.false_ne_true) h)
      · intro u w21 au hau hu hF hp' K hK
        have h14 : u 14 = .slice (some ⟨b, off, none⟩) 9 c0 := (G14.out _).1 (PreF.get hp' 14 (by kernel_rfl)).1
        have t47 : au.tmps[47]?.getD undef = u 14 := by rw [hau.out]; kernel_rfl
        rw [h14] at t47
        refine step_plain rfl ?_
        go_simp
        exact hK.out (.pointer (some ⟨b, off + 2, none⟩)) _ (sR_up hF 15 (by omega) _) (sF_val 15 (by omega) ((G15.out _).2 rfl)) (fun j hj hf h => sF_up 15 _ j hj (fun e => by subst e; exact absurd (Eq.trans (Eq.symm (by kernel_rfl)) hf) Bool.false_ne_true) h)
      · intro u w21 au hau hu hF hp' K hK
        have h15 : u 15 = .pointer (some ⟨b, off + 2, none⟩) := (G15.out _).1 (PreF.get hp' 15 (by kernel_rfl)).1
        have t48 : au.tmps[48]?.getD undef = u 15 := by rw [hau.out]; kernel_rfl
        rw [h15] at t48
        have hw : w21 = wX.drew := hF ((hu.out 26 (by decide) (.inr (by kernel_rfl))).trans (by kernel_rfl))
        have xc : w21.cell? ⟨b, off + 2, none⟩ = some (.int .i64 (M 2)) := by rw [hw]; exact m2.out
        clear hw
        refine step_plain rfl ?_
        go_simp
        exact hK.out (.int .i64 (M 2)) _ (sR_up hF 16 (by omega) _) (sF_val 16 (by omega) ((G16.out _).2 rfl)) (fun j hj hf h => sF_up 16 _ j hj (fun e => by subst e; exact absurd (Eq.trans (Eq.symm (by kernel_rfl)) hf) Bool.false_ne_true) h)
      · intro u w21 au hau hu hF hp' K hK
        have t3 : au.tmps[3]?.getD undef = .int .i64 z := by rw [hau.out]; kernel_rfl
        refine step_plain rfl ?_
        go_simp
        exact hK.out (.int .i64 z) _ (sR_up hF 17 (by omega) _) (sF_val 17 (by omega) ((G17.out _).2 rfl)) (fun j hj hf h => sF_up 17 _ j hj (fun e => by subst e; exact absurd (Eq.trans (Eq.symm (by kernel_rfl)) hf) Bool.false_ne_true) h)
      · intro u w21 au hau hu hF hp' K hK
        have h16 : u 16 = .int .i64 (M 2) := (G16.out _).1 (PreF.get hp' 16 (by kernel_rfl)).1
        have t49 : au.tmps[49]?.getD undef = u 16 := by rw [hau.out]; kernel_rfl
        rw [h16] at t49
        have h17 : u 17 = .int .i64 z := (G17.out _).1 (PreF.get hp' 17 (by kernel_rfl)).1
        have t50 : au.tmps[50]?.getD undef = u 17 := by rw [hau.out]; kernel_rfl
        rw [h17] at t50
        refine step_plain rfl ?_
        go_simp
        exact hK.out (.int .i64 Y2) _ (sR_up hF 18 (by omega) _) (sF_val 18 (by omega) ((G18.out _).2 rfl)) (fun j hj hf h => sF_up 18 _ j hj (fun e => by subst e; exact absurd (Eq.trans (Eq.symm (by kernel_rfl)) hf) Bool.false_ne_true) h)
      · intro u w21 au hau hu hF hp' K hK
        have h12 : u 12 = .int .i64 Y3 := (G12.out _).1 (PreF.get hp' 12 (by kernel_rfl)).1
        have t45 : au.tmps[45]?.getD undef = u 12 := by rw [hau.out]; kernel_rfl
        rw [h12] at t45
        have h18 : u 18 = .int .i64 Y2 := (G18.out _).1 (PreF.get hp' 18 (by kernel_rfl)).1
        have t51 : au.tmps[51]?.getD undef = u 18 := by rw [hau.out]; kernel_rfl
        rw [h18] at t51
        refine step_plain rfl ?_
        go_simp
        exact hK.out (.int .i64 Y4) _ (sR_up hF 19 (by omega) _) (sF_val 19 (by omega) ((G19.out _).2 rfl)) (fun j hj hf h => sF_up 19 _ j hj (fun e => by subst e; exact absurd (Eq.trans (Eq.symm (by kernel_rfl)) hf) Bool.false_ne_true) h)
      · intro u w21 au hau hu hF hp' K hK
        have t4 : au.tmps[4]?.getD undef = .pointer (some ⟨w.heap.size, 0, none⟩) := by rw [hau.out]; kernel_rfl
        refine step_plain rfl ?_
        go_simp
        exact hK.out (.pointer (some ⟨w.heap.size, 1, none⟩)) _ (sR_up hF 20 (by omega) _) (sF_val 20 (by omega) ((G20.out _).2 rfl)) (fun j hj hf h => sF_up 20 _ j hj (fun e => by subst e; exact absurd (Eq.trans (Eq.symm (by kernel_rfl)) hf) Bool.false_ne_true) h)
      · intro u w21 au hau hu hF hp' K hK
        have h20 : u 20 = .pointer (some ⟨w.heap.size, 1, none⟩) := (G20.out _).1 (PreF.get hp' 20 (by kernel_rfl)).1
        have t53 : au.tmps[53]?.getD undef = u 20 := by rw [hau.out]; kernel_rfl
        rw [h20] at t53
        have hw : w21 = wX.drew := hF ((hu.out 26 (by decide) (.inr (by kernel_rfl))).trans (by kernel_rfl))
        have xc : w21.cell? ⟨w.heap.size, 1, none⟩ = some (.slice (some ⟨b', off', none⟩) 3 c1) := by rw [hw]; exact HS2.out.cell 2 rfl 1 rfl
        clear hw
        refine step_plain rfl ?_
        go_simp
        exact hK.out (.slice (some ⟨b', off', none⟩) 3 c1) _ (sR_up hF 21 (by omega) _) (sF_val 21 (by omega) ((G21.out _).2 rfl)) (fun j hj hf h => sF_up 21 _ j hj (fun e => by subst e; exact absurd (Eq.trans (Eq.symm (by kernel_rfl)) hf) Bool.false_ne_true) h)
      · intro u w21 au hau hu hF hp' K hK
        have h21 : u 21 = .slice (some ⟨b', off', none⟩) 3 c1 := (G21.out _).1 (PreF.get hp' 21 (by kernel_rfl)).1
        have t54 : au.tmps[54]?.getD undef = u 21 := by rw [hau.out]; kernel_rfl
        rw [h21] at t54
        refine step_plain rfl ?_
        go_simp
        exact hK.out (.pointer (some ⟨b', off', none⟩)) _ (sR_up hF 22 (by omega) _) (sF_val 22 (by omega) ((G22.out _).2 rfl)) (fun j hj hf h => sF_up 22 _ j hj (fun e => by subst e; exact absurd (Eq.trans (Eq.symm (by kernel_rfl)) hf) Bool.false_ne_true) h)
      · intro u w21 au hau hu hF hp' K hK
        have h22 : u 22 = .pointer (some ⟨b', off', none⟩) := (G22.out _).1 (PreF.get hp' 22 (by kernel_rfl)).1
        have t55 : au.tmps[55]?.getD undef = u 22 := by rw [hau.out]; kernel_rfl
        rw [h22] at t55
        have hw : w21 = wX.drew := hF ((hu.out 26 (by decide) (.inr (by kernel_rfl))).trans (by kernel_rfl))
        have xc : w21.cell? ⟨b', off', none⟩ = some (.int .i64 (T 0)) := by rw [hw]; exact t0'.out
        clear hw
        refine step_plain rfl ?_
        go_simp
        exact hK.out (.int .i64 (T 0)) _ (sR_up hF 23 (by omega) _) (sF_val 23 (by omega) ((G23.out _).2 rfl)) (fun j hj hf h => sF_up 23 _ j hj (fun e => by subst e; exact absurd (Eq.trans (Eq.symm (by kernel_rfl)) hf) Bool.false_ne_true) h)
      · intro u w21 au hau hu hF hp' K hK
        have h19 : u 19 = .int .i64 Y4 := (G19.out _).1 (PreF.get hp' 19 (by kernel_rfl)).1
        have t52 : au.tmps[52]?.getD undef = u 19 := by rw [hau.out]; kernel_rfl
        rw [h19] at t52
        have h23 : u 23 = .int .i64 (T 0) := (G23.out _).1 (PreF.get hp' 23 (by kernel_rfl)).1
        have t56 : au.tmps[56]?.getD undef = u 23 := by rw [hau.out]; kernel_rfl
        rw [h23] at t56
        refine step_plain rfl ?_
        go_simp
        exact hK.out (.int .i64 X0) _ (sR_up hF 24 (by omega) _) (sF_val 24 (by omega) ((G24.out _).2 rfl)) (fun j hj hf h => sF_up 24 _ j hj (fun e => by subst e; exact absurd (Eq.trans (Eq.symm (by kernel_rfl)) hf) Bool.false_ne_true) h)
      · intro u w21 au hau hu hF hp' K hK
        have t9 : au.tmps[9]?.getD undef = .pointer (some ⟨Pb, 0, none⟩) := by rw [hau.out]; kernel_rfl
        refine step_plain rfl ?_
        go_simp
        exact hK.out (.pointer (some ⟨Pb, 0, none⟩)) _ (sR_up hF 25 (by omega) _) (sF_val 25 (by omega) ((G25.out _).2 rfl)) (fun j hj hf h => sF_up 25 _ j hj (fun e => by subst e; exact absurd (Eq.trans (Eq.symm (by kernel_rfl)) hf) Bool.false_ne_true) h)
      · intro u w21 au hau hu hF hp' K hK
        have h25 : u 25 = .pointer (some ⟨Pb, 0, none⟩) := (G25.out _).1 (PreF.get hp' 25 (by kernel_rfl)).1
        have t58 : au.tmps[58]?.getD undef = u 25 := by rw [hau.out]; kernel_rfl
        rw [h25] at t58
        have h24 : u 24 = .int .i64 X0 := (G24.out _).1 (PreF.get hp' 24 (by kernel_rfl)).1
        have t57 : au.tmps[57]?.getD undef = u 24 := by rw [hau.out]; kernel_rfl
        rw [h24] at t57
        have hw : w21 = wX.drew := hF ((hu.out 26 (by decide) (.inl rfl)).trans (by kernel_rfl))
        have xc : w21.cell? ⟨Pb, 0, none⟩ = some (.int .i64 0) := by rw [hw]; exact HS2.out.cell 0 rfl 0 rfl
        have xf : w21.frozen? ⟨Pb, 0, none⟩ = false := by rw [hw]; exact HS2.out.free 0 rfl 0 rfl
        have HW21 := hide hw
        clear hw
        refine step_plain rfl ?_
        go_simp
        exact hK.out (.bool true) _ (sR_st (by simp [undef])) (sF_st (G26.out _) (by rw [hPP, HW21.out])) (fun j hj _ h => sF_keep _ j hj h)
    · intro u w30 hF hall
      have hp := (hall 26 (by decide)).2 rfl
      rw [hPP] at hp
      have HE := hide hp
      clear hF hall hp
      simp only [rgPut, Act.put]
      go_simp
      go_wp2_with fail
      go_meet
      rw [HE.out]
      exact HSN.out
  case rest =>
    obtain ⟨wN0, hwc⟩ : ∃ wn, wn = wc := ⟨_, rfl⟩
    rw [← hwc] at hcut
    rw [← hwc]
    clear hwc
    have HS3 := hide hcut
    clear hcut HS2 w0 w1' w2 w3 w4 w5 m0 m1 m2 t0'
    go_upto_region 5 with fail
    have m3 : Hid (wN0.cell? ⟨b, off + 3, none⟩ = some (Value.int .i64 (M 3))) := by obtain ⟨_, _, heq, hz⟩ := (HP0.out.below HS3.out.below).at (show 3 < 9 by omega); cases heq; exact hz
    have m4 : Hid (wN0.cell? ⟨b, off + 4, none⟩ = some (Value.int .i64 (M 4))) := by obtain ⟨_, _, heq, hz⟩ := (HP0.out.below HS3.out.below).at (show 4 < 9 by omega); cases heq; exact hz
    have m5 : Hid (wN0.cell? ⟨b, off + 5, none⟩ = some (Value.int .i64 (M 5))) := by obtain ⟨_, _, heq, hz⟩ := (HP0.out.below HS3.out.below).at (show 5 < 9 by omega); cases heq; exact hz
    have t1' : Hid (wN0.cell? ⟨b', off' + 1, none⟩ = some (Value.int .i64 (T 1))) := by obtain ⟨_, _, heq, hz⟩ := (HP1.out.below HS3.out.below).at (show 1 < 3 by omega); cases heq; exact hz
    have d0 := mul_b6 (bM 3 (by omega)) bx
    have d1 := mul_b6 (bM 4 (by omega)) by'
    have d2 := mul_b6 (bM 5 (by omega)) bz
    have d3 := bT 1 (by omega)
    obtain ⟨Y0, hY0⟩ : ∃ Y, Y = M 3 * x := ⟨_, rfl⟩
    obtain ⟨Y1, hY1⟩ : ∃ Y, Y = M 4 * y := ⟨_, rfl⟩
    obtain ⟨Y2, hY2⟩ : ∃ Y, Y = M 5 * z := ⟨_, rfl⟩
    rw [← hY0] at d0
    rw [← hY1] at d1
    rw [← hY2] at d2
    obtain ⟨Y3, hY3⟩ : ∃ Y, Y = Y0 + Y1 := ⟨_, rfl⟩
    obtain ⟨Y4, hY4⟩ : ∃ Y, Y = Y3 + Y2 := ⟨_, rfl⟩
    obtain ⟨X1, hX1⟩ : ∃ Y, Y = Y4 + T 1 := ⟨_, rfl⟩
    have w0 : IntKind.i64.wrap (M 3 * x) = Y0 := by rw [IntKind.wrap_i64, ← hY0]; omega
    have w1' : IntKind.i64.wrap (M 4 * y) = Y1 := by rw [IntKind.wrap_i64, ← hY1]; omega
    have w2 : IntKind.i64.wrap (M 5 * z) = Y2 := by rw [IntKind.wrap_i64, ← hY2]; omega
    have w3 : IntKind.i64.wrap (Y0 + Y1) = Y3 := by rw [IntKind.wrap_i64]; omega
    have w4 : IntKind.i64.wrap (Y3 + Y2) = Y4 := by rw [IntKind.wrap_i64]; omega
    have w5 : IntKind.i64.wrap (Y4 + T 1) = X1 := by rw [IntKind.wrap_i64]; omega
    have HX1 : Hid (X1 = mvX M T x y z 1) := by show _ = _; rw [hX1, hY4, hY3, hY0, hY1, hY2]; rfl
    have bX1 : -4000000000000 ≤ X1 ∧ X1 ≤ 4000000000000 := by omega
    clear hY0 hY1 hY2 hY3 hY4 hX1 d0 d1 d2 d3
    go_cut [] (fun wc => St w [(Pb, [.int .i64 X0, .int .i64 X1, .int .i64 0, .int .i64 D]), (w.heap.size + 1, [.int .i64 0, .int .i64 0, .int .i64 0, .int .i64 0]), (w.heap.size, [.slice (some ⟨b, off, none⟩) 9 c0, .slice (some ⟨b', off', none⟩) 3 c1, .int .i64 D])] [] wc)
    case first =>
      have HSN : Hid (St w [(Pb, [.int .i64 X0, .int .i64 X1, .int .i64 0, .int .i64 D]), (w.heap.size + 1, [.int .i64 0, .int .i64 0, .int .i64 0, .int .i64 0]), (w.heap.size, [.slice (some ⟨b, off, none⟩) 9 c0, .slice (some ⟨b', off', none⟩) 3 c1, .int .i64 D])] [] (wN0.drew.setCell ⟨Pb, 1, none⟩ (.int .i64 X1))) := St.fill (L1 := []) HS3.out.drew 1 (.int .i64 X1)
      obtain ⟨G, hG⟩ : ∃ G : Nat → Value → Prop, G = (fun j v => match j with | 0 => v = .pointer (some ⟨w.heap.size, 0, none⟩) | 1 => v = .slice (some ⟨b, off, none⟩) 9 c0 | 2 => v = .pointer (some ⟨b, off + 3, none⟩) | 3 => v = .int .i64 (M 3) | 4 => v = .int .i64 x | 5 => v = .int .i64 Y0 | 6 => v = .pointer (some ⟨w.heap.size, 0, none⟩) | 7 => v = .slice (some ⟨b, off, none⟩) 9 c0 | 8 => v = .pointer (some ⟨b, off + 4, none⟩) | 9 => v = .int .i64 (M 4) | 10 => v = .int .i64 y | 11 => v = .int .i64 Y1 | 12 => v = .int .i64 Y3 | 13 => v = .pointer (some ⟨w.heap.size, 0, none⟩) | 14 => v = .slice (some ⟨b, off, none⟩) 9 c0 | 15 => v = .pointer (some ⟨b, off + 5, none⟩) | 16 => v = .int .i64 (M 5) | 17 => v = .int .i64 z | 18 => v = .int .i64 Y2 | 19 => v = .int .i64 Y4 | 20 => v = .pointer (some ⟨w.heap.size, 1, none⟩) | 21 => v = .slice (some ⟨b', off', none⟩) 3 c1 | 22 => v = .pointer (some ⟨b', off' + 1, none⟩) | 23 => v = .int .i64 (T 1) | 24 => v = .int .i64 X1 | 25 => v = .pointer (some ⟨Pb, 1, none⟩) | _ => True) := ⟨_, rfl⟩
      have G0 : Hid (∀ v, G 0 v ↔ v = .pointer (some ⟨w.heap.size, 0, none⟩)) := fun v => by rw [hG]; exact Iff.rfl
      have G1 : Hid (∀ v, G 1 v ↔ v = .slice (some ⟨b, off, none⟩) 9 c0) := fun v => by rw [hG]; exact Iff.rfl
      have G2 : Hid (∀ v, G 2 v ↔ v = .pointer (some ⟨b, off + 3, none⟩)) := fun v => by rw [hG]; exact Iff.rfl
      have G3 : Hid (∀ v, G 3 v ↔ v = .int .i64 (M 3)) := fun v => by rw [hG]; exact Iff.rfl
      have G4 : Hid (∀ v, G 4 v ↔ v = .int .i64 x) := fun v => by rw [hG]; exact Iff.rfl
      have G5 : Hid (∀ v, G 5 v ↔ v = .int .i64 Y0) := fun v => by rw [hG]; exact Iff.rfl
      have G6 : Hid (∀ v, G 6 v ↔ v = .pointer (some ⟨w.heap.size, 0, none⟩)) := fun v => by rw [hG]; exact Iff.rfl
      have G7 : Hid (∀ v, G 7 v ↔ v = .slice (some ⟨b, off, none⟩) 9 c0) := fun v => by rw [hG]; exact Iff.rfl
      have G8 : Hid (∀ v, G 8 v ↔ v = .pointer (some ⟨b, off + 4, none⟩)) := fun v => by rw [hG]; exact Iff.rfl
      have G9 : Hid (∀ v, G 9 v ↔ v = .int .i64 (M 4)) := fun v => by rw [hG]; exact Iff.rfl
      have G10 : Hid (∀ v, G 10 v ↔ v = .int .i64 y) := fun v => by rw [hG]; exact Iff.rfl
      have G11 : Hid (∀ v, G 11 v ↔ v = .int .i64 Y1) := fun v => by rw [hG]; exact Iff.rfl
      have G12 : Hid (∀ v, G 12 v ↔ v = .int .i64 Y3) := fun v => by rw [hG]; exact Iff.rfl
      have G13 : Hid (∀ v, G 13 v ↔ v = .pointer (some ⟨w.heap.size, 0, none⟩)) := fun v => by rw [hG]; exact Iff.rfl
      have G14 : Hid (∀ v, G 14 v ↔ v = .slice (some ⟨b, off, none⟩) 9 c0) := fun v => by rw [hG]; exact Iff.rfl
      have G15 : Hid (∀ v, G 15 v ↔ v = .pointer (some ⟨b, off + 5, none⟩)) := fun v => by rw [hG]; exact Iff.rfl
      have G16 : Hid (∀ v, G 16 v ↔ v = .int .i64 (M 5)) := fun v => by rw [hG]; exact Iff.rfl
      have G17 : Hid (∀ v, G 17 v ↔ v = .int .i64 z) := fun v => by rw [hG]; exact Iff.rfl
      have G18 : Hid (∀ v, G 18 v ↔ v = .int .i64 Y2) := fun v => by rw [hG]; exact Iff.rfl
      have G19 : Hid (∀ v, G 19 v ↔ v = .int .i64 Y4) := fun v => by rw [hG]; exact Iff.rfl
      have G20 : Hid (∀ v, G 20 v ↔ v = .pointer (some ⟨w.heap.size, 1, none⟩)) := fun v => by rw [hG]; exact Iff.rfl
      have G21 : Hid (∀ v, G 21 v ↔ v = .slice (some ⟨b', off', none⟩) 3 c1) := fun v => by rw [hG]; exact Iff.rfl
      have G22 : Hid (∀ v, G 22 v ↔ v = .pointer (some ⟨b', off' + 1, none⟩)) := fun v => by rw [hG]; exact Iff.rfl
      have G23 : Hid (∀ v, G 23 v ↔ v = .int .i64 (T 1)) := fun v => by rw [hG]; exact Iff.rfl
      have G24 : Hid (∀ v, G 24 v ↔ v = .int .i64 X1) := fun v => by rw [hG]; exact Iff.rfl
      have G25 : Hid (∀ v, G 25 v ↔ v = .pointer (some ⟨Pb, 1, none⟩)) := fun v => by rw [hG]; exact Iff.rfl
      have G26 : Hid (∀ v, G 26 v) := fun v => by rw [hG]; trivial
      clear hG
      obtain ⟨PP, hPP⟩ : ∃ P : World → Prop, P = (fun wx => wx = wN0.drew.setCell ⟨Pb, 1, none⟩ (.int .i64 X1)) := ⟨_, rfl⟩
      refine region_opsU (sR 26 wN0) (sF 26 G PP) (by kernel_rfl) (by kernel_rfl) (by kernel_rfl) (fun _ => rfl) ?_ ?_
      · refine ⟨?_, ?_, ?_, ?_, ?_, ?_, ?_, ?_, ?_, ?_, ?_, ?_, ?_, ?_, ?_, ?_, ?_, ?_, ?_, ?_, ?_, ?_, ?_, ?_, ?_, ?_, ?_, trivial⟩
        · intro u w21 au hau hu hF hp' K hK
          have t4 : au.tmps[4]?.getD undef = .pointer (some ⟨w.heap.size, 0, none⟩) := by rw [hau.out]; kernel_rfl
          refine step_plain rfl ?_
          go_simp
          exact hK.out (.pointer (some ⟨w.heap.size, 0, none⟩)) _ (sR_up hF 0 (by omega) _) (sF_val 0 (by omega) ((G0.out _).2 rfl)) (fun j hj hf h => sF_up 0 _ j hj (fun e => by subst e; exact absurd (Eq.trans (Eq.symm (by kernel_rfl)) hf) Bool.false_ne_true) h)
        · intro u w21 au hau hu hF hp' K hK
          have h0 : u 0 = .pointer (some ⟨w.heap.size, 0, none⟩) := (G0.out _).1 (PreF.get hp' 0 (by kernel_rfl)).1
          have t59 : au.tmps[59]?.getD undef = u 0 := by rw [hau.out]; kernel_rfl
          rw [h0] at t59
          have hw : w21 = wN0.drew := hF ((hu.out 26 (by decide) (.inr (by kernel_rfl))).trans (by kernel_rfl))
          have xc : w21.cell? ⟨w.heap.size, 0, none⟩ = some (.slice (some ⟨b, off, none⟩) 9 c0) := by rw [hw]; exact HS3.out.cell 2 rfl 0 rfl
          clear hw
          refine step_plain rfl ?_
          go_simp
          exact hK.out (.slice (some ⟨b, off, none⟩) 9 c0) _ (sR_up hF 1 (by omega) _) (sF_val 1 (by omega) ((G1.out _).2 rfl)) (fun j hj hf h => sF_up 1 _ j hj (fun e => by subst e; exact absurd (Eq.trans (Eq.symm (by kernel_rfl)) hf) Bool.false_ne_true) h)
        · intro u w21 au hau hu hF hp' K hK
          have h1 : u 1 = .slice (some ⟨b, off, none⟩) 9 c0 := (G1.out _).1 (PreF.get hp' 1 (by kernel_rfl)).1
          have t60 : au.tmps[60]?.getD undef = u 1 := by rw [hau.out]; kernel_rfl
          rw [h1] at t60
          refine step_plain rfl ?_
          go_simp
          exact hK.out (.pointer (some ⟨b, off + 3, none⟩)) _ (sR_up hF 2 (by omega) _) (sF_val 2 (by omega) ((G2.out _).2 rfl)) (fun j hj hf h => sF_up 2 _ j hj (fun e => by subst e; exact absurd (Eq.trans (Eq.symm (by kernel_rfl)) hf) Bool.false_ne_true) h)
        · intro u w21 au hau hu hF hp' K hK
          have h2 : u 2 = .pointer (some ⟨b, off + 3, none⟩) := (G2.out _).1 (PreF.get hp' 2 (by kernel_rfl)).1
          have t61 : au.tmps[61]?.getD undef = u 2 := by rw [hau.out]; kernel_rfl
          rw [h2] at t61
          have hw : w21 = wN0.drew := hF ((hu.out 26 (by decide) (.inr (by kernel_rfl))).trans (by kernel_rfl))
          have xc : w21.cell? ⟨b, off + 3, none⟩ = some (.int .i64 (M 3)) := by rw [hw]; exact m3.out
          clear hw
          refine step_plain rfl ?_
          go_simp
          exact hK.out (.int .i64 (M 3)) _ (sR_up hF 3 (by omega) _) (sF_val 3 (by omega) ((G3.out _).2 rfl)) (fun j hj hf h => sF_up 3 _ j hj (fun e => by subst e; exact absurd (Eq.trans (Eq.symm (by kernel_rfl)) hf) Bool.false_ne_true) h)
        · intro u w21 au hau hu hF hp' K hK
          have t1 : au.tmps[1]?.getD undef = .int .i64 x := by rw [hau.out]; kernel_rfl
          refine step_plain rfl ?_
          go_simp
          exact hK.out (.int .i64 x) _ (sR_up hF 4 (by omega) _) (sF_val 4 (by omega) ((G4.out _).2 rfl)) (fun j hj hf h => sF_up 4 _ j hj (fun e => by subst e; exact absurd (Eq.trans (Eq.symm (by kernel_rfl)) hf) Bool.false_ne_true) h)
        · intro u w21 au hau hu hF hp' K hK
          have h3 : u 3 = .int .i64 (M 3) := (G3.out _).1 (PreF.get hp' 3 (by kernel_rfl)).1
          have t62 : au.tmps[62]?.getD undef = u 3 := by rw [hau.out]; kernel_rfl
          rw [h3] at t62
          have h4 : u 4 = .int .i64 x := (G4.out _).1 (PreF.get hp' 4 (by kernel_rfl)).1
          have t63 : au.tmps[63]?.getD undef = u 4 := by rw [hau.out]; kernel_rfl
          rw [h4] at t63
          refine step_plain rfl ?_
          go_simp
          exact hK.out (.int .i64 Y0) _ (sR_up hF 5 (by omega) _) (sF_val 5 (by omega) ((G5.out _).2 rfl)) (fun j hj hf h => sF_up 5 _ j hj (fun e => by subst e; exact absurd (Eq.trans (Eq.symm (by kernel_rfl)) hf) Bool.false_ne_true) h)
        · intro u w21 au hau hu hF hp' K hK
          have t4 : au.tmps[4]?.getD undef = .pointer (some ⟨w.heap.size, 0, none⟩) := by rw [hau.out]; kernel_rfl
          refine step_plain rfl ?_
          go_simp
          exact hK.out (.pointer (some ⟨w.heap.size, 0, none⟩)) _ (sR_up hF 6 (by omega) _) (sF_val 6 (by omega) ((G6.out _).2 rfl)) (fun j hj hf h => sF_up 6 _ j hj (fun e => by subst e; exact absurd (Eq.trans (Eq.symm (by kernel_rfl)) hf) Bool.false_ne_true) h)
        · intro u w21 au hau hu hF hp' K hK
          have h6 : u 6 = .pointer (some ⟨w.heap.size, 0, none⟩) := (G6.out _).1 (PreF.get hp' 6 (by kernel_rfl)).1
          have t65 : au.tmps[65]?.getD undef = u 6 := by rw [hau.out]; kernel_rfl
          rw [h6] at t65
          have hw : w21 = wN0.drew := hF ((hu.out 26 (by decide) (.inr (by kernel_rfl))).trans (by kernel_rfl))
          have xc : w21.cell? ⟨w.heap.size, 0, none⟩ = some (.slice (some ⟨b, off, none⟩) 9 c0) := by rw [hw]; exact HS3.out.cell 2 rfl 0 rfl
          clear hw
          refine step_plain rfl ?_
          go_simp
          exact hK.out (.slice (some ⟨b, off, none⟩) 9 c0) _ (sR_up hF 7 (by omega) _) (sF_val 7 (by omega) ((G7.out _).2 rfl)) (fun j hj hf h => sF_up 7 _ j hj (fun e => by subst e; exact absurd (Eq.trans (Eq.symm (by kernel_rfl)) hf) Bool.false_ne_true) h)
        · intro u w21 au hau hu hF hp' K hK
          have h7 : u 7 = .slice (some ⟨b, off, none⟩) 9 c0 := (G7.out _).1 (PreF.get hp' 7 (by kernel_rfl)).1
          have t66 : au.tmps[66]?.getD undef = u 7 := by rw [hau.out]; kernel_rfl
          rw [h7] at t66
          refine step_plain rfl ?_
          go_simp
          exact hK.out (.pointer (some ⟨b, off + 4, none⟩)) _ (sR_up hF 8 (by omega) _) (sF_val 8 (by omega) ((G8.out _).2 rfl)) (fun j hj hf h => sF_up 8 _ j hj (fun e => by subst e; exact absurd (Eq.trans (Eq.symm (by kernel_rfl)) hf) Bool.false_ne_true) h)
        · intro u w21 au hau hu hF hp' K hK
          have h8 : u 8 = .pointer (some ⟨b, off + 4, none⟩) := (G8.out _).1 (PreF.get hp' 8 (by kernel_rfl)).1
          have t67 : au.tmps[67]?.getD undef = u 8 := by rw [hau.out]; kernel_rfl
          rw [h8] at t67
          have hw : w21 = wN0.drew := hF ((hu.out 26 (by decide) (.inr (by kernel_rfl))).trans (by kernel_rfl))
          have xc : w21.cell? ⟨b, off + 4, none⟩ = some (.int .i64 (M 4)) := by rw [hw]; exact m4.out
          clear hw
          refine step_plain rfl ?_
          go_simp
          exact hK.out (.int .i64 (M 4)) _ (sR_up hF 9 (by omega) _) (sF_val 9 (by omega) ((G9.out _).2 rfl)) (fun j hj hf h => sF_up 9 _ j hj (fun e => by subst e; exact absurd (Eq.trans (Eq.symm (by kernel_rfl)) hf) Bool.false_ne_true) h)
        · intro u w21 au hau hu hF hp' K hK
          have t2 : au.tmps[2]?.getD undef = .int .i64 y := by rw [hau.out]; kernel_rfl
          refine step_plain rfl ?_
          go_simp
          exact hK.out (.int .i64 y) _ (sR_up hF 10 (by omega) _) (sF_val 10 (by omega) ((G10.out _).2 rfl)) (fun j hj hf h => sF_up 10 _ j hj (fun e => by subst e; exact absurd (Eq.trans (Eq.symm (by kernel_rfl)) hf) Bool.false_ne_true) h)
        · intro u w21 au hau hu hF hp' K hK
          have h9 : u 9 = .int .i64 (M 4) := (G9.out _).1 (PreF.get hp' 9 (by kernel_rfl)).1
          have t68 : au.tmps[68]?.getD undef = u 9 := by rw [hau.out]; kernel_rfl
          rw [h9] at t68
          have h10 : u 10 = .int .i64 y := (G10.out _).1 (PreF.get hp' 10 (by kernel_rfl)).1
          have t69 : au.tmps[69]?.getD undef = u 10 := by rw [hau.out]; kernel_rfl
          rw [h10] at t69
          refine step_plain rfl ?_
          go_simp
          exact hK.out (.int .i64 Y1) _ (sR_up hF 11 (by omega) _) (sF_val 11 (by omega) ((G11.out _).2 rfl)) (fun j hj hf h => sF_up 11 _ j hj (fun e => by subst e; exact absurd (Eq.trans (Eq.symm (by kernel_rfl)) hf) Bool.false_ne_true) h)
        · intro u w21 au hau hu hF hp' K hK
          have h5 : u 5 = .int .i64 Y0 := (G5.out _).1 (PreF.get hp' 5 (by kernel_rfl)).1
          have t64 : au.tmps[64]?.getD undef = u 5 := by rw [hau.out]; kernel_rfl
          rw [h5] at t64
          have h11 : u 11 = .int .i64 Y1 := (G11.out _).1 (PreF.get hp' 11 (by kernel_rfl)).1
          have t70 : au.tmps[70]?.getD undef = u 11 := by rw [hau.out]; kernel_rfl
          rw [h11] at t70
          refine step_plain rfl ?_
          go_simp
          exact hK.out (.int .i64 Y3) _ (sR_up hF 12 (by omega) _) (sF_val 12 (by omega) ((G12.out _).2 rfl)) (fun j hj hf h => sF_up 12 _ j hj (fun e => by subst e; exact absurd (Eq.trans (Eq.symm (by kernel_rfl)) hf) Bool.false_ne_true) h)
        · intro u w21 au hau hu hF hp' K hK
          have t4 : au.tmps[4]?.getD undef = .pointer (some ⟨w.heap.size, 0, none⟩) := by rw [hau.out]; kernel_rfl
          refine step_plain rfl ?_
          go_simp
          exact hK.out (.pointer (some ⟨w.heap.size, 0, none⟩)) _ (sR_up hF 13 (by omega) _) (sF_val 13 (by omega) ((G13.out _).2 rfl)) (fun j hj hf h => sF_up 13 _ j hj (fun e => by subst e; exact absurd (Eq.trans (Eq.symm (by kernel_rfl)) hf) Bool.false_ne_true) h)
        · intro u w21 au hau hu hF hp' K hK
          have h13 : u 13 = .pointer (some ⟨w.heap.size, 0, none⟩) := (G13.out _).1 (PreF.get hp' 13 (by kernel_rfl)).1
          have t72 : au.tmps[72]?.getD undef = u 13 := by rw [hau.out]; kernel_rfl
          rw [h13] at t72
          have hw : w21 = wN0.drew := hF ((hu.out 26 (by decide) (.inr (by kernel_rfl))).trans (by kernel_rfl))
          have xc : w21.cell? ⟨w.heap.size, 0, none⟩ = some (.slice (some ⟨b, off, none⟩) 9 c0) := by rw [hw]; exact HS3.out.cell 2 rfl 0 rfl
          clear hw
          refine step_plain rfl ?_
          go_simp
          exact hK.out (.slice (some ⟨b, off, none⟩) 9 c0) _ (sR_up hF 14 (by omega) _) (sF_val 14 (by omega) ((G14.out _).2 rfl)) (fun j hj hf h => sF_up 14 _ j hj (fun e => by subst e; exact absurd (Eq.trans (Eq.symm (by kernel_rfl)) hf) Bool.false_ne_true) h)
        · intro u w21 au hau hu hF hp' K hK
          have h14 : u 14 = .slice (some ⟨b, off, none⟩) 9 c0 := (G14.out _).1 (PreF.get hp' 14 (by kernel_rfl)).1
          have t73 : au.tmps[73]?.getD undef = u 14 := by rw [hau.out]; kernel_rfl
          rw [h14] at t73
          refine step_plain rfl ?_
          go_simp
          exact hK.out (.pointer (some ⟨b, off + 5, none⟩)) _ (sR_up hF 15 (by omega) _) (sF_val 15 (by omega) ((G15.out _).2 rfl)) (fun j hj hf h => sF_up 15 _ j hj (fun e => by subst e; exact absurd (Eq.trans (Eq.symm (by kernel_rfl)) hf) Bool.false_ne_true) h)
        · intro u w21 au hau hu hF hp' K hK
          have h15 : u 15 = .pointer (some ⟨b, off + 5, none⟩) := (G15.out _).1 (PreF.get hp' 15 (by kernel_rfl)).1
          have t74 : au.tmps[74]?.getD undef = u 15 := by rw [hau.out]; kernel_rfl
          rw [h15] at t74
          have hw : w21 = wN0.drew := hF ((hu.out 26 (by decide) (.inr (by kernel_rfl))).trans (by kernel_rfl))
          have xc : w21.cell? ⟨b, off + 5, none⟩ = some (.int .i64 (M 5)) := by rw [hw]; exact m5.out
          clear hw
          refine step_plain rfl ?_
          go_simp
          exact hK.out (.int .i64 (M 5)) _ (sR_up hF 16 (by omega) _) (sF_val 16 (by omega) ((G16.out _).2 rfl)) (fun j hj hf h => sF_up 16 _ j hj (fun e => by subst e; exact absurd (Eq.trans (Eq.symm (by kernel_rfl)) hf) Bool.false_ne_true) h)
        · intro u w21 au hau hu hF hp' K hK
          have t3 : au.tmps[3]?.getD undef = .int .i64 z := by rw [hau.out]; kernel_rfl
          refine step_plain rfl ?_
          go_simp
          exact hK.out (.int .i64 z) _ (sR_up hF 17 (by omega) _) (sF_val 17 (by omega) ((G17.out _).2 rfl)) (fun j hj hf h => sF_up 17 _ j hj (fun e => by subst e; exact absurd (Eq.trans (Eq.symm (by kernel_rfl)) hf) Bool.false_ne_true) h)
        · intro u w21 au hau hu hF hp' K hK
          have h16 : u 16 = .int .i64 (M 5) := (G16.out _).1 (PreF.get hp' 16 (by kernel_rfl)).1
          have t75 : au.tmps[75]?.getD undef = u 16 := by rw [hau.out]; kernel_rfl
          rw [h16] at t75
          have h17 : u 17 = .int .i64 z := (G17.out _).1 (PreF.get hp' 17 (by kernel_rfl)).1
          have t76 : au.tmps[76]?.getD undef = u 17 := by rw [hau.out]; kernel_rfl
          rw [h17] at t76
          refine step_plain rfl ?_
          go_simp
          exact hK.out (.int .i64 Y2) _ (sR_up hF 18 (by omega) _) (sF_val 18 (by omega) ((G18.out _).2 rfl)) (fun j hj hf h => sF_up 18 _ j hj (fun e => by subst e; exact absurd (Eq.trans (Eq.symm (by kernel_rfl)) hf) Bool.false_ne_true) h)
        · intro u w21 au hau hu hF hp' K hK
          have h12 : u 12 = .int .i64 Y3 := (G12.out _).1 (PreF.get hp' 12 (by kernel_rfl)).1
          have t71 : au.tmps[71]?.getD undef = u 12 := by rw [hau.out]; kernel_rfl
          rw [h12] at t71
          have h18 : u 18 = .int .i64 Y2 := (G18.out _).1 (PreF.get hp' 18 (by kernel_rfl)).1
          have t77 : au.tmps[77]?.getD undef = u 18 := by rw [hau.out]; kernel_rfl
          rw [h18] at t77
          refine step_plain rfl ?_
          go_simp
          exact hK.out (.int .i64 Y4) _ (sR_up hF 19 (by omega) _) (sF_val 19 (by omega) ((G19.out _).2 rfl)) (fun j hj hf h => sF_up 19 _ j hj (fun e => by subst e; exact absurd (Eq.trans (Eq.symm (by kernel_rfl)) hf) Bool.false_ne_true) h)
        · intro u w21 au hau hu hF hp' K hK
          have t4 : au.tmps[4]?.getD undef = .pointer (some ⟨w.heap.size, 0, none⟩) := by rw [hau.out]; kernel_rfl
          refine step_plain rfl ?_
          go_simp
          exact hK.out (.pointer (some ⟨w.heap.size, 1, none⟩)) _ (sR_up hF 20 (by omega) _) (sF_val 20 (by omega) ((G20.out _).2 rfl)) (fun j hj hf h => sF_up 20 _ j hj (fun e => by subst e; exact absurd (Eq.trans (Eq.symm (by kernel_rfl)) hf) Bool.false_ne_true) h)
        · intro u w21 au hau hu hF hp' K hK
          have h20 : u 20 = .pointer (some ⟨w.heap.size, 1, none⟩) := (G20.out _).1 (PreF.get hp' 20 (by kernel_rfl)).1
          have t79 : au.tmps[79]?.getD undef = u 20 := by rw [hau.out]; kernel_rfl
          rw [h20] at t79
          have hw : w21 = wN0.drew := hF ((hu.out 26 (by decide) (.inr (by kernel_rfl))).trans (by kernel_rfl))
          have xc : w21.cell? ⟨w.heap.size, 1, none⟩ = some (.slice (some ⟨b', off', none⟩) 3 c1) := by rw [hw]; exact HS3.out.cell 2 rfl 1 rfl
          clear hw
          refine step_plain rfl ?_
          go_simp
          exact hK.out (.slice (some ⟨b', off', none⟩) 3 c1) _ (sR_up hF 21 (by omega) _) (sF_val 21 (by omega) ((G21.out _).2 rfl)) (fun j hj hf h => sF_up 21 _ j hj (fun e => by subst e; exact absurd (Eq.trans (Eq.symm (by kernel_rfl)) hf) Bool.false_ne_true) h)
        · intro u w21 au hau hu hF hp' K hK
          have h21 : u 21 = .slice (some ⟨b', off', none⟩) 3 c1 := (G21.out _).1 (PreF.get hp' 21 (by kernel_rfl)).1
          have t80 : au.tmps[80]?.getD undef = u 21 := by rw [hau.out]; kernel_rfl
          rw [h21] at t80
          refine step_plain rfl ?_
          go_simp
          exact hK.out (.pointer (some ⟨b', off' + 1, none⟩)) _ (sR_up hF 22 (by omega) _) (sF_val 22 (by omega) ((G22.out _).2 rfl)) (fun j hj hf h => sF_up 22 _ j hj (fun e => by subst e; exact absurd (Eq.trans (Eq.symm (by kernel_rfl)) hf) Bool.false_ne_true) h)
        · intro u w21 au hau hu hF hp' K hK
          have h22 : u 22 = .pointer (some ⟨b', off' + 1, none⟩) := (G22.out _).1 (PreF.get hp' 22 (by kernel_rfl)).1
          have t81 : au.tmps[81]?.getD undef = u 22 := by rw [hau.out]; kernel_rfl
          rw [h22] at t81
          have hw : w21 = wN0.drew := hF ((hu.out 26 (by decide) (.inr (by kernel_rfl))).trans (by kernel_rfl))
          have xc : w21.cell? ⟨b', off' + 1, none⟩ = some (.int .i64 (T 1)) := by rw [hw]; exact t1'.out
          clear hw
          refine step_plain rfl ?_
          go_simp
          exact hK.out (.int .i64 (T 1)) _ (sR_up hF 23 (by omega) _) (sF_val 23 (by omega) ((G23.out _).2 rfl)) (fun j hj hf h => sF_up 23 _ j hj (fun e => by subst e; exact absurd (Eq.trans (Eq.symm (by kernel_rfl)) hf) Bool.false_ne_true) h)
        · intro u w21 au hau hu hF hp' K hK
          have h19 : u 19 = .int .i64 Y4 := (G19.out _).1 (PreF.get hp' 19 (by kernel_rfl)).1
          have t78 : au.tmps[78]?.getD undef = u 19 := by rw [hau.out]; kernel_rfl
          rw [h19] at t78
          have h23 : u 23 = .int .i64 (T 1) := (G23.out _).1 (PreF.get hp' 23 (by kernel_rfl)).1
          have t82 : au.tmps[82]?.getD undef = u 23 := by rw [hau.out]; kernel_rfl
          rw [h23] at t82
          refine step_plain rfl ?_
          go_simp
          exact hK.out (.int .i64 X1) _ (sR_up hF 24 (by omega) _) (sF_val 24 (by omega) ((G24.out _).2 rfl)) (fun j hj hf h => sF_up 24 _ j hj (fun e => by subst e; exact absurd (Eq.trans (Eq.symm (by kernel_rfl)) hf) Bool.false_ne_true) h)
        · intro u w21 au hau hu hF hp' K hK
          have t9 : au.tmps[9]?.getD undef = .pointer (some ⟨Pb, 0, none⟩) := by rw [hau.out]; kernel_rfl
          refine step_plain rfl ?_
          go_simp
          exact hK.out (.pointer (some ⟨Pb, 1, none⟩)) _ (sR_up hF 25 (by omega) _) (sF_val 25 (by omega) ((G25.out _).2 rfl)) (fun j hj hf h => sF_up 25 _ j hj (fun e => by subst e; exact absurd (Eq.trans (Eq.symm (by kernel_rfl)) hf) Bool.false_ne_true) h)
        · intro u w21 au hau hu hF hp' K hK
          have h25 : u 25 = .pointer (some ⟨Pb, 1, none⟩) := (G25.out _).1 (PreF.get hp' 25 (by kernel_rfl)).1
          have t84 : au.tmps[84]?.getD undef = u 25 := by rw [hau.out]; kernel_rfl
          rw [h25] at t84
          have h24 : u 24 = .int .i64 X1 := (G24.out _).1 (PreF.get hp' 24 (by kernel_rfl)).1
          have t83 : au.tmps[83]?.getD undef = u 24 := by rw [hau.out]; kernel_rfl
          rw [h24] at t83
          have hw : w21 = wN0.drew := hF ((hu.out 26 (by decide) (.inl rfl)).trans (by kernel_rfl))
          have xc : w21.cell? ⟨Pb, 1, none⟩ = some (.int .i64 0) := by rw [hw]; exact HS3.out.cell 0 rfl 1 rfl
          have xf : w21.frozen? ⟨Pb, 1, none⟩ = false := by rw [hw]; exact HS3.out.free 0 rfl 1 rfl
          have HW21 := hide hw
          clear hw
          refine step_plain rfl ?_
          go_simp
          exact hK.out (.bool true) _ (sR_st (by simp [undef])) (sF_st (G26.out _) (by rw [hPP, HW21.out])) (fun j hj _ h => sF_keep _ j hj h)
      · intro u w30 hF hall
        have hp := (hall 26 (by decide)).2 rfl
        rw [hPP] at hp
        have HE := hide hp
        clear hF hall hp
        simp only [rgPut, Act.put]
        go_simp
        go_wp2_with fail
        go_meet
        rw [HE.out]
        exact HSN.out
    case rest =>
      obtain ⟨wN1, hwc⟩ : ∃ wn, wn = wc := ⟨_, rfl⟩
      rw [← hwc] at hcut
      rw [← hwc]
      clear hwc
      have HS4 := hide hcut
      clear hcut HS3 w0 w1' w2 w3 w4 w5 m3 m4 m5 t1'
      go_upto_region 6 with fail
      have m6 : Hid (wN1.cell? ⟨b, off + 6, none⟩ = some (Value.int .i64 (M 6))) := by obtain ⟨_, _, heq, hz⟩ := (HP0.out.below HS4.out.below).at (show 6 < 9 by omega); cases heq; exact hz
      have m7 : Hid (wN1.cell? ⟨b, off + 7, none⟩ = some (Value.int .i64 (M 7))) := by obtain ⟨_, _, heq, hz⟩ := (HP0.out.below HS4.out.below).at (show 7 < 9 by omega); cases heq; exact hz
      have m8 : Hid (wN1.cell? ⟨b, off + 8, none⟩ = some (Value.int .i64 (M 8))) := by obtain ⟨_, _, heq, hz⟩ := (HP0.out.below HS4.out.below).at (show 8 < 9 by omega); cases heq; exact hz
      have t2' : Hid (wN1.cell? ⟨b', off' + 2, none⟩ = some (Value.int .i64 (T 2))) := by obtain ⟨_, _, heq, hz⟩ := (HP1.out.below HS4.out.below).at (show 2 < 3 by omega); cases heq; exact hz
      have d0 := mul_b6 (bM 6 (by omega)) bx
      have d1 := mul_b6 (bM 7 (by omega)) by'
      have d2 := mul_b6 (bM 8 (by omega)) bz
      have d3 := bT 2 (by omega)
      obtain ⟨Y0, hY0⟩ : ∃ Y, Y = M 6 * x := ⟨_, rfl⟩
      obtain ⟨Y1, hY1⟩ : ∃ Y, Y = M 7 * y := ⟨_, rfl⟩
      obtain ⟨Y2, hY2⟩ : ∃ Y, Y = M 8 * z := ⟨_, rfl⟩
      rw [← hY0] at d0
      rw [← hY1] at d1
      rw [← hY2] at d2
      obtain ⟨Y3, hY3⟩ : ∃ Y, Y = Y0 + Y1 := ⟨_, rfl⟩
      obtain ⟨Y4, hY4⟩ : ∃ Y, Y = Y3 + Y2 := ⟨_, rfl⟩
      obtain ⟨X2, hX2⟩ : ∃ Y, Y = Y4 + T 2 := ⟨_, rfl⟩
      have w0 : IntKind.i64.wrap (M 6 * x) = Y0 := by rw [IntKind.wrap_i64, ← hY0]; omega
      have w1' : IntKind.i64.wrap (M 7 * y) = Y1 := by rw [IntKind.wrap_i64, ← hY1]; omega
      have w2 : IntKind.i64.wrap (M 8 * z) = Y2 := by rw [IntKind.wrap_i64, ← hY2]; omega
      have w3 : IntKind.i64.wrap (Y0 + Y1) = Y3 := by rw [IntKind.wrap_i64]; omega
      have w4 : IntKind.i64.wrap (Y3 + Y2) = Y4 := by rw [IntKind.wrap_i64]; omega
      have w5 : IntKind.i64.wrap (Y4 + T 2) = X2 := by rw [IntKind.wrap_i64]; omega
      have HX2 : Hid (X2 = mvX M T x y z 2) := by show _ = _; rw [hX2, hY4, hY3, hY0, hY1, hY2]; rfl
      have bX2 : -4000000000000 ≤ X2 ∧ X2 ≤ 4000000000000 := by omega
      clear hY0 hY1 hY2 hY3 hY4 hX2 d0 d1 d2 d3
      go_cut [] (fun wc => St w [(Pb, [.int .i64 X0, .int .i64 X1, .int .i64 X2, .int .i64 D]), (w.heap.size + 1, [.int .i64 0, .int .i64 0, .int .i64 0, .int .i64 0]), (w.heap.size, [.slice (some ⟨b, off, none⟩) 9 c0, .slice (some ⟨b', off', none⟩) 3 c1, .int .i64 D])] [] wc)
      case first =>
        have HSN : Hid (St w [(Pb, [.int .i64 X0, .int .i64 X1, .int .i64 X2, .int .i64 D]), (w.heap.size + 1, [.int .i64 0, .int .i64 0, .int .i64 0, .int .i64 0]), (w.heap.size, [.slice (some ⟨b, off, none⟩) 9 c0, .slice (some ⟨b', off', none⟩) 3 c1, .int .i64 D])] [] (wN1.drew.setCell ⟨Pb, 2, none⟩ (.int .i64 X2))) := St.fill (L1 := []) HS4.out.drew 2 (.int .i64 X2)
        obtain ⟨G, hG⟩ : ∃ G : Nat → Value → Prop, G = (fun j v => match j with | 0 => v = .pointer (some ⟨w.heap.size, 0, none⟩) | 1 => v = .slice (some ⟨b, off, none⟩) 9 c0 | 2 => v = .pointer (some ⟨b, off + 6, none⟩) | 3 => v = .int .i64 (M 6) | 4 => v = .int .i64 x | 5 => v = .int .i64 Y0 | 6 => v = .pointer (some ⟨w.heap.size, 0, none⟩) | 7 => v = .slice (some ⟨b, off, none⟩) 9 c0 | 8 => v = .pointer (some ⟨b, off + 7, none⟩) | 9 => v = .int .i64 (M 7) | 10 => v = .int .i64 y | 11 => v = .int .i64 Y1 | 12 => v = .int .i64 Y3 | 13 => v = .pointer (some ⟨w.heap.size, 0, none⟩) | 14 => v = .slice (some ⟨b, off, none⟩) 9 c0 | 15 => v = .pointer (some ⟨b, off + 8, none⟩) | 16 => v = .int .i64 (M 8) | 17 => v = .int .i64 z | 18 => v = .int .i64 Y2 | 19 => v = .int .i64 Y4 | 20 => v = .pointer (some ⟨w.heap.size, 1, none⟩) | 21 => v = .slice (some ⟨b', off', none⟩) 3 c1 | 22 => v = .pointer (some ⟨b', off' + 2, none⟩) | 23 => v = .int .i64 (T 2) | 24 => v = .int .i64 X2 | 25 => v = .pointer (some ⟨Pb, 2, none⟩) | _ => True) := ⟨_, rfl⟩
        have G0 : Hid (∀ v, G 0 v ↔ v = .pointer (some ⟨w.heap.size, 0, none⟩)) := fun v => by rw [hG]; exact Iff.rfl
        have G1 : Hid (∀ v, G 1 v ↔ v = .slice (some ⟨b, off, none⟩) 9 c0) := fun v => by rw [hG]; exact Iff.rfl
        have G2 : Hid (∀ v, G 2 v ↔ v = .pointer (some ⟨b, off + 6, none⟩)) := fun v => by rw [hG]; exact Iff.rfl
        have G3 : Hid (∀ v, G 3 v ↔ v = .int .i64 (M 6)) := fun v => by rw [hG]; exact Iff.rfl
        have G4 : Hid (∀ v, G 4 v ↔ v = .int .i64 x) := fun v => by rw [hG]; exact Iff.rfl
        have G5 : Hid (∀ v, G 5 v ↔ v = .int .i64 Y0) := fun v => by rw [hG]; exact Iff.rfl
        have G6 : Hid (∀ v, G 6 v ↔ v = .pointer (some ⟨w.heap.size, 0, none⟩)) := fun v => by rw [hG]; exact Iff.rfl
        have G7 : Hid (∀ v, G 7 v ↔ v = .slice (some ⟨b, off, none⟩) 9 c0) := fun v => by rw [hG]; exact Iff.rfl
        have G8 : Hid (∀ v, G 8 v ↔ v = .pointer (some ⟨b, off + 7, none⟩)) := fun v => by rw [hG]; exact Iff.rfl
        have G9 : Hid (∀ v, G 9 v ↔ v = .int .i64 (M 7)) := fun v => by rw [hG]; exact Iff.rfl
        have G10 : Hid (∀ v, G 10 v ↔ v = .int .i64 y) := fun v => by rw [hG]; exact Iff.rfl
        have G11 : Hid (∀ v, G 11 v ↔ v = .int .i64 Y1) := fun v => by rw [hG]; exact Iff.rfl
        have G12 : Hid (∀ v, G 12 v ↔ v = .int .i64 Y3) := fun v => by rw [hG]; exact Iff.rfl
        have G13 : Hid (∀ v, G 13 v ↔ v = .pointer (some ⟨w.heap.size, 0, none⟩)) := fun v => by rw [hG]; exact Iff.rfl
        have G14 : Hid (∀ v, G 14 v ↔ v = .slice (some ⟨b, off, none⟩) 9 c0) := fun v => by rw [hG]; exact Iff.rfl
        have G15 : Hid (∀ v, G 15 v ↔ v = .pointer (some ⟨b, off + 8, none⟩)) := fun v => by rw [hG]; exact Iff.rfl
        have G16 : Hid (∀ v, G 16 v ↔ v = .int .i64 (M 8)) := fun v => by rw [hG]; exact Iff.rfl
        have G17 : Hid (∀ v, G 17 v ↔ v = .int .i64 z) := fun v => by rw [hG]; exact Iff.rfl
        have G18 : Hid (∀ v, G 18 v ↔ v = .int .i64 Y2) := fun v => by rw [hG]; exact Iff.rfl
        have G19 : Hid (∀ v, G 19 v ↔ v = .int .i64 Y4) := fun v => by rw [hG]; exact Iff.rfl
        have G20 : Hid (∀ v, G 20 v ↔ v = .pointer (some ⟨w.heap.size, 1, none⟩)) := fun v => by rw [hG]; exact Iff.rfl
        have G21 : Hid (∀ v, G 21 v ↔ v = .slice (some ⟨b', off', none⟩) 3 c1) := fun v => by rw [hG]; exact Iff.rfl
        have G22 : Hid (∀ v, G 22 v ↔ v = .pointer (some ⟨b', off' + 2, none⟩)) := fun v => by rw [hG]; exact Iff.rfl
        have G23 : Hid (∀ v, G 23 v ↔ v = .int .i64 (T 2)) := fun v => by rw [hG]; exact Iff.rfl
        have G24 : Hid (∀ v, G 24 v ↔ v = .int .i64 X2) := fun v => by rw [hG]; exact Iff.rfl
        have G25 : Hid (∀ v, G 25 v ↔ v = .pointer (some ⟨Pb, 2, none⟩)) := fun v => by rw [hG]; exact Iff.rfl
        have G26 : Hid (∀ v, G 26 v) := fun v => by rw [hG]; trivial
        clear hG
        obtain ⟨PP, hPP⟩ : ∃ P : World → Prop, P = (fun wx => wx = wN1.drew.setCell ⟨Pb, 2, none⟩ (.int .i64 X2)) := ⟨_, rfl⟩
        refine region_opsU (sR 26 wN1) (sF 26 G PP) (by kernel_rfl) (by kernel_rfl) (by kernel_rfl) (fun _ => rfl) ?_ ?_
        · refine ⟨?_, ?_, ?_, ?_, ?_, ?_, ?_, ?_, ?_, ?_, ?_, ?_, ?_, ?_, ?_, ?_, ?_, ?_, ?_, ?_, ?_, ?_, ?_, ?_, ?_, ?_, ?_, trivial⟩
          · intro u w21 au hau hu hF hp' K hK
            have t4 : au.tmps[4]?.getD undef = .pointer (some ⟨w.heap.size, 0, none⟩) := by rw [hau.out]; kernel_rfl
            refine step_plain rfl ?_
            go_simp
            exact hK.out (.pointer (some ⟨w.heap.size, 0, none⟩)) _ (sR_up hF 0 (by omega) _) (sF_val 0 (by omega) ((G0.out _).2 rfl)) (fun j hj hf h => sF_up 0 _ j hj (fun e => by subst e; exact absurd (Eq.trans (Eq.symm (by kernel_rfl)) hf) Bool.false_ne_true) h)
          · intro u w21 au hau hu hF hp' K hK
            have h0 : u 0 = .pointer (some ⟨w.heap.size, 0, none⟩) := (G0.out _).1 (PreF.get hp' 0 (by kernel_rfl)).1
            have t85 : au.tmps[85]?.getD undef = u 0 := by rw [hau.out]; kernel_rfl
            rw [h0] at t85
            have hw : w21 = wN1.drew := hF ((hu.out 26 (by decide) (.inr (by kernel_rfl))).trans (by kernel_rfl))
            have xc : w21.cell? ⟨w.heap.size, 0, none⟩ = some (.slice (some ⟨b, off, none⟩) 9 c0) := by rw [hw]; exact HS4.out.cell 2 rfl 0 rfl
            clear hw
            refine step_plain rfl ?_
            go_simp
            exact hK.out (.slice (some ⟨b, off, none⟩) 9 c0) _ (sR_up hF 1 (by omega) _) (sF_val 1 (by omega) ((G1.out _).2 rfl)) (fun j hj hf h => sF_up 1 _ j hj (fun e => by subst e; exact absurd (Eq.trans (Eq.symm (by kernel_rfl)) hf) Bool.false_ne_true) h)
          · intro u w21 au hau hu hF hp' K hK
            have h1 : u 1 = .slice (some ⟨b, off, none⟩) 9 c0 := (G1.out _).1 (PreF.get hp' 1 (by kernel_rfl)).1
            have t86 : au.tmps[86]?.getD undef = u 1 := by rw [hau.out]; kernel_rfl
            rw [h1] at t86
            refine step_plain rfl ?_
            go_simp
            exact hK.out (.pointer (some ⟨b, off + 6, none⟩)) _ (sR_up hF 2 (by omega) _) (sF_val 2 (by omega) ((G2.out _).2 rfl)) (fun j hj hf h => sF_up 2 _ j hj (fun e => by subst e; exact absurd (Eq.trans (Eq.symm (by kernel_rfl)) hf) Bool.false_ne_true) h)
          · intro u w21 au hau hu hF hp' K hK
            have h2 : u 2 = .pointer (some ⟨b, off + 6, none⟩) := (G2.out _).1 (PreF.get hp' 2 (by kernel_rfl)).1
            have t87 : au.tmps[87]?.getD undef = u 2 := by rw [hau.out]; kernel_rfl
            rw [h2] at t87
            have hw : w21 = wN1.drew := hF ((hu.out 26 (by decide) (.inr (by kernel_rfl))).trans (by kernel_rfl))
            have xc : w21.cell? ⟨b, off + 6, none⟩ = some (.int .i64 (M 6)) := by rw [hw]; exact m6.out
            clear hw
            refine step_plain rfl ?_
            go_simp
            exact hK.out (.int .i64 (M 6)) _ (sR_up hF 3 (by omega) _) (sF_val 3 (by omega) ((G3.out _).2 rfl)) (fun j hj hf h => sF_up 3 _ j hj (fun e => by subst e; exact absurd (Eq.trans (Eq.symm (by kernel_rfl)) hf) Bool.false_ne_true) h)
          · intro u w21 au hau hu hF hp' K hK
            have t1 : au.tmps[1]?.getD undef = .int .i64 x := by rw [hau.out]; kernel_rfl
            refine step_plain rfl ?_
            go_simp
            exact hK.out (.int .i64 x) _ (sR_up hF 4 (by omega) _) (sF_val 4 (by omega) ((G4.out _).2 rfl)) (fun j hj hf h => sF_up 4 _ j hj (fun e => by subst e; exact absurd (Eq.trans (Eq.symm (by kernel_rfl)) hf) Bool.false_ne_true) h)
          · intro u w21 au hau hu hF hp' K hK
            have h3 : u 3 = .int .i64 (M 6) := (G3.out _).1 (PreF.get hp' 3 (by kernel_rfl)).1
            have t88 : au.tmps[88]?.getD undef = u 3 := by rw [hau.out]; kernel_rfl
            rw [h3] at t88
            have h4 : u 4 = .int .i64 x := (G4.out _).1 (PreF.get hp' 4 (by kernel_rfl)).1
            have t89 : au.tmps[89]?.getD undef = u 4 := by rw [hau.out]; kernel_rfl
            rw [h4] at t89
            refine step_plain rfl ?_
            go_simp
            exact hK.out (.int .i64 Y0) _ (sR_up hF 5 (by omega) _) (sF_val 5 (by omega) ((G5.out _).2 rfl)) (fun j hj hf h => sF_up 5 _ j hj (fun e => by subst e; exact absurd (Eq.trans (Eq.symm (by kernel_rfl)) hf) Bool.false_ne_true) h)
          · intro u w21 au hau hu hF hp' K hK
            have t4 : au.tmps[4]?.getD undef = .pointer (some ⟨w.heap.size, 0, none⟩) := by rw [hau.out]; kernel_rfl
            refine step_plain rfl ?_
            go_simp
            exact hK.out (.pointer (some ⟨w.heap.size, 0, none⟩)) _ (sR_up hF 6 (by omega) _) (sF_val 6 (by omega) ((G6.out _).2 rfl)) (fun j hj hf h => sF_up 6 _ j hj (fun e => by subst e; exact absurd (Eq.trans (Eq.symm (by kernel_rfl)) hf) Bool.false_ne_true) h)
          · intro u w21 au hau hu hF hp' K hK
            have h6 : u 6 = .pointer (some ⟨w.heap.size, 0, none⟩) := (G6.out _).1 (PreF.get hp' 6 (by kernel_rfl)).1
            have t91 : au.tmps[91]?.getD undef = u 6 := by rw [hau.out]; kernel_rfl
            rw [h6] at t91
            have hw : w21 = wN1.drew := hF ((hu.out 26 (by decide) (.inr (by kernel_rfl))).trans (by kernel_rfl))
            have xc : w21.cell? ⟨w.heap.size, 0, none⟩ = some (.slice (some ⟨b, off, none⟩) 9 c0) := by rw [hw]; exact HS4.out.cell 2 rfl 0 rfl
            clear hw
            refine step_plain rfl ?_
            go_simp
            exact hK.out (.slice (some ⟨b, off, none⟩) 9 c0) _ (sR_up hF 7 (by omega) _) (sF_val 7 (by omega) ((G7.out _).2 rfl)) (fun j hj hf h => sF_up 7 _ j hj (fun e => by subst e; exact absurd (Eq.trans (Eq.symm (by kernel_rfl)) hf) Bool.false_ne_true) h)
          · intro u w21 au hau hu hF hp' K hK
            have h7 : u 7 = .slice (some ⟨b, off, none⟩) 9 c0 := (G7.out _).1 (PreF.get hp' 7 (by kernel_rfl)).1
            have t92 : au.tmps[92]?.getD undef = u 7 := by rw [hau.out]; kernel_rfl
            rw [h7] at t92
            refine step_plain rfl ?_
            go_simp
            exact hK.out (.pointer (some ⟨b, off + 7, none⟩)) _ (sR_up hF 8 (by omega) _) (sF_val 8 (by omega) ((G8.out _).2 rfl)) (fun j hj hf h => sF_up 8 _ j hj (fun e => by subst e; exact absurd (Eq.trans (Eq.symm (by kernel_rfl)) hf) Bool.false_ne_true) h)
          · intro u w21 au hau hu hF hp' K hK
            have h8 : u 8 = .pointer (some ⟨b, off + 7, none⟩) := (G8.out _).1 (PreF.get hp' 8 (by kernel_rfl)).1
            have t93 : au.tmps[93]?.getD undef = u 8 := by rw [hau.out]; kernel_rfl
            rw [h8] at t93
            have hw : w21 = wN1.drew := hF ((hu.out 26 (by decide) (.inr (by kernel_rfl))).trans (by kernel_rfl))
            have xc : w21.cell? ⟨b, off + 7, none⟩ = some (.int .i64 (M 7)) := by rw [hw]; exact m7.out
            clear hw
            refine step_plain rfl ?_
            go_simp
            exact hK.out (.int .i64 (M 7)) _ (sR_up hF 9 (by omega) _) (sF_val 9 (by omega) ((G9.out _).2 rfl)) (fun j hj hf h => sF_up 9 _ j hj (fun e => by subst e; exact absurd (Eq.trans (Eq.symm (by kernel_rfl)) hf) Bool.false_ne_true) h)
          · intro u w21 au hau hu hF hp' K hK
            have t2 : au.tmps[2]?.getD undef = .int .i64 y := by rw [hau.out]; kernel_rfl
            refine step_plain rfl ?_
            go_simp
            exact hK.out (.int .i64 y) _ (sR_up hF 10 (by omega) _) (sF_val 10 (by omega) ((G10.out _).2 rfl)) (fun j hj hf h => sF_up 10 _ j hj (fun e => by subst e; exact absurd (Eq.trans (Eq.symm (by kernel_rfl)) hf) Bool.false_ne_true) h)
          · intro u w21 au hau hu hF hp' K hK
            have h9 : u 9 = .int .i64 (M 7) := (G9.out _).1 (PreF.get hp' 9 (by kernel_rfl)).1
            have t94 : au.tmps[94]?.getD undef = u 9 := by rw [hau.out]; kernel_rfl
            rw [h9] at t94
            have h10 : u 10 = .int .i64 y := (G10.out _).1 (PreF.get hp' 10 (by kernel_rfl)).1
            have t95 : au.tmps[95]?.getD undef = u 10 := by rw [hau.out]; kernel_rfl
            rw [h10] at t95
            refine step_plain rfl ?_
            go_simp
            exact hK.out (.int .i64 Y1) _ (sR_up hF 11 (by omega) _) (sF_val 11 (by omega) ((G11.out _).2 rfl)) (fun j hj hf h => sF_up 11 _ j hj (fun e => by subst e; exact absurd (Eq.trans (Eq.symm (by kernel_rfl)) hf) Bool.false_ne_true) h)
          · intro u w21 au hau hu hF hp' K hK
            have h5 : u 5 = .int .i64 Y0 := (G5.out _).1 (PreF.get hp' 5 (by kernel_rfl)).1
            have t90 : au.tmps[90]?.getD undef = u 5 := by rw [hau.out]; kernel_rfl
            rw [h5] at t90
            have h11 : u 11 = .int .i64 Y1 := (G11.out _).1 (PreF.get hp' 11 (by kernel_rfl)).1
            have t96 : au.tmps[96]?.getD undef = u 11 := by rw [hau.out]; kernel_rfl
            rw [h11] at t96
            refine step_plain rfl ?_
            go_simp
            exact hK.out (.int .i64 Y3) _ (sR_up hF 12 (by omega) _) (sF_val 12 (by omega) ((G12.out _).2 rfl)) (fun j hj hf h => sF_up 12 _ j hj (fun e => by subst e; exact absurd (Eq.trans (Eq.symm (by kernel_rfl)) hf) Bool.false_ne_true) h)
          · intro u w21 au hau hu hF hp' K hK
            have t4 : au.tmps[4]?.getD undef = .pointer (some ⟨w.heap.size, 0, none⟩) := by rw [hau.out]; kernel_rfl
            refine step_plain rfl ?_
            go_simp
            exact hK.out (.pointer (some ⟨w.heap.size, 0, none⟩)) _ (sR_up hF 13 (by omega) _) (sF_val 13 (by omega) ((G13.out _).2 rfl)) (fun j hj hf h => sF_up 13 _ j hj (fun e => by subst e; exact absurd (Eq.trans (Eq.symm (by kernel_rfl)) hf) Bool.false_ne_true) h)
          · intro u w21 au hau hu hF hp' K hK
            have h13 : u 13 = .pointer (some ⟨w.heap.size, 0, none⟩) := (G13.out _).1 (PreF.get hp' 13 (by kernel_rfl)).1
            have t98 : au.tmps[98]?.getD undef = u 13 := by rw [hau.out]; kernel_rfl
            rw [h13] at t98
            have hw : w21 = wN1.drew := hF ((hu.out 26 (by decide) (.inr (by kernel_rfl))).trans (by kernel_rfl))
            have xc : w21.cell? ⟨w.heap.size, 0, none⟩ = some (.slice (some ⟨b, off, none⟩) 9 c0) := by rw [hw]; exact HS4.out.cell 2 rfl 0 rfl
            clear hw
            refine step_plain rfl ?_
            go_simp
            exact hK.out (.slice (some ⟨b, off, none⟩) 9 c0) _ (sR_up hF 14 (by omega) _) (sF_val 14 (by omega) ((G14.out _).2 rfl)) (fun j hj hf h => sF_up 14 _ j hj (fun e => by subst e; exact absurd (Eq.trans (Eq.symm (by kernel_rfl)) hf) Bool.false_ne_true) h)
          · intro u w21 au hau hu hF hp' K hK
            have h14 : u 14 = .slice (some ⟨b, off, none⟩) 9 c0 := (G14.out _).1 (PreF.get hp' 14 (by kernel_rfl)).1
            have t99 : au.tmps[99]?.getD undef = u 14 := by rw [hau.out]; kernel_rfl
            rw [h14] at t99
            refine step_plain rfl ?_
            go_simp
            exact hK.out (.pointer (some ⟨b, off + 8, none⟩)) _ (sR_up hF 15 (by omega) _) (sF_val 15 (by omega) ((G15.out _).2 rfl)) (fun j hj hf h => sF_up 15 _ j hj (fun e => by subst e; exact absurd (Eq.trans (Eq.symm (by kernel_rfl)) hf) Bool.false_ne_true) h)
          · intro u w21 au hau hu hF hp' K hK
            have h15 : u 15 = .pointer (some ⟨b, off + 8, none⟩) := (G15.out _).1 (PreF.get hp' 15 (by kernel_rfl)).1
            have t100 : au.tmps[100]?.getD undef = u 15 := by rw [hau.out]; kernel_rfl
            rw [h15] at t100
            have hw : w21 = wN1.drew := hF ((hu.out 26 (by decide) (.inr (by kernel_rfl))).trans (by kernel_rfl))
            have xc : w21.cell? ⟨b, off + 8, none⟩ = some (.int .i64 (M 8)) := by rw [hw]; exact m8.out
            clear hw
            refine step_plain rfl ?_
            go_simp
            exact hK.out (.int .i64 (M 8)) _ (sR_up hF 16 (by omega) _) (sF_val 16 (by omega) ((G16.out _).2 rfl)) (fun j hj hf h => sF_up 16 _ j hj (fun e => by subst e; exact absurd (Eq.trans (Eq.symm (by kernel_rfl)) hf) Bool.false_ne_true) h)
          · intro u w21 au hau hu hF hp' K hK
            have t3 : au.tmps[3]?.getD undef = .int .i64 z := by rw [hau.out]; kernel_rfl
            refine step_plain rfl ?_
            go_simp
            exact hK.out (.int .i64 z) _ (sR_up hF 17 (by omega) _) (sF_val 17 (by omega) ((G17.out _).2 rfl)) (fun j hj hf h => sF_up 17 _ j hj (fun e => by subst e; exact absurd (Eq.trans (Eq.symm (by kernel_rfl)) hf) Bool.false_ne_true) h)
          · intro u w21 au hau hu hF hp' K hK
            have h16 : u 16 = .int .i64 (M 8) := (G16.out _).1 (PreF.get hp' 16 (by kernel_rfl)).1
            have t101 : au.tmps[101]?.getD undef = u 16 := by rw [hau.out]; kernel_rfl
            rw [h16] at t101
            have h17 : u 17 = .int .i64 z := (G17.out _).1 (PreF.get hp' 17 (by kernel_rfl)).1
            have t102 : au.tmps[102]?.getD undef = u 17 := by rw [hau.out]; kernel_rfl
            rw [h17] at t102
            refine step_plain rfl ?_
            go_simp
            exact hK.out (.int .i64 Y2) _ (sR_up hF 18 (by omega) _) (sF_val 18 (by omega) ((G18.out _).2 rfl)) (fun j hj hf h => sF_up 18 _ j hj (fun e => by subst e; exact absurd (Eq.trans (Eq.symm (by kernel_rfl)) hf) Bool.false_ne_true) h)
          · intro u w21 au hau hu hF hp' K hK
            have h12 : u 12 = .int .i64 Y3 := (G12.out _).1 (PreF.get hp' 12 (by kernel_rfl)).1
            have t97 : au.tmps[97]?.getD undef = u 12 := by rw [hau.out]; kernel_rfl
            rw [h12] at t97
            have h18 : u 18 = .int .i64 Y2 := (G18.out _).1 (PreF.get hp' 18 (by kernel_rfl)).1
            have t103 : au.tmps[103]?.getD undef = u 18 := by rw [hau.out]; kernel_rfl
            rw [h18] at t103
            refine step_plain rfl ?_
            go_simp
            exact hK.out (.int .i64 Y4) _ (sR_up hF 19 (by omega) _) (sF_val 19 (by omega) ((G19.out _).2 rfl)) (fun j hj hf h => sF_up 19 _ j hj (fun e => by subst e; exact absurd (Eq.trans (Eq.symm (by kernel_rfl)) hf) Bool.false_ne_true) h)
          · intro u w21 au hau hu hF hp' K hK
            have t4 : au.tmps[4]?.getD undef = .pointer (some ⟨w.heap.size, 0, none⟩) := by rw [hau.out]; kernel_rfl
            refine step_plain rfl ?_
            go_simp
            exact hK.out (.pointer (some ⟨w.heap.size, 1, none⟩)) _ (sR_up hF 20 (by omega) _) (sF_val 20 (by omega) ((G20.out _).2 rfl)) (fun j hj hf h => sF_up 20 _ j hj (fun e => by subst e; exact absurd (Eq.trans (Eq.symm (by kernel_rfl)) hf) Bool.false_ne_true) h)
          · intro u w21 au hau hu hF hp' K hK
            have h20 : u 20 = .pointer (some ⟨w.heap.size, 1, none⟩) := (G20.out _).1 (PreF.get hp' 20 (by kernel_rfl)).1
            have t105 : au.tmps[105]?.getD undef = u 20 := by rw [hau.out]; kernel_rfl
            rw [h20] at t105
            have hw : w21 = wN1.drew := hF ((hu.out 26 (by decide) (.inr (by kernel_rfl))).trans (by kernel_rfl))
            have xc : w21.cell? ⟨w.heap.size, 1, none⟩ = some (.slice (some ⟨b', off', none⟩) 3 c1) := by rw [hw]; exact HS4.out.cell 2 rfl 1 rfl
            clear hw
            refine step_plain rfl ?_
            go_simp
            exact hK.out (.slice (some ⟨b', off', none⟩) 3 c1) _ (sR_up hF 21 (by omega) _) (sF_val 21 (by omega) ((G21.out _).2 rfl)) (fun j hj hf h => sF_up 21 _ j hj (fun e => by subst e; exact absurd (Eq.trans (Eq.symm (by kernel_rfl)) hf) Bool.false_ne_true) h)
          · intro u w21 au hau hu hF hp' K hK
            have h21 : u 21 = .slice (some ⟨b', off', none⟩) 3 c1 := (G21.out _).1 (PreF.get hp' 21 (by kernel_rfl)).1
            have t106 : au.tmps[106]?.getD undef = u 21 := by rw [hau.out]; kernel_rfl
            rw [h21] at t106
            refine step_plain rfl ?_
            go_simp
            exact hK.out (.pointer (some ⟨b', off' + 2, none⟩)) _ (sR_up hF 22 (by omega) _) (sF_val 22 (by omega) ((G22.out _).2 rfl)) (fun j hj hf h => sF_up 22 _ j hj (fun e => by subst e; exact absurd (Eq.trans (Eq.symm (by kernel_rfl)) hf) Bool.false_ne_true) h)
          · intro u w21 au hau hu hF hp' K hK
            have h22 : u 22 = .pointer (some ⟨b', off' + 2, none⟩) := (G22.out _).1 (PreF.get hp' 22 (by kernel_rfl)).1
            have t107 : au.tmps[107]?.getD undef = u 22 := by rw [hau.out]; kernel_rfl
            rw [h22] at t107
            have hw : w21 = wN1.drew := hF ((hu.out 26 (by decide) (.inr (by kernel_rfl))).trans (by kernel_rfl))
            have xc : w21.cell? ⟨b', off' + 2, none⟩ = some (.int .i64 (T 2)) := by rw [hw]; exact t2'.out
            clear hw
            refine step_plain rfl ?_
            go_simp
            exact hK.out (.int .i64 (T 2)) _ (sR_up hF 23 (by omega) _) (sF_val 23 (by omega) ((G23.out _).2 rfl)) (fun j hj hf h => sF_up 23 _ j hj (fun e => by subst e; exact absurd (Eq.trans (Eq.symm (by kernel_rfl)) hf) Bool.false_ne_true) h)
          · intro u w21 au hau hu hF hp' K hK
            have h19 : u 19 = .int .i64 Y4 := (G19.out _).1 (PreF.get hp' 19 (by kernel_rfl)).1
            have t104 : au.tmps[104]?.getD undef = u 19 := by rw [hau.out]; kernel_rfl
            rw [h19] at t104
            have h23 : u 23 = .int .i64 (T 2) := (G23.out _).1 (PreF.get hp' 23 (by kernel_rfl)).1
            have t108 : au.tmps[108]?.getD undef = u 23 := by rw [hau.out]; kernel_rfl
            rw [h23] at t108
            refine step_plain rfl ?_
            go_simp
            exact hK.out (.int .i64 X2) _ (sR_up hF 24 (by omega) _) (sF_val 24 (by omega) ((G24.out _).2 rfl)) (fun j hj hf h => sF_up 24 _ j hj (fun e => by subst e; exact absurd (Eq.trans (Eq.symm (by kernel_rfl)) hf) Bool.false_ne_true) h)
          · intro u w21 au hau hu hF hp' K hK
            have t9 : au.tmps[9]?.getD undef = .pointer (some ⟨Pb, 0, none⟩) := by rw [hau.out]; kernel_rfl
            refine step_plain rfl ?_
            go_simp
            exact hK.out (.pointer (some ⟨Pb, 2, none⟩)) _ (sR_up hF 25 (by omega) _) (sF_val 25 (by omega) ((G25.out _).2 rfl)) (fun j hj hf h => sF_up 25 _ j hj (fun e => by subst e; exact absurd (Eq.trans (Eq.symm (by kernel_rfl)) hf) Bool.false_ne_true) h)
          · intro u w21 au hau hu hF hp' K hK
            have h25 : u 25 = .pointer (some ⟨Pb, 2, none⟩) := (G25.out _).1 (PreF.get hp' 25 (by kernel_rfl)).1
            have t110 : au.tmps[110]?.getD undef = u 25 := by rw [hau.out]; kernel_rfl
            rw [h25] at t110
            have h24 : u 24 = .int .i64 X2 := (G24.out _).1 (PreF.get hp' 24 (by kernel_rfl)).1
            have t109 : au.tmps[109]?.getD undef = u 24 := by rw [hau.out]; kernel_rfl
            rw [h24] at t109
            have hw : w21 = wN1.drew := hF ((hu.out 26 (by decide) (.inl rfl)).trans (by kernel_rfl))
            have xc : w21.cell? ⟨Pb, 2, none⟩ = some (.int .i64 0) := by rw [hw]; exact HS4.out.cell 0 rfl 2 rfl
            have xf : w21.frozen? ⟨Pb, 2, none⟩ = false := by rw [hw]; exact HS4.out.free 0 rfl 2 rfl
            have HW21 := hide hw
            clear hw
            refine step_plain rfl ?_
            go_simp
            exact hK.out (.bool true) _ (sR_st (by simp [undef])) (sF_st (G26.out _) (by rw [hPP, HW21.out])) (fun j hj _ h => sF_keep _ j hj h)
        · intro u w30 hF hall
          have hp := (hall 26 (by decide)).2 rfl
          rw [hPP] at hp
          have HE := hide hp
          clear hF hall hp
          simp only [rgPut, Act.put]
          go_simp
          go_wp2_with fail
          go_meet
          rw [HE.out]
          exact HSN.out
      case rest =>
        obtain ⟨wN2, hwc⟩ : ∃ wn, wn = wc := ⟨_, rfl⟩
        rw [← hwc] at hcut
        rw [← hwc]
        clear hwc
        have HS5 := hide hcut
        clear hcut HS4 w0 w1' w2 w3 w4 w5 m6 m7 m8 t2'
        have p0 := HS5.out.cell 0 rfl 0 rfl
        have p1 := HS5.out.cell 0 rfl 1 rfl
        have p2 := HS5.out.cell 0 rfl 2 rfl
        have p3 := HS5.out.cell 0 rfl 3 rfl
        have q1 := gcd_le_add X0.natAbs X1.natAbs
        have q2 := gcd_le_add X2.natAbs D.natAbs
        have cG1 := l7Gcd_any X0 X1 (by omega) (by omega) (by omega) (by omega)
        have cG2 := l7Gcd_any X2 D (by omega) (by omega) (by omega) (by omega)
        have e1 : Int.gcd X0 X1 = Nat.gcd X0.natAbs X1.natAbs := rfl
        have e2 : Int.gcd X2 D = Nat.gcd X2.natAbs D.natAbs := rfl
        have cG3 := l7Gcd_any (Int.gcd X0 X1 : Nat) (Int.gcd X2 D : Nat) (by omega) (by omega) (by omega) (by omega)
        have hG : Int.gcd (Int.gcd X0 X1 : Nat) (Int.gcd X2 D : Nat) = mvG M T D x y z := by unfold mvG; rw [HX0.out, HX1.out, HX2.out]
        rw [hG] at cG3
        have HVV : Hid (V = plV X0 X1 X2 D (mvG M T D x y z)) := by show _ = _; rw [HX0.out, HX1.out, HX2.out]; exact HV.out
        clear q1 q2 e1 e2 hG HX0 HX1 HX2 HV HP0 HP1 bM bT bx by' bz
        generalize Int.gcd X0 X1 = g1 at *
        generalize Int.gcd X2 D = g2 at *
        generalize mvG M T D x y z = g at *
        go_upto_region 7 with fail
        have HP_ : Hid (wN2.cell? ⟨Pb, 0, none⟩ = some (.int .i64 X0) ∧ wN2.cell? ⟨Pb, 1, none⟩ = some (.int .i64 X1) ∧ wN2.cell? ⟨Pb, 2, none⟩ = some (.int .i64 X2) ∧ wN2.cell? ⟨Pb, 3, none⟩ = some (.int .i64 D)) := ⟨p0, p1, p2, p3⟩
        clear p0 p1 p2 p3
        go_cut [10] (fun sl wc => sl = .int .i64 (g : Int) ∧ wc = wN2.drew)
        case first =>
          obtain ⟨H, hH⟩ : ∃ H : Nat → Value → World → Prop, H = (fun j v _ => match j with | 0 => v = .pointer (some ⟨Pb, 0, none⟩) | 1 => v = .int .i64 X0 | 2 => v = .pointer (some ⟨Pb, 1, none⟩) | 3 => v = .int .i64 X1 | 4 => v = .int .i64 (g1 : Int) | 5 => v = .pointer (some ⟨Pb, 2, none⟩) | 6 => v = .int .i64 X2 | 7 => v = .pointer (some ⟨Pb, 3, none⟩) | 8 => v = .int .i64 D | 9 => v = .int .i64 (g2 : Int) | 10 => v = .int .i64 (g : Int) | 11 => v = .int .i64 (g : Int) | _ => True) := ⟨_, rfl⟩
          have H0 : Hid (∀ v wx, H 0 v wx ↔ v = .pointer (some ⟨Pb, 0, none⟩)) := fun v wx => by rw [hH]; exact Iff.rfl
          have H1 : Hid (∀ v wx, H 1 v wx ↔ v = .int .i64 X0) := fun v wx => by rw [hH]; exact Iff.rfl
          have H2 : Hid (∀ v wx, H 2 v wx ↔ v = .pointer (some ⟨Pb, 1, none⟩)) := fun v wx => by rw [hH]; exact Iff.rfl
          have H3 : Hid (∀ v wx, H 3 v wx ↔ v = .int .i64 X1) := fun v wx => by rw [hH]; exact Iff.rfl
          have H4 : Hid (∀ v wx, H 4 v wx ↔ v = .int .i64 (g1 : Int)) := fun v wx => by rw [hH]; exact Iff.rfl
          have H5 : Hid (∀ v wx, H 5 v wx ↔ v = .pointer (some ⟨Pb, 2, none⟩)) := fun v wx => by rw [hH]; exact Iff.rfl
          have H6 : Hid (∀ v wx, H 6 v wx ↔ v = .int .i64 X2) := fun v wx => by rw [hH]; exact Iff.rfl
          have H7 : Hid (∀ v wx, H 7 v wx ↔ v = .pointer (some ⟨Pb, 3, none⟩)) := fun v wx => by rw [hH]; exact Iff.rfl
          have H8 : Hid (∀ v wx, H 8 v wx ↔ v = .int .i64 D) := fun v wx => by rw [hH]; exact Iff.rfl
          have H9 : Hid (∀ v wx, H 9 v wx ↔ v = .int .i64 (g2 : Int)) := fun v wx => by rw [hH]; exact Iff.rfl
          have H10 : Hid (∀ v wx, H 10 v wx ↔ v = .int .i64 (g : Int)) := fun v wx => by rw [hH]; exact Iff.rfl
          have H11 : Hid (∀ v wx, H 11 v wx ↔ v = .int .i64 (g : Int)) := fun v wx => by rw [hH]; exact Iff.rfl
          have HUP : Hid (∀ (wx wy : World) j v, H j v wx → H j v wy) := fun wx wy j v h => by rw [hH] at h ⊢; exact h
          clear hH
          refine region_ops (fun w' => w' = wN2.drew) (hF H) (by kernel_rfl) (by kernel_rfl) (by kernel_rfl) rfl ?_ ?_
          · refine ⟨?_, ?_, ?_, ?_, ?_, ?_, ?_, ?_, ?_, ?_, ?_, ?_, trivial⟩
            · intro u w21 au hau hu hF' hp' K hK
              have HFF := hide hF'
              clear hF'
              have t9 : au.tmps[9]?.getD undef = .pointer (some ⟨Pb, 0, none⟩) := by rw [hau.out]; kernel_rfl
              refine step_plain rfl ?_
              go_simp
              exact hK.out (.pointer (some ⟨Pb, 0, none⟩)) _ HFF.out (hF_val 0 ((H0.out _ _).2 rfl)) (fun j hj _ h => hF_up (HUP.out _ _) 0 _ j hj h)
            · intro u w21 au hau hu hF' hp' K hK
              have HFF := hide hF'
              clear hF'
              have h0 : u 0 = .pointer (some ⟨Pb, 0, none⟩) := (H0.out _ _).1 (PreF.get hp' 0 (by kernel_rfl))
              have t111 : au.tmps[111]?.getD undef = u 0 := by rw [hau.out]; kernel_rfl
              rw [h0] at t111
              have xc : w21.cell? ⟨Pb, 0, none⟩ = some (.int .i64 X0) := by rw [HFF.out]; exact HP_.out.1
              refine step_plain rfl ?_
              go_simp
              exact hK.out (.int .i64 X0) _ HFF.out (hF_val 1 ((H1.out _ _).2 rfl)) (fun j hj _ h => hF_up (HUP.out _ _) 1 _ j hj h)
            · intro u w21 au hau hu hF' hp' K hK
              have HFF := hide hF'
              clear hF'
              have t9 : au.tmps[9]?.getD undef = .pointer (some ⟨Pb, 0, none⟩) := by rw [hau.out]; kernel_rfl
              refine step_plain rfl ?_
              go_simp
              exact hK.out (.pointer (some ⟨Pb, 1, none⟩)) _ HFF.out (hF_val 2 ((H2.out _ _).2 rfl)) (fun j hj _ h => hF_up (HUP.out _ _) 2 _ j hj h)
            · intro u w21 au hau hu hF' hp' K hK
              have HFF := hide hF'
              clear hF'
              have h2 : u 2 = .pointer (some ⟨Pb, 1, none⟩) := (H2.out _ _).1 (PreF.get hp' 2 (by kernel_rfl))
              have t113 : au.tmps[113]?.getD undef = u 2 := by rw [hau.out]; kernel_rfl
              rw [h2] at t113
              have xc : w21.cell? ⟨Pb, 1, none⟩ = some (.int .i64 X1) := by rw [HFF.out]; exact HP_.out.2.1
              refine step_plain rfl ?_
              go_simp
              exact hK.out (.int .i64 X1) _ HFF.out (hF_val 3 ((H3.out _ _).2 rfl)) (fun j hj _ h => hF_up (HUP.out _ _) 3 _ j hj h)
            · intro u w21 au hau hu hF' hp' K hK
              have HFF := hide hF'
              clear hF'
              have h1 : u 1 = .int .i64 X0 := (H1.out _ _).1 (PreF.get hp' 1 (by kernel_rfl))
              have t112 : au.tmps[112]?.getD undef = u 1 := by rw [hau.out]; kernel_rfl
              rw [h1] at t112
              have h3 : u 3 = .int .i64 X1 := (H3.out _ _).1 (PreF.get hp' 3 (by kernel_rfl))
              have t114 : au.tmps[114]?.getD undef = u 3 := by rw [hau.out]; kernel_rfl
              rw [h3] at t114
              have c := cG1 w21
              refine step_plain rfl ?_
              go_simp
              refine c.mono ?_
              rintro e w22 ⟨rfl, hw9⟩
              obtain rfl := hw9.symm
              exact hK.out (.int .i64 (g1 : Int)) _ HFF.out (hF_val 4 ((H4.out _ _).2 rfl)) (fun j hj _ h => hF_up (HUP.out _ _) 4 _ j hj h)
            · intro u w21 au hau hu hF' hp' K hK
              have HFF := hide hF'
              clear hF'
              have t9 : au.tmps[9]?.getD undef = .pointer (some ⟨Pb, 0, none⟩) := by rw [hau.out]; kernel_rfl
              refine step_plain rfl ?_
              go_simp
              exact hK.out (.pointer (some ⟨Pb, 2, none⟩)) _ HFF.out (hF_val 5 ((H5.out _ _).2 rfl)) (fun j hj _ h => hF_up (HUP.out _ _) 5 _ j hj h)
            · intro u w21 au hau hu hF' hp' K hK
              have HFF := hide hF'
              clear hF'
              have h5 : u 5 = .pointer (some ⟨Pb, 2, none⟩) := (H5.out _ _).1 (PreF.get hp' 5 (by kernel_rfl))
              have t116 : au.tmps[116]?.getD undef = u 5 := by rw [hau.out]; kernel_rfl
              rw [h5] at t116
              have xc : w21.cell? ⟨Pb, 2, none⟩ = some (.int .i64 X2) := by rw [HFF.out]; exact HP_.out.2.2.1
              refine step_plain rfl ?_
              go_simp
              exact hK.out (.int .i64 X2) _ HFF.out (hF_val 6 ((H6.out _ _).2 rfl)) (fun j hj _ h => hF_up (HUP.out _ _) 6 _ j hj h)
            · intro u w21 au hau hu hF' hp' K hK
              have HFF := hide hF'
              clear hF'
              have t9 : au.tmps[9]?.getD undef = .pointer (some ⟨Pb, 0, none⟩) := by rw [hau.out]; kernel_rfl
              refine step_plain rfl ?_
              go_simp
              exact hK.out (.pointer (some ⟨Pb, 3, none⟩)) _ HFF.out (hF_val 7 ((H7.out _ _).2 rfl)) (fun j hj _ h => hF_up (HUP.out _ _) 7 _ j hj h)
            · intro u w21 au hau hu hF' hp' K hK
              have HFF := hide hF'
              clear hF'
              have h7 : u 7 = .pointer (some ⟨Pb, 3, none⟩) := (H7.out _ _).1 (PreF.get hp' 7 (by kernel_rfl))
              have t118 : au.tmps[118]?.getD undef = u 7 := by rw [hau.out]; kernel_rfl
              rw [h7] at t118
              have xc : w21.cell? ⟨Pb, 3, none⟩ = some (.int .i64 D) := by rw [HFF.out]; exact HP_.out.2.2.2
              refine step_plain rfl ?_
              go_simp
              exact hK.out (.int .i64 D) _ HFF.out (hF_val 8 ((H8.out _ _).2 rfl)) (fun j hj _ h => hF_up (HUP.out _ _) 8 _ j hj h)
            · intro u w21 au hau hu hF' hp' K hK
              have HFF := hide hF'
              clear hF'
              have h6 : u 6 = .int .i64 X2 := (H6.out _ _).1 (PreF.get hp' 6 (by kernel_rfl))
              have t117 : au.tmps[117]?.getD undef = u 6 := by rw [hau.out]; kernel_rfl
              rw [h6] at t117
              have h8 : u 8 = .int .i64 D := (H8.out _ _).1 (PreF.get hp' 8 (by kernel_rfl))
              have t119 : au.tmps[119]?.getD undef = u 8 := by rw [hau.out]; kernel_rfl
              rw [h8] at t119
              have c := cG2 w21
              refine step_plain rfl ?_
              go_simp
              refine c.mono ?_
              rintro e w22 ⟨rfl, hw9⟩
              obtain rfl := hw9.symm
              exact hK.out (.int .i64 (g2 : Int)) _ HFF.out (hF_val 9 ((H9.out _ _).2 rfl)) (fun j hj _ h => hF_up (HUP.out _ _) 9 _ j hj h)
            · intro u w21 au hau hu hF' hp' K hK
              have HFF := hide hF'
              clear hF'
              have h4 : u 4 = .int .i64 (g1 : Int) := (H4.out _ _).1 (PreF.get hp' 4 (by kernel_rfl))
              have t115 : au.tmps[115]?.getD undef = u 4 := by rw [hau.out]; kernel_rfl
              rw [h4] at t115
              have h9 : u 9 = .int .i64 (g2 : Int) := (H9.out _ _).1 (PreF.get hp' 9 (by kernel_rfl))
              have t120 : au.tmps[120]?.getD undef = u 9 := by rw [hau.out]; kernel_rfl
              rw [h9] at t120
              have c := cG3 w21
              refine step_plain rfl ?_
              go_simp
              refine c.mono ?_
              rintro e w22 ⟨rfl, hw9⟩
              obtain rfl := hw9.symm
              exact hK.out (.int .i64 (g : Int)) _ HFF.out (hF_val 10 ((H10.out _ _).2 rfl)) (fun j hj _ h => hF_up (HUP.out _ _) 10 _ j hj h)
            · intro u w21 au hau hu hF' hp' K hK
              have HFF := hide hF'
              clear hF'
              have h10 : u 10 = .int .i64 (g : Int) := (H10.out _ _).1 (PreF.get hp' 10 (by kernel_rfl))
              have t121 : au.tmps[121]?.getD undef = u 10 := by rw [hau.out]; kernel_rfl
              rw [h10] at t121
              refine step_plain rfl ?_
              go_simp
              exact hK.out (.int .i64 (g : Int)) _ HFF.out (hF_val 11 ((H11.out _ _).2 rfl)) (fun j hj _ h => hF_up (HUP.out _ _) 11 _ j hj h)
          · intro u w30 hF' hall
            have h11 : u 11 = .int .i64 (g : Int) := (H11.out _ _).1 (hall 11 (by decide))
            have HE := hide hF'
            clear hF' hall
            simp only [rgPut, Act.put, h11]
            go_simp
            go_wp2_with fail
            go_meet
            exact ⟨rfl, HE.out⟩
        case rest =>
          obtain ⟨rfl, hw9⟩ := hcut
          obtain ⟨wE, hwE⟩ : ∃ wE, wE = wc := ⟨_, rfl⟩
          rw [← hwE]
          rw [← hwE] at hw9
          clear hwE
          go_upto_region 8 with fail
          have HS6 : Hid (St w [(Pb, [.int .i64 X0, .int .i64 X1, .int .i64 X2, .int .i64 D]), (w.heap.size + 1, [.int .i64 0, .int .i64 0, .int .i64 0, .int .i64 0]), (w.heap.size, [.slice (some ⟨b, off, none⟩) 9 c0, .slice (some ⟨b', off', none⟩) 3 c1, .int .i64 D])] [] wE) := by rw [hw9]; exact HS5.out.drew
          clear cG1 cG2 cG3 HS5 HP_ hw9
          have p0 := HS6.out.cell 0 rfl 0 rfl
          have p1 := HS6.out.cell 0 rfl 1 rfl
          have p2 := HS6.out.cell 0 rfl 2 rfl
          have p3 := HS6.out.cell 0 rfl 3 rfl
          have z0 := HS6.out.cell 1 rfl 0 rfl
          have z1 := HS6.out.cell 1 rfl 1 rfl
          have z2 := HS6.out.cell 1 rfl 2 rfl
          have z3 := HS6.out.cell 1 rfl 3 rfl
          have y0 := HS6.out.free 1 rfl 0 rfl
          have y1 := HS6.out.free 1 rfl 1 rfl
          have y2 := HS6.out.free 1 rfl 2 rfl
          have y3 := HS6.out.free 1 rfl 3 rfl
          have k0 := Int.natAbs_tdiv_le_natAbs X0 (g : Int)
          have k1 := Int.natAbs_tdiv_le_natAbs X1 (g : Int)
          have k2 := Int.natAbs_tdiv_le_natAbs X2 (g : Int)
          have k3 := Int.natAbs_tdiv_le_natAbs D (g : Int)
          obtain ⟨Q0, hQ0⟩ : ∃ Q, Q = X0.tdiv (g : Int) := ⟨_, rfl⟩
          obtain ⟨Q1, hQ1⟩ : ∃ Q, Q = X1.tdiv (g : Int) := ⟨_, rfl⟩
          obtain ⟨Q2, hQ2⟩ : ∃ Q, Q = X2.tdiv (g : Int) := ⟨_, rfl⟩
          obtain ⟨Q3, hQ3⟩ : ∃ Q, Q = D.tdiv (g : Int) := ⟨_, rfl⟩
          rw [← hQ0] at k0
          rw [← hQ1] at k1
          rw [← hQ2] at k2
          rw [← hQ3] at k3
          have w0 : IntKind.i64.wrap (X0.tdiv (g : Int)) = Q0 := by rw [IntKind.wrap_i64, ← hQ0]; omega
          have w1' : IntKind.i64.wrap (X1.tdiv (g : Int)) = Q1 := by rw [IntKind.wrap_i64, ← hQ1]; omega
          have w2 : IntKind.i64.wrap (X2.tdiv (g : Int)) = Q2 := by rw [IntKind.wrap_i64, ← hQ2]; omega
          have w3 : IntKind.i64.wrap (D.tdiv (g : Int)) = Q3 := by rw [IntKind.wrap_i64, ← hQ3]; omega
          have hg0 : ((g : Int) == 0) = false := by simp; omega
          have hg1 : ¬ (g : Int) = 0 := by omega
          have HVW : Hid (V = .agg #[.int .i64 Q0, .int .i64 Q1, .int .i64 Q2, .int .i64 Q3]) := by show _ = _; rw [HVV.out]; unfold plV; rw [hQ0, hQ1, hQ2, hQ3]
          have HB := hide ((((HS6.out.below.setCell (p := ⟨w.heap.size + 1, 0, none⟩) (Nat.le_succ _) (.int .i64 Q0)).setCell (p := ⟨w.heap.size + 1, 1, none⟩) (Nat.le_succ _) (.int .i64 Q1)).setCell (p := ⟨w.heap.size + 1, 2, none⟩) (Nat.le_succ _) (.int .i64 Q2)).setCell (p := ⟨w.heap.size + 1, 3, none⟩) (Nat.le_succ _) (.int .i64 Q3)).drew
          clear k0 k1 k2 k3 hQ0 hQ1 hQ2 hQ3 HVV bX0 bX1 bX2 bD HS6
          go_region
          all_goals
            clear p0 p1 p2 p3 w0 w1' w2 w3 hg0 hg1
            go_wp2_with fail
            exact bodyPost_ret (v := .agg #[.int .i64 Q0, .int .i64 Q1, .int .i64 Q2, .int .i64 Q3]) (by simp [results, Try.results25, go_sem, z0, z1, z2, z3]) rfl ⟨by rw [HVW.out], HB.out⟩

end Go.Proofs.Ytpbeogepgjbacaa

/- A matrix times a vector; sums and multiples of vectors. -/
import Derived.Test.YtjdbiaoheoialaaClm
import Derived.BigRegion
namespace Go.Proofs.Ytjdbiaoheoialaa
open Go.RowKit Go.Lib

def timF (M V : Nat → Int) (i : Nat) : Int := M (3 * i) * V 0 + M (3 * i + 1) * V 1 + M (3 * i + 2) * V 2
/-- the first k rounds are done -/
def timK (M V : Nat → Int) (k j : Nat) : Int := if j < k then timF M V j else 0
def c3 (V : Nat → Int) : List Value := [.int .i64 (V 0), .int .i64 (V 1), .int .i64 (V 2)]

set_option maxRecDepth 100000 in
set_option maxHeartbeats 4000000 in
theorem vplus_any (V W : Nat → Int) (h : ∀ k, k < 3 → -9223372036854775808 ≤ V k + W k ∧ V k + W k ≤ 9223372036854775807) (w : World) :
    Calls Try.prog 39 #[vec3 V, vec3 W] w fun e w' => e = .returned (vec3 (fun k => V k + W k)) ∧ Below w.heap.size w w' := by
  have w0 : IntKind.i64.wrap (V 0 + W 0) = V 0 + W 0 := by have := h 0 (by omega); rw [IntKind.wrap_i64]; omega
  have w1 : IntKind.i64.wrap (V 1 + W 1) = V 1 + W 1 := by have := h 1 (by omega); rw [IntKind.wrap_i64]; omega
  have w2 : IntKind.i64.wrap (V 2 + W 2) = V 2 + W 2 := by have := h 2 (by omega); rw [IntKind.wrap_i64]; omega
  obtain ⟨S0, h0⟩ : ∃ S, S = V 0 + W 0 := ⟨_, rfl⟩
  obtain ⟨S1, h1⟩ : ∃ S, S = V 1 + W 1 := ⟨_, rfl⟩
  obtain ⟨S2, h2⟩ : ∃ S, S = V 2 + W 2 := ⟨_, rfl⟩
  have u0 : IntKind.i64.wrap (V 0 + W 0) = S0 := w0.trans h0.symm
  have u1 : IntKind.i64.wrap (V 1 + W 1) = S1 := w1.trans h1.symm
  have u2 : IntKind.i64.wrap (V 2 + W 2) = S2 := w2.trans h2.symm
  have HR : Hid (vec3 (fun k => V k + W k) = .agg #[.int .i64 S0, .int .i64 S1, .int .i64 S2]) := by show vec3 _ = _; unfold vec3; rw [h0, h1, h2]
  rw [HR.out]
  unfold vec3
  have HB := hide (bnext (bnext (bnew w (.cells #[.int .i64 (V 0), .int .i64 (V 1), .int .i64 (V 2)] 46)) (Nat.le_refl _) (bnew _ (.cells #[.int .i64 (W 0), .int .i64 (W 1), .int .i64 (W 2)] 46))) (Nat.le_refl _) (bnew _ (.cells #[.int .i64 S0, .int .i64 S1, .int .i64 S2] 46)))
  clear h w0 w1 w2 h0 h1 h2 HR
  generalize V 0 = a0 at *
  generalize V 1 = a1 at *
  generalize V 2 = a2 at *
  generalize W 0 = b0 at *
  generalize W 1 = b1 at *
  generalize W 2 = b2 at *
  go_enter Try.func39, Try.ntmps39
  go_wp2
  exact bodyPost_ret (v := .agg #[.int .i64 S0, .int .i64 S1, .int .i64 S2]) (by simp [results, Try.results39, go_sem]) rfl ⟨rfl, HB.out⟩

set_option maxRecDepth 100000 in
set_option maxHeartbeats 4000000 in
theorem vscaled_any (V : Nat → Int) (by' : Int) (h : ∀ k, k < 3 → -9223372036854775808 ≤ V k * by' ∧ V k * by' ≤ 9223372036854775807) (w : World) :
    Calls Try.prog 40 #[vec3 V, .int .i64 by'] w fun e w' => e = .returned (vec3 (fun k => V k * by')) ∧ Below w.heap.size w w' := by
  obtain ⟨S0, h0⟩ : ∃ S, S = V 0 * by' := ⟨_, rfl⟩
  obtain ⟨S1, h1⟩ : ∃ S, S = V 1 * by' := ⟨_, rfl⟩
  obtain ⟨S2, h2⟩ : ∃ S, S = V 2 * by' := ⟨_, rfl⟩
  have u0 : IntKind.i64.wrap (V 0 * by') = S0 := by have := h 0 (by omega); rw [← h0] at this ⊢; rw [IntKind.wrap_i64]; omega
  have u1 : IntKind.i64.wrap (V 1 * by') = S1 := by have := h 1 (by omega); rw [← h1] at this ⊢; rw [IntKind.wrap_i64]; omega
  have u2 : IntKind.i64.wrap (V 2 * by') = S2 := by have := h 2 (by omega); rw [← h2] at this ⊢; rw [IntKind.wrap_i64]; omega
  have HR : Hid (vec3 (fun k => V k * by') = .agg #[.int .i64 S0, .int .i64 S1, .int .i64 S2]) := by show vec3 _ = _; unfold vec3; rw [h0, h1, h2]
  rw [HR.out]
  unfold vec3
  have HB := hide (bnext (bnew w (.cells #[.int .i64 (V 0), .int .i64 (V 1), .int .i64 (V 2)] 46)) (Nat.le_refl _) (bnew _ (.cells #[.int .i64 S0, .int .i64 S1, .int .i64 S2] 46)))
  clear h h0 h1 h2 HR
  generalize V 0 = a0 at *
  generalize V 1 = a1 at *
  generalize V 2 = a2 at *
  go_enter Try.func40, Try.ntmps40
  go_wp2
  exact bodyPost_ret (v := .agg #[.int .i64 S0, .int .i64 S1, .int .i64 S2]) (by simp [results, Try.results40, go_sem]) rfl ⟨rfl, HB.out⟩

set_option maxRecDepth 100000 in
set_option maxHeartbeats 8000000 in
theorem times_any (M V : Nat → Int) (h : ∀ i, i < 3 → (-9223372036854775808 ≤ M (3 * i) * V 0 ∧ M (3 * i) * V 0 ≤ 9223372036854775807) ∧ (-9223372036854775808 ≤ M (3 * i + 1) * V 1 ∧ M (3 * i + 1) * V 1 ≤ 9223372036854775807) ∧ (-9223372036854775808 ≤ M (3 * i + 2) * V 2 ∧ M (3 * i + 2) * V 2 ≤ 9223372036854775807) ∧ (-9223372036854775808 ≤ M (3 * i) * V 0 + M (3 * i + 1) * V 1 ∧ M (3 * i) * V 0 + M (3 * i + 1) * V 1 ≤ 9223372036854775807) ∧ (-9223372036854775808 ≤ timF M V i ∧ timF M V i ≤ 9223372036854775807)) (w : World) :
    Calls Try.prog 37 #[mat9 M, vec3 V] w fun e w' => e = .returned (vec3 (timF M V)) ∧ Below w.heap.size w w' := by
  have HS0 := hide (((((St.start w).box (c9 M) 44).box' (c3 V) 46 (b := w.heap.size + 1) (by simp)).box' [.int .i64 0, .int .i64 0, .int .i64 0] 46 (b := w.heap.size + 1 + 1) (by simp)).box' [.int .i64 0, .int .i64 0, .int .i64 0] 46 (b := w.heap.size + 1 + 1 + 1) (by simp))
  have HH := hide h
  unfold mat9 vec3
  unfold c9 c3 at HS0
  clear h
  go_enter Try.func37, Try.ntmps37
  go_wp2_with fail
  go_loopw [6, 8] (fun _ i wr => ∃ k : Nat, k ≤ 3 ∧ i = .int .i64 k ∧ St w [(w.heap.size + 1 + 1 + 1, c3 (timK M V k)), (w.heap.size + 1 + 1, [.int .i64 0, .int .i64 0, .int .i64 0]), (w.heap.size + 1, c3 V), (w.heap.size, c9 M)] [] wr) (fun _ i _ => 3 - (intOf i).toNat)
  case atStart => exact ⟨0, by omega, rfl, HS0.out⟩
  case round =>
    obtain ⟨k, hk, rfl, hs⟩ := hrel
    clear HS0
    by_cases hlt : k < 3
    · have HS := hide hs
      clear hs hk
      rcases (show k = 0 ∨ k = 1 ∨ k = 2 by omega) with rfl | rfl | rfl
      · have v0 := HS.out.cell 3 rfl 0 rfl
        have v1 := HS.out.cell 3 rfl 1 rfl
        have v2 := HS.out.cell 3 rfl 2 rfl
        have x0 := HS.out.cell 2 rfl 0 rfl
        have x1 := HS.out.cell 2 rfl 1 rfl
        have x2 := HS.out.cell 2 rfl 2 rfl
        have vq := HS.out.cell 0 rfl 0 rfl
        have fq := HS.out.free 0 rfl 0 rfl
        obtain ⟨b0, b1, b2, b3, b4⟩ := HH.out 0 (by omega)
        change -9223372036854775808 ≤ M 0 * V 0 ∧ M 0 * V 0 ≤ 9223372036854775807 at b0
        change -9223372036854775808 ≤ M 1 * V 1 ∧ M 1 * V 1 ≤ 9223372036854775807 at b1
        change -9223372036854775808 ≤ M 2 * V 2 ∧ M 2 * V 2 ≤ 9223372036854775807 at b2
        change -9223372036854775808 ≤ M 0 * V 0 + M 1 * V 1 ∧ M 0 * V 0 + M 1 * V 1 ≤ 9223372036854775807 at b3
        change -9223372036854775808 ≤ M 0 * V 0 + M 1 * V 1 + M 2 * V 2 ∧ M 0 * V 0 + M 1 * V 1 + M 2 * V 2 ≤ 9223372036854775807 at b4
        obtain ⟨Y0, hY0⟩ : ∃ Y, Y = M 0 * V 0 := ⟨_, rfl⟩
        obtain ⟨Y1, hY1⟩ : ∃ Y, Y = M 1 * V 1 := ⟨_, rfl⟩
        obtain ⟨Y2, hY2⟩ : ∃ Y, Y = M 2 * V 2 := ⟨_, rfl⟩
        obtain ⟨Y3, hY3⟩ : ∃ Y, Y = Y0 + Y1 := ⟨_, rfl⟩
        obtain ⟨Y4, hY4⟩ : ∃ Y, Y = Y3 + Y2 := ⟨_, rfl⟩
        rw [← hY0, ← hY1, ← hY2] at b4
        rw [← hY0, ← hY1] at b3
        rw [← hY0] at b0
        rw [← hY1] at b1
        rw [← hY2] at b2
        have w0 : IntKind.i64.wrap (M 0 * V 0) = Y0 := by rw [IntKind.wrap_i64, ← hY0]; omega
        have w1 : IntKind.i64.wrap (M 1 * V 1) = Y1 := by rw [IntKind.wrap_i64, ← hY1]; omega
        have w2 : IntKind.i64.wrap (M 2 * V 2) = Y2 := by rw [IntKind.wrap_i64, ← hY2]; omega
        have w3 : IntKind.i64.wrap (Y0 + Y1) = Y3 := by rw [IntKind.wrap_i64]; omega
        have w4 : IntKind.i64.wrap (Y3 + Y2) = Y4 := by rw [IntKind.wrap_i64]; omega
        have hVa : Y4 = timF M V 0 := by rw [hY4, hY3, hY0, hY1, hY2]; rfl
        have HN : Hid (St w [(w.heap.size + 1 + 1 + 1, c3 (timK M V 1)), (w.heap.size + 1 + 1, [.int .i64 0, .int .i64 0, .int .i64 0]), (w.heap.size + 1, c3 V), (w.heap.size, c9 M)] [] (wr.setCell ⟨w.heap.size + 1 + 1 + 1, 0, none⟩ (.int .i64 Y4)).drew) := by
          have := (St.fill (L1 := []) HS.out 0 (.int .i64 Y4)).drew
          rw [hVa] at this ⊢
          exact this
        clear hY0 hY1 hY2 hY3 hY4 hVa HS HH b0 b1 b2 b3 b4 hlt
        generalize M 0 = m0 at *
        generalize M 1 = m1 at *
        generalize M 2 = m2 at *
        generalize V 0 = p0 at *
        generalize V 1 = p1 at *
        generalize V 2 = p2 at *
        go_upto_region 5 with fail
        go_region
        all_goals
          clear v0 v1 v2 x0 x1 x2 vq fq w0 w1 w2 w3 w4
          go_wp2_with fail
          exact ⟨⟨1, by omega, rfl, HN.out⟩, by simp [intOf]⟩
      · have v0 := HS.out.cell 3 rfl 3 rfl
        have v1 := HS.out.cell 3 rfl 4 rfl
        have v2 := HS.out.cell 3 rfl 5 rfl
        have x0 := HS.out.cell 2 rfl 0 rfl
        have x1 := HS.out.cell 2 rfl 1 rfl
        have x2 := HS.out.cell 2 rfl 2 rfl
        have vq := HS.out.cell 0 rfl 1 rfl
        have fq := HS.out.free 0 rfl 1 rfl
        obtain ⟨b0, b1, b2, b3, b4⟩ := HH.out 1 (by omega)
        change -9223372036854775808 ≤ M 3 * V 0 ∧ M 3 * V 0 ≤ 9223372036854775807 at b0
        change -9223372036854775808 ≤ M 4 * V 1 ∧ M 4 * V 1 ≤ 9223372036854775807 at b1
        change -9223372036854775808 ≤ M 5 * V 2 ∧ M 5 * V 2 ≤ 9223372036854775807 at b2
        change -9223372036854775808 ≤ M 3 * V 0 + M 4 * V 1 ∧ M 3 * V 0 + M 4 * V 1 ≤ 9223372036854775807 at b3
        change -9223372036854775808 ≤ M 3 * V 0 + M 4 * V 1 + M 5 * V 2 ∧ M 3 * V 0 + M 4 * V 1 + M 5 * V 2 ≤ 9223372036854775807 at b4
        obtain ⟨Y0, hY0⟩ : ∃ Y, Y = M 3 * V 0 := ⟨_, rfl⟩
        obtain ⟨Y1, hY1⟩ : ∃ Y, Y = M 4 * V 1 := ⟨_, rfl⟩
        obtain ⟨Y2, hY2⟩ : ∃ Y, Y = M 5 * V 2 := ⟨_, rfl⟩
        obtain ⟨Y3, hY3⟩ : ∃ Y, Y = Y0 + Y1 := ⟨_, rfl⟩
        obtain ⟨Y4, hY4⟩ : ∃ Y, Y = Y3 + Y2 := ⟨_, rfl⟩
        rw [← hY0, ← hY1, ← hY2] at b4
        rw [← hY0, ← hY1] at b3
        rw [← hY0] at b0
        rw [← hY1] at b1
        rw [← hY2] at b2
        have w0 : IntKind.i64.wrap (M 3 * V 0) = Y0 := by rw [IntKind.wrap_i64, ← hY0]; omega
        have w1 : IntKind.i64.wrap (M 4 * V 1) = Y1 := by rw [IntKind.wrap_i64, ← hY1]; omega
        have w2 : IntKind.i64.wrap (M 5 * V 2) = Y2 := by rw [IntKind.wrap_i64, ← hY2]; omega
        have w3 : IntKind.i64.wrap (Y0 + Y1) = Y3 := by rw [IntKind.wrap_i64]; omega
        have w4 : IntKind.i64.wrap (Y3 + Y2) = Y4 := by rw [IntKind.wrap_i64]; omega
        have hVa : Y4 = timF M V 1 := by rw [hY4, hY3, hY0, hY1, hY2]; rfl
        have HN : Hid (St w [(w.heap.size + 1 + 1 + 1, c3 (timK M V 2)), (w.heap.size + 1 + 1, [.int .i64 0, .int .i64 0, .int .i64 0]), (w.heap.size + 1, c3 V), (w.heap.size, c9 M)] [] (wr.setCell ⟨w.heap.size + 1 + 1 + 1, 1, none⟩ (.int .i64 Y4)).drew) := by
          have := (St.fill (L1 := []) HS.out 1 (.int .i64 Y4)).drew
          rw [hVa] at this ⊢
          exact this
        clear hY0 hY1 hY2 hY3 hY4 hVa HS HH b0 b1 b2 b3 b4 hlt
        generalize M 3 = m0 at *
        generalize M 4 = m1 at *
        generalize M 5 = m2 at *
        generalize V 0 = p0 at *
        generalize V 1 = p1 at *
        generalize V 2 = p2 at *
        go_upto_region 5 with fail
        go_region
        all_goals
          clear v0 v1 v2 x0 x1 x2 vq fq w0 w1 w2 w3 w4
          go_wp2_with fail
          exact ⟨⟨2, by omega, rfl, HN.out⟩, by simp [intOf]⟩
      · have v0 := HS.out.cell 3 rfl 6 rfl
        have v1 := HS.out.cell 3 rfl 7 rfl
        have v2 := HS.out.cell 3 rfl 8 rfl
        have x0 := HS.out.cell 2 rfl 0 rfl
        have x1 := HS.out.cell 2 rfl 1 rfl
        have x2 := HS.out.cell 2 rfl 2 rfl
        have vq := HS.out.cell 0 rfl 2 rfl
        have fq := HS.out.free 0 rfl 2 rfl
        obtain ⟨b0, b1, b2, b3, b4⟩ := HH.out 2 (by omega)
        change -9223372036854775808 ≤ M 6 * V 0 ∧ M 6 * V 0 ≤ 9223372036854775807 at b0
        change -9223372036854775808 ≤ M 7 * V 1 ∧ M 7 * V 1 ≤ 9223372036854775807 at b1
        change -9223372036854775808 ≤ M 8 * V 2 ∧ M 8 * V 2 ≤ 9223372036854775807 at b2
        change -9223372036854775808 ≤ M 6 * V 0 + M 7 * V 1 ∧ M 6 * V 0 + M 7 * V 1 ≤ 9223372036854775807 at b3
        change -9223372036854775808 ≤ M 6 * V 0 + M 7 * V 1 + M 8 * V 2 ∧ M 6 * V 0 + M 7 * V 1 + M 8 * V 2 ≤ 9223372036854775807 at b4
        obtain ⟨Y0, hY0⟩ : ∃ Y, Y = M 6 * V 0 := ⟨_, rfl⟩
        obtain ⟨Y1, hY1⟩ : ∃ Y, Y = M 7 * V 1 := ⟨_, rfl⟩
        obtain ⟨Y2, hY2⟩ : ∃ Y, Y = M 8 * V 2 := ⟨_, rfl⟩
        obtain ⟨Y3, hY3⟩ : ∃ Y, Y = Y0 + Y1 := ⟨_, rfl⟩
        obtain ⟨Y4, hY4⟩ : ∃ Y, Y = Y3 + Y2 := ⟨_, rfl⟩
        rw [← hY0, ← hY1, ← hY2] at b4
        rw [← hY0, ← hY1] at b3
        rw [← hY0] at b0
        rw [← hY1] at b1
        rw [← hY2] at b2
        have w0 : IntKind.i64.wrap (M 6 * V 0) = Y0 := by rw [IntKind.wrap_i64, ← hY0]; omega
        have w1 : IntKind.i64.wrap (M 7 * V 1) = Y1 := by rw [IntKind.wrap_i64, ← hY1]; omega
        have w2 : IntKind.i64.wrap (M 8 * V 2) = Y2 := by rw [IntKind.wrap_i64, ← hY2]; omega
        have w3 : IntKind.i64.wrap (Y0 + Y1) = Y3 := by rw [IntKind.wrap_i64]; omega
        have w4 : IntKind.i64.wrap (Y3 + Y2) = Y4 := by rw [IntKind.wrap_i64]; omega
        have hVa : Y4 = timF M V 2 := by rw [hY4, hY3, hY0, hY1, hY2]; rfl
        have HN : Hid (St w [(w.heap.size + 1 + 1 + 1, c3 (timK M V 3)), (w.heap.size + 1 + 1, [.int .i64 0, .int .i64 0, .int .i64 0]), (w.heap.size + 1, c3 V), (w.heap.size, c9 M)] [] (wr.setCell ⟨w.heap.size + 1 + 1 + 1, 2, none⟩ (.int .i64 Y4)).drew) := by
          have := (St.fill (L1 := []) HS.out 2 (.int .i64 Y4)).drew
          rw [hVa] at this ⊢
          exact this
        clear hY0 hY1 hY2 hY3 hY4 hVa HS HH b0 b1 b2 b3 b4 hlt
        generalize M 6 = m0 at *
        generalize M 7 = m1 at *
        generalize M 8 = m2 at *
        generalize V 0 = p0 at *
        generalize V 1 = p1 at *
        generalize V 2 = p2 at *
        go_upto_region 5 with fail
        go_region
        all_goals
          clear v0 v1 v2 x0 x1 x2 vq fq w0 w1 w2 w3 w4
          go_wp2_with fail
          exact ⟨⟨3, by omega, rfl, HN.out⟩, by simp [intOf]⟩
    · obtain rfl : k = 3 := by omega
      have HS : Hid (St w [(w.heap.size + 1 + 1 + 1, c3 (timF M V)), (w.heap.size + 1 + 1, [.int .i64 0, .int .i64 0, .int .i64 0]), (w.heap.size + 1, c3 V), (w.heap.size, c9 M)] [] wr) := hs
      obtain ⟨y0, y1, y2⟩ := HS.out.im3 0 rfl
      obtain ⟨z0, z1, z2⟩ := HS.out.im3 1 rfl
      obtain ⟨e0, e1, e2⟩ := HS.out.fr3 1 rfl
      have HB := hide (((HS.out.below.setCell (p := ⟨w.heap.size + 1 + 1, 0, none⟩) (by show _ ≤ w.heap.size + 1 + 1; omega) (.int .i64 (timF M V 0))).setCell (p := ⟨w.heap.size + 1 + 1, 1, none⟩) (by show _ ≤ w.heap.size + 1 + 1; omega) (.int .i64 (timF M V 1))).setCell (p := ⟨w.heap.size + 1 + 1, 2, none⟩) (by show _ ≤ w.heap.size + 1 + 1; omega) (.int .i64 (timF M V 2)))
      clear hs HS HH hk hlt
      go_wp2_with fail
      exact bodyPost_ret (v := .agg #[.int .i64 (timF M V 0), .int .i64 (timF M V 1), .int .i64 (timF M V 2)]) (by simp [results, Try.results37, go_sem, z0, z1, z2]) rfl ⟨rfl, HB.out⟩

end Go.Proofs.Ytjdbiaoheoialaa

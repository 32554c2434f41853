/- The adjugate of a matrix that is an array of nine. -/
import Derived.Test.YtjdbiaoheoialaaWis
import Derived.Test.YtjdbiaoheoialaaHom
import Derived.Deep.RegionHeld
namespace Go.Proofs.Ytjdbiaoheoialaa
open Go.RowKit Go.Lib

/-- nine numbers as cells, as a value -/
def c9 (M : Nat → Int) : List Value := [.int .i64 (M 0), .int .i64 (M 1), .int .i64 (M 2), .int .i64 (M 3), .int .i64 (M 4), .int .i64 (M 5), .int .i64 (M 6), .int .i64 (M 7), .int .i64 (M 8)]
def mat9 (M : Nat → Int) : Value := .agg #[.int .i64 (M 0), .int .i64 (M 1), .int .i64 (M 2), .int .i64 (M 3), .int .i64 (M 4), .int .i64 (M 5), .int .i64 (M 6), .int .i64 (M 7), .int .i64 (M 8)]
def adjF (M : Nat → Int) : Nat → Int
  | 0 => M 4 * M 8 - M 5 * M 7
  | 1 => M 7 * M 2 - M 8 * M 1
  | 2 => M 1 * M 5 - M 2 * M 4
  | 3 => M 5 * M 6 - M 3 * M 8
  | 4 => M 8 * M 0 - M 6 * M 2
  | 5 => M 2 * M 3 - M 0 * M 5
  | 6 => M 3 * M 7 - M 4 * M 6
  | 7 => M 6 * M 1 - M 7 * M 0
  | 8 => M 0 * M 4 - M 1 * M 3
  | _ => 0
/-- the first k rounds are done -/
def adjK (M : Nat → Int) (k j : Nat) : Int := if j % 3 * 3 + j / 3 < k then adjF M j else 0
theorem adjK_end (M : Nat → Int) : c9 (adjK M 9) = c9 (adjF M) := rfl
theorem mul_bdA {x y A B : Int} (h1 : -A ≤ x) (h2 : x ≤ A) (h3 : -B ≤ y) (h4 : y ≤ B) : -(A * B) ≤ x * y ∧ x * y ≤ A * B := by
  have hA : 0 ≤ A := by omega
  have hB : 0 ≤ B := by omega
  have key : (x * y).natAbs ≤ (A * B).natAbs := by
    rw [Int.natAbs_mul, Int.natAbs_mul]
    exact Nat.mul_le_mul (by omega) (by omega)
  have : 0 ≤ A * B := Int.mul_nonneg hA hB
  omega
theorem mul_bd6 {x y : Int} (h1 : -1000000 ≤ x ∧ x ≤ 1000000) (h2 : -1000000 ≤ y ∧ y ≤ 1000000) : -1000000000000 ≤ x * y ∧ x * y ≤ 1000000000000 := by
  have := mul_bdA h1.1 h1.2 h2.1 h2.2
  omega
theorem adjF_bd {M : Nat → Int} (hM : ∀ k, k < 9 → -1000000 ≤ M k ∧ M k ≤ 1000000) : ∀ j, -2000000000000 ≤ adjF M j ∧ adjF M j ≤ 2000000000000
  | 0 => by have h1 := mul_bd6 (hM 4 (by omega)) (hM 8 (by omega)); have h2 := mul_bd6 (hM 5 (by omega)) (hM 7 (by omega)); show _ ≤ M 4 * M 8 - M 5 * M 7 ∧ M 4 * M 8 - M 5 * M 7 ≤ _; omega
  | 1 => by have h1 := mul_bd6 (hM 7 (by omega)) (hM 2 (by omega)); have h2 := mul_bd6 (hM 8 (by omega)) (hM 1 (by omega)); show _ ≤ M 7 * M 2 - M 8 * M 1 ∧ M 7 * M 2 - M 8 * M 1 ≤ _; omega
  | 2 => by have h1 := mul_bd6 (hM 1 (by omega)) (hM 5 (by omega)); have h2 := mul_bd6 (hM 2 (by omega)) (hM 4 (by omega)); show _ ≤ M 1 * M 5 - M 2 * M 4 ∧ M 1 * M 5 - M 2 * M 4 ≤ _; omega
  | 3 => by have h1 := mul_bd6 (hM 5 (by omega)) (hM 6 (by omega)); have h2 := mul_bd6 (hM 3 (by omega)) (hM 8 (by omega)); show _ ≤ M 5 * M 6 - M 3 * M 8 ∧ M 5 * M 6 - M 3 * M 8 ≤ _; omega
  | 4 => by have h1 := mul_bd6 (hM 8 (by omega)) (hM 0 (by omega)); have h2 := mul_bd6 (hM 6 (by omega)) (hM 2 (by omega)); show _ ≤ M 8 * M 0 - M 6 * M 2 ∧ M 8 * M 0 - M 6 * M 2 ≤ _; omega
  | 5 => by have h1 := mul_bd6 (hM 2 (by omega)) (hM 3 (by omega)); have h2 := mul_bd6 (hM 0 (by omega)) (hM 5 (by omega)); show _ ≤ M 2 * M 3 - M 0 * M 5 ∧ M 2 * M 3 - M 0 * M 5 ≤ _; omega
  | 6 => by have h1 := mul_bd6 (hM 3 (by omega)) (hM 7 (by omega)); have h2 := mul_bd6 (hM 4 (by omega)) (hM 6 (by omega)); show _ ≤ M 3 * M 7 - M 4 * M 6 ∧ M 3 * M 7 - M 4 * M 6 ≤ _; omega
  | 7 => by have h1 := mul_bd6 (hM 6 (by omega)) (hM 1 (by omega)); have h2 := mul_bd6 (hM 7 (by omega)) (hM 0 (by omega)); show _ ≤ M 6 * M 1 - M 7 * M 0 ∧ M 6 * M 1 - M 7 * M 0 ≤ _; omega
  | 8 => by have h1 := mul_bd6 (hM 0 (by omega)) (hM 4 (by omega)); have h2 := mul_bd6 (hM 1 (by omega)) (hM 3 (by omega)); show _ ≤ M 0 * M 4 - M 1 * M 3 ∧ M 0 * M 4 - M 1 * M 3 ≤ _; omega
  | _ + 9 => by show (-2000000000000 : Int) ≤ 0 ∧ (0 : Int) ≤ 2000000000000; omega

set_option maxRecDepth 100000 in
set_option maxHeartbeats 16000000 in
theorem adjugate_any (M : Nat → Int) (hM : ∀ k, k < 9 → -1000000 ≤ M k ∧ M k ≤ 1000000) (w : World) :
    Calls Try.prog 41 #[mat9 M] w fun e w' => e = .returned (mat9 (adjF M)) ∧ Below w.heap.size w w' := by
  unfold mat9
  have HS0 := hide ((((St.start w).box (c9 M) 44).box' [.int .i64 0, .int .i64 0, .int .i64 0, .int .i64 0, .int .i64 0, .int .i64 0, .int .i64 0, .int .i64 0, .int .i64 0] 44 (b := w.heap.size + 1) (by simp)).box' [.int .i64 0, .int .i64 0, .int .i64 0, .int .i64 0, .int .i64 0, .int .i64 0, .int .i64 0, .int .i64 0, .int .i64 0] 44 (b := w.heap.size + 1 + 1) (by simp))
  have HM := hide hM
  clear hM
  unfold c9 at HS0
  go_enter Try.func41, Try.ntmps41
  go_wp2_with fail
  go_loopw [4, 5, 6, 7, 8, 10] (fun _ _ _ _ _ i wr => ∃ k : Nat, k ≤ 9 ∧ i = .int .i64 k ∧ St w [(w.heap.size + 1 + 1, c9 (adjK M k)), (w.heap.size + 1, [.int .i64 0, .int .i64 0, .int .i64 0, .int .i64 0, .int .i64 0, .int .i64 0, .int .i64 0, .int .i64 0, .int .i64 0]), (w.heap.size, c9 M)] [] wr) (fun _ _ _ _ _ i _ => 9 - (intOf i).toNat)
  case atStart => exact ⟨0, by omega, rfl, HS0.out⟩
  case round =>
    obtain ⟨k, hk, rfl, hs⟩ := hrel
    clear HS0
    by_cases hlt : k < 9
    · have HS := hide hs
      clear hs hk
      rcases (show k = 0 ∨ k = 1 ∨ k = 2 ∨ k = 3 ∨ k = 4 ∨ k = 5 ∨ k = 6 ∨ k = 7 ∨ k = 8 by omega) with rfl | rfl | rfl | rfl | rfl | rfl | rfl | rfl | rfl
      · have v1 := (HS.out.cell 2 rfl 4 rfl)
        have v2 := (HS.out.cell 2 rfl 8 rfl)
        have v3 := (HS.out.cell 2 rfl 5 rfl)
        have v4 := (HS.out.cell 2 rfl 7 rfl)
        have vq := (HS.out.cell 0 rfl 0 rfl)
        have fq := (HS.out.free 0 rfl 0 rfl)
        have b1 := mul_bd6 (HM.out 4 (by omega)) (HM.out 8 (by omega))
        have b2 := mul_bd6 (HM.out 5 (by omega)) (HM.out 7 (by omega))
        obtain ⟨Y1, hY1⟩ : ∃ Y, Y = M 4 * M 8 := ⟨_, rfl⟩
        obtain ⟨Y2, hY2⟩ : ∃ Y, Y = M 5 * M 7 := ⟨_, rfl⟩
        obtain ⟨V, hV⟩ : ∃ V, V = Y1 - Y2 := ⟨_, rfl⟩
        rw [← hY1] at b1
        rw [← hY2] at b2
        have w1 : IntKind.i64.wrap (M 4 * M 8) = Y1 := by rw [IntKind.wrap_i64, ← hY1]; omega
        have w2 : IntKind.i64.wrap (M 5 * M 7) = Y2 := by rw [IntKind.wrap_i64, ← hY2]; omega
        have w3 : IntKind.i64.wrap (Y1 - Y2) = V := by rw [IntKind.wrap_i64]; omega
        have hVa : V = adjF M 0 := by rw [hV, hY1, hY2]; rfl
        have HN : Hid (St w [(w.heap.size + 1 + 1, c9 (adjK M 1)), (w.heap.size + 1, [.int .i64 0, .int .i64 0, .int .i64 0, .int .i64 0, .int .i64 0, .int .i64 0, .int .i64 0, .int .i64 0, .int .i64 0]), (w.heap.size, c9 M)] [] (wr.setCell ⟨w.heap.size + 1 + 1, 0, none⟩ (.int .i64 V)).drew) := by
          have := (St.fill (L1 := []) HS.out 0 (.int .i64 V)).drew
          rw [hVa] at this ⊢
          exact this
        clear hY1 hY2 hV hVa HS HM b1 b2
        generalize M 4 = x1 at *
        generalize M 8 = x2 at *
        generalize M 5 = x3 at *
        generalize M 7 = x4 at *
        go_upto_region 7 with fail
        go_region_held (fun w' => w'.cell? ⟨w.heap.size, 4, none⟩ = some (.int .i64 x1) ∧ w'.cell? ⟨w.heap.size, 8, none⟩ = some (.int .i64 x2) ∧ w'.cell? ⟨w.heap.size, 5, none⟩ = some (.int .i64 x3) ∧ w'.cell? ⟨w.heap.size, 7, none⟩ = some (.int .i64 x4))
          (first | exact ⟨v1, v2, v3, v4⟩ | (refine ⟨?_, ?_, ?_, ?_⟩ <;> (refine Eq.trans (World.cell?_setCell_other wr _ _ _ (by simp; try omega)) ?_; first | exact v1 | exact v2 | exact v3 | exact v4)))
          (fail)
        all_goals
          clear v1 v2 v3 v4 vq fq w1 w2 w3
          go_wp2_with fail
          exact ⟨⟨1, by omega, rfl, HN.out⟩, by simp [intOf]⟩
      · have v1 := (HS.out.cell 2 rfl 5 rfl)
        have v2 := (HS.out.cell 2 rfl 6 rfl)
        have v3 := (HS.out.cell 2 rfl 3 rfl)
        have v4 := (HS.out.cell 2 rfl 8 rfl)
        have vq := (HS.out.cell 0 rfl 3 rfl)
        have fq := (HS.out.free 0 rfl 3 rfl)
        have b1 := mul_bd6 (HM.out 5 (by omega)) (HM.out 6 (by omega))
        have b2 := mul_bd6 (HM.out 3 (by omega)) (HM.out 8 (by omega))
        obtain ⟨Y1, hY1⟩ : ∃ Y, Y = M 5 * M 6 := ⟨_, rfl⟩
        obtain ⟨Y2, hY2⟩ : ∃ Y, Y = M 3 * M 8 := ⟨_, rfl⟩
        obtain ⟨V, hV⟩ : ∃ V, V = Y1 - Y2 := ⟨_, rfl⟩
        rw [← hY1] at b1
        rw [← hY2] at b2
        have w1 : IntKind.i64.wrap (M 5 * M 6) = Y1 := by rw [IntKind.wrap_i64, ← hY1]; omega
        have w2 : IntKind.i64.wrap (M 3 * M 8) = Y2 := by rw [IntKind.wrap_i64, ← hY2]; omega
        have w3 : IntKind.i64.wrap (Y1 - Y2) = V := by rw [IntKind.wrap_i64]; omega
        have hVa : V = adjF M 3 := by rw [hV, hY1, hY2]; rfl
        have HN : Hid (St w [(w.heap.size + 1 + 1, c9 (adjK M 2)), (w.heap.size + 1, [.int .i64 0, .int .i64 0, .int .i64 0, .int .i64 0, .int .i64 0, .int .i64 0, .int .i64 0, .int .i64 0, .int .i64 0]), (w.heap.size, c9 M)] [] (wr.setCell ⟨w.heap.size + 1 + 1, 3, none⟩ (.int .i64 V)).drew) := by
          have := (St.fill (L1 := []) HS.out 3 (.int .i64 V)).drew
          rw [hVa] at this ⊢
          exact this
        clear hY1 hY2 hV hVa HS HM b1 b2
        generalize M 5 = x1 at *
        generalize M 6 = x2 at *
        generalize M 3 = x3 at *
        generalize M 8 = x4 at *
        go_upto_region 7 with fail
        go_region_held (fun w' => w'.cell? ⟨w.heap.size, 5, none⟩ = some (.int .i64 x1) ∧ w'.cell? ⟨w.heap.size, 6, none⟩ = some (.int .i64 x2) ∧ w'.cell? ⟨w.heap.size, 3, none⟩ = some (.int .i64 x3) ∧ w'.cell? ⟨w.heap.size, 8, none⟩ = some (.int .i64 x4))
          (first | exact ⟨v1, v2, v3, v4⟩ | (refine ⟨?_, ?_, ?_, ?_⟩ <;> (refine Eq.trans (World.cell?_setCell_other wr _ _ _ (by simp; try omega)) ?_; first | exact v1 | exact v2 | exact v3 | exact v4)))
          (fail)
        all_goals
          clear v1 v2 v3 v4 vq fq w1 w2 w3
          go_wp2_with fail
          exact ⟨⟨2, by omega, rfl, HN.out⟩, by simp [intOf]⟩
      · have v1 := (HS.out.cell 2 rfl 3 rfl)
        have v2 := (HS.out.cell 2 rfl 7 rfl)
        have v3 := (HS.out.cell 2 rfl 4 rfl)
        have v4 := (HS.out.cell 2 rfl 6 rfl)
        have vq := (HS.out.cell 0 rfl 6 rfl)
        have fq := (HS.out.free 0 rfl 6 rfl)
        have b1 := mul_bd6 (HM.out 3 (by omega)) (HM.out 7 (by omega))
        have b2 := mul_bd6 (HM.out 4 (by omega)) (HM.out 6 (by omega))
        obtain ⟨Y1, hY1⟩ : ∃ Y, Y = M 3 * M 7 := ⟨_, rfl⟩
        obtain ⟨Y2, hY2⟩ : ∃ Y, Y = M 4 * M 6 := ⟨_, rfl⟩
        obtain ⟨V, hV⟩ : ∃ V, V = Y1 - Y2 := ⟨_, rfl⟩
        rw [← hY1] at b1
        rw [← hY2] at b2
        have w1 : IntKind.i64.wrap (M 3 * M 7) = Y1 := by rw [IntKind.wrap_i64, ← hY1]; omega
        have w2 : IntKind.i64.wrap (M 4 * M 6) = Y2 := by rw [IntKind.wrap_i64, ← hY2]; omega
        have w3 : IntKind.i64.wrap (Y1 - Y2) = V := by rw [IntKind.wrap_i64]; omega
        have hVa : V = adjF M 6 := by rw [hV, hY1, hY2]; rfl
        have HN : Hid (St w [(w.heap.size + 1 + 1, c9 (adjK M 3)), (w.heap.size + 1, [.int .i64 0, .int .i64 0, .int .i64 0, .int .i64 0, .int .i64 0, .int .i64 0, .int .i64 0, .int .i64 0, .int .i64 0]), (w.heap.size, c9 M)] [] (wr.setCell ⟨w.heap.size + 1 + 1, 6, none⟩ (.int .i64 V)).drew) := by
          have := (St.fill (L1 := []) HS.out 6 (.int .i64 V)).drew
          rw [hVa] at this ⊢
          exact this
        clear hY1 hY2 hV hVa HS HM b1 b2
        generalize M 3 = x1 at *
        generalize M 7 = x2 at *
        generalize M 4 = x3 at *
        generalize M 6 = x4 at *
        go_upto_region 7 with fail
        go_region_held (fun w' => w'.cell? ⟨w.heap.size, 3, none⟩ = some (.int .i64 x1) ∧ w'.cell? ⟨w.heap.size, 7, none⟩ = some (.int .i64 x2) ∧ w'.cell? ⟨w.heap.size, 4, none⟩ = some (.int .i64 x3) ∧ w'.cell? ⟨w.heap.size, 6, none⟩ = some (.int .i64 x4))
          (first | exact ⟨v1, v2, v3, v4⟩ | (refine ⟨?_, ?_, ?_, ?_⟩ <;> (refine Eq.trans (World.cell?_setCell_other wr _ _ _ (by simp; try omega)) ?_; first | exact v1 | exact v2 | exact v3 | exact v4)))
          (fail)
        all_goals
          clear v1 v2 v3 v4 vq fq w1 w2 w3
          go_wp2_with fail
          exact ⟨⟨3, by omega, rfl, HN.out⟩, by simp [intOf]⟩
      · have v1 := (HS.out.cell 2 rfl 7 rfl)
        have v2 := (HS.out.cell 2 rfl 2 rfl)
        have v3 := (HS.out.cell 2 rfl 8 rfl)
        have v4 := (HS.out.cell 2 rfl 1 rfl)
        have vq := (HS.out.cell 0 rfl 1 rfl)
        have fq := (HS.out.free 0 rfl 1 rfl)
        have b1 := mul_bd6 (HM.out 7 (by omega)) (HM.out 2 (by omega))
        have b2 := mul_bd6 (HM.out 8 (by omega)) (HM.out 1 (by omega))
        obtain ⟨Y1, hY1⟩ : ∃ Y, Y = M 7 * M 2 := ⟨_, rfl⟩
        obtain ⟨Y2, hY2⟩ : ∃ Y, Y = M 8 * M 1 := ⟨_, rfl⟩
        obtain ⟨V, hV⟩ : ∃ V, V = Y1 - Y2 := ⟨_, rfl⟩
        rw [← hY1] at b1
        rw [← hY2] at b2
        have w1 : IntKind.i64.wrap (M 7 * M 2) = Y1 := by rw [IntKind.wrap_i64, ← hY1]; omega
        have w2 : IntKind.i64.wrap (M 8 * M 1) = Y2 := by rw [IntKind.wrap_i64, ← hY2]; omega
        have w3 : IntKind.i64.wrap (Y1 - Y2) = V := by rw [IntKind.wrap_i64]; omega
        have hVa : V = adjF M 1 := by rw [hV, hY1, hY2]; rfl
        have HN : Hid (St w [(w.heap.size + 1 + 1, c9 (adjK M 4)), (w.heap.size + 1, [.int .i64 0, .int .i64 0, .int .i64 0, .int .i64 0, .int .i64 0, .int .i64 0, .int .i64 0, .int .i64 0, .int .i64 0]), (w.heap.size, c9 M)] [] (wr.setCell ⟨w.heap.size + 1 + 1, 1, none⟩ (.int .i64 V)).drew) := by
          have := (St.fill (L1 := []) HS.out 1 (.int .i64 V)).drew
          rw [hVa] at this ⊢
          exact this
        clear hY1 hY2 hV hVa HS HM b1 b2
        generalize M 7 = x1 at *
        generalize M 2 = x2 at *
        generalize M 8 = x3 at *
        generalize M 1 = x4 at *
        go_upto_region 7 with fail
        go_region_held (fun w' => w'.cell? ⟨w.heap.size, 7, none⟩ = some (.int .i64 x1) ∧ w'.cell? ⟨w.heap.size, 2, none⟩ = some (.int .i64 x2) ∧ w'.cell? ⟨w.heap.size, 8, none⟩ = some (.int .i64 x3) ∧ w'.cell? ⟨w.heap.size, 1, none⟩ = some (.int .i64 x4))
          (first | exact ⟨v1, v2, v3, v4⟩ | (refine ⟨?_, ?_, ?_, ?_⟩ <;> (refine Eq.trans (World.cell?_setCell_other wr _ _ _ (by simp; try omega)) ?_; first | exact v1 | exact v2 | exact v3 | exact v4)))
          (fail)
        all_goals
          clear v1 v2 v3 v4 vq fq w1 w2 w3
          go_wp2_with fail
          exact ⟨⟨4, by omega, rfl, HN.out⟩, by simp [intOf]⟩
      · have v1 := (HS.out.cell 2 rfl 8 rfl)
        have v2 := (HS.out.cell 2 rfl 0 rfl)
        have v3 := (HS.out.cell 2 rfl 6 rfl)
        have v4 := (HS.out.cell 2 rfl 2 rfl)
        have vq := (HS.out.cell 0 rfl 4 rfl)
        have fq := (HS.out.free 0 rfl 4 rfl)
        have b1 := mul_bd6 (HM.out 8 (by omega)) (HM.out 0 (by omega))
        have b2 := mul_bd6 (HM.out 6 (by omega)) (HM.out 2 (by omega))
        obtain ⟨Y1, hY1⟩ : ∃ Y, Y = M 8 * M 0 := ⟨_, rfl⟩
        obtain ⟨Y2, hY2⟩ : ∃ Y, Y = M 6 * M 2 := ⟨_, rfl⟩
        obtain ⟨V, hV⟩ : ∃ V, V = Y1 - Y2 := ⟨_, rfl⟩
        rw [← hY1] at b1
        rw [← hY2] at b2
        have w1 : IntKind.i64.wrap (M 8 * M 0) = Y1 := by rw [IntKind.wrap_i64, ← hY1]; omega
        have w2 : IntKind.i64.wrap (M 6 * M 2) = Y2 := by rw [IntKind.wrap_i64, ← hY2]; omega
        have w3 : IntKind.i64.wrap (Y1 - Y2) = V := by rw [IntKind.wrap_i64]; omega
        have hVa : V = adjF M 4 := by rw [hV, hY1, hY2]; rfl
        have HN : Hid (St w [(w.heap.size + 1 + 1, c9 (adjK M 5)), (w.heap.size + 1, [.int .i64 0, .int .i64 0, .int .i64 0, .int .i64 0, .int .i64 0, .int .i64 0, .int .i64 0, .int .i64 0, .int .i64 0]), (w.heap.size, c9 M)] [] (wr.setCell ⟨w.heap.size + 1 + 1, 4, none⟩ (.int .i64 V)).drew) := by
          have := (St.fill (L1 := []) HS.out 4 (.int .i64 V)).drew
          rw [hVa] at this ⊢
          exact this
        clear hY1 hY2 hV hVa HS HM b1 b2
        generalize M 8 = x1 at *
        generalize M 0 = x2 at *
        generalize M 6 = x3 at *
        generalize M 2 = x4 at *
        go_upto_region 7 with fail
        go_region_held (fun w' => w'.cell? ⟨w.heap.size, 8, none⟩ = some (.int .i64 x1) ∧ w'.cell? ⟨w.heap.size, 0, none⟩ = some (.int .i64 x2) ∧ w'.cell? ⟨w.heap.size, 6, none⟩ = some (.int .i64 x3) ∧ w'.cell? ⟨w.heap.size, 2, none⟩ = some (.int .i64 x4))
          (first | exact ⟨v1, v2, v3, v4⟩ | (refine ⟨?_, ?_, ?_, ?_⟩ <;> (refine Eq.trans (World.cell?_setCell_other wr _ _ _ (by simp; try omega)) ?_; first | exact v1 | exact v2 | exact v3 | exact v4)))
          (fail)
        all_goals
          clear v1 v2 v3 v4 vq fq w1 w2 w3
          go_wp2_with fail
          exact ⟨⟨5, by omega, rfl, HN.out⟩, by simp [intOf]⟩
      · have v1 := (HS.out.cell 2 rfl 6 rfl)
        have v2 := (HS.out.cell 2 rfl 1 rfl)
        have v3 := (HS.out.cell 2 rfl 7 rfl)
        have v4 := (HS.out.cell 2 rfl 0 rfl)
        have vq := (HS.out.cell 0 rfl 7 rfl)
        have fq := (HS.out.free 0 rfl 7 rfl)
        have b1 := mul_bd6 (HM.out 6 (by omega)) (HM.out 1 (by omega))
        have b2 := mul_bd6 (HM.out 7 (by omega)) (HM.out 0 (by omega))
        obtain ⟨Y1, hY1⟩ : ∃ Y, Y = M 6 * M 1 := ⟨_, rfl⟩
        obtain ⟨Y2, hY2⟩ : ∃ Y, Y = M 7 * M 0 := ⟨_, rfl⟩
        obtain ⟨V, hV⟩ : ∃ V, V = Y1 - Y2 := ⟨_, rfl⟩
        rw [← hY1] at b1
        rw [← hY2] at b2
        have w1 : IntKind.i64.wrap (M 6 * M 1) = Y1 := by rw [IntKind.wrap_i64, ← hY1]; omega
        have w2 : IntKind.i64.wrap (M 7 * M 0) = Y2 := by rw [IntKind.wrap_i64, ← hY2]; omega
        have w3 : IntKind.i64.wrap (Y1 - Y2) = V := by rw [IntKind.wrap_i64]; omega
        have hVa : V = adjF M 7 := by rw [hV, hY1, hY2]; rfl
        have HN : Hid (St w [(w.heap.size + 1 + 1, c9 (adjK M 6)), (w.heap.size + 1, [.int .i64 0, .int .i64 0, .int .i64 0, .int .i64 0, .int .i64 0, .int .i64 0, .int .i64 0, .int .i64 0, .int .i64 0]), (w.heap.size, c9 M)] [] (wr.setCell ⟨w.heap.size + 1 + 1, 7, none⟩ (.int .i64 V)).drew) := by
          have := (St.fill (L1 := []) HS.out 7 (.int .i64 V)).drew
          rw [hVa] at this ⊢
          exact this
        clear hY1 hY2 hV hVa HS HM b1 b2
        generalize M 6 = x1 at *
        generalize M 1 = x2 at *
        generalize M 7 = x3 at *
        generalize M 0 = x4 at *
        go_upto_region 7 with fail
        go_region_held (fun w' => w'.cell? ⟨w.heap.size, 6, none⟩ = some (.int .i64 x1) ∧ w'.cell? ⟨w.heap.size, 1, none⟩ = some (.int .i64 x2) ∧ w'.cell? ⟨w.heap.size, 7, none⟩ = some (.int .i64 x3) ∧ w'.cell? ⟨w.heap.size, 0, none⟩ = some (.int .i64 x4))
          (first | exact ⟨v1, v2, v3, v4⟩ | (refine ⟨?_, ?_, ?_, ?_⟩ <;> (refine Eq.trans (World.cell?_setCell_other wr _ _ _ (by simp; try omega)) ?_; first | exact v1 | exact v2 | exact v3 | exact v4)))
          (fail)
        all_goals
          clear v1 v2 v3 v4 vq fq w1 w2 w3
          go_wp2_with fail
          exact ⟨⟨6, by omega, rfl, HN.out⟩, by simp [intOf]⟩
      · have v1 := (HS.out.cell 2 rfl 1 rfl)
        have v2 := (HS.out.cell 2 rfl 5 rfl)
        have v3 := (HS.out.cell 2 rfl 2 rfl)
        have v4 := (HS.out.cell 2 rfl 4 rfl)
        have vq := (HS.out.cell 0 rfl 2 rfl)
        have fq := (HS.out.free 0 rfl 2 rfl)
        have b1 := mul_bd6 (HM.out 1 (by omega)) (HM.out 5 (by omega))
        have b2 := mul_bd6 (HM.out 2 (by omega)) (HM.out 4 (by omega))
        obtain ⟨Y1, hY1⟩ : ∃ Y, Y = M 1 * M 5 := ⟨_, rfl⟩
        obtain ⟨Y2, hY2⟩ : ∃ Y, Y = M 2 * M 4 := ⟨_, rfl⟩
        obtain ⟨V, hV⟩ : ∃ V, V = Y1 - Y2 := ⟨_, rfl⟩
        rw [← hY1] at b1
        rw [← hY2] at b2
        have w1 : IntKind.i64.wrap (M 1 * M 5) = Y1 := by rw [IntKind.wrap_i64, ← hY1]; omega
        have w2 : IntKind.i64.wrap (M 2 * M 4) = Y2 := by rw [IntKind.wrap_i64, ← hY2]; omega
        have w3 : IntKind.i64.wrap (Y1 - Y2) = V := by rw [IntKind.wrap_i64]; omega
        have hVa : V = adjF M 2 := by rw [hV, hY1, hY2]; rfl
        have HN : Hid (St w [(w.heap.size + 1 + 1, c9 (adjK M 7)), (w.heap.size + 1, [.int .i64 0, .int .i64 0, .int .i64 0, .int .i64 0, .int .i64 0, .int .i64 0, .int .i64 0, .int .i64 0, .int .i64 0]), (w.heap.size, c9 M)] [] (wr.setCell ⟨w.heap.size + 1 + 1, 2, none⟩ (.int .i64 V)).drew) := by
          have := (St.fill (L1 := []) HS.out 2 (.int .i64 V)).drew
          rw [hVa] at this ⊢
          exact this
        clear hY1 hY2 hV hVa HS HM b1 b2
        generalize M 1 = x1 at *
        generalize M 5 = x2 at *
        generalize M 2 = x3 at *
        generalize M 4 = x4 at *
        go_upto_region 7 with fail
        go_region_held (fun w' => w'.cell? ⟨w.heap.size, 1, none⟩ = some (.int .i64 x1) ∧ w'.cell? ⟨w.heap.size, 5, none⟩ = some (.int .i64 x2) ∧ w'.cell? ⟨w.heap.size, 2, none⟩ = some (.int .i64 x3) ∧ w'.cell? ⟨w.heap.size, 4, none⟩ = some (.int .i64 x4))
          (first | exact ⟨v1, v2, v3, v4⟩ | (refine ⟨?_, ?_, ?_, ?_⟩ <;> (refine Eq.trans (World.cell?_setCell_other wr _ _ _ (by simp; try omega)) ?_; first | exact v1 | exact v2 | exact v3 | exact v4)))
          (fail)
        all_goals
          clear v1 v2 v3 v4 vq fq w1 w2 w3
          go_wp2_with fail
          exact ⟨⟨7, by omega, rfl, HN.out⟩, by simp [intOf]⟩
      · have v1 := (HS.out.cell 2 rfl 2 rfl)
        have v2 := (HS.out.cell 2 rfl 3 rfl)
        have v3 := (HS.out.cell 2 rfl 0 rfl)
        have v4 := (HS.out.cell 2 rfl 5 rfl)
        have vq := (HS.out.cell 0 rfl 5 rfl)
        have fq := (HS.out.free 0 rfl 5 rfl)
        have b1 := mul_bd6 (HM.out 2 (by omega)) (HM.out 3 (by omega))
        have b2 := mul_bd6 (HM.out 0 (by omega)) (HM.out 5 (by omega))
        obtain ⟨Y1, hY1⟩ : ∃ Y, Y = M 2 * M 3 := ⟨_, rfl⟩
        obtain ⟨Y2, hY2⟩ : ∃ Y, Y = M 0 * M 5 := ⟨_, rfl⟩
        obtain ⟨V, hV⟩ : ∃ V, V = Y1 - Y2 := ⟨_, rfl⟩
        rw [← hY1] at b1
        rw [← hY2] at b2
        have w1 : IntKind.i64.wrap (M 2 * M 3) = Y1 := by rw [IntKind.wrap_i64, ← hY1]; omega
        have w2 : IntKind.i64.wrap (M 0 * M 5) = Y2 := by rw [IntKind.wrap_i64, ← hY2]; omega
        have w3 : IntKind.i64.wrap (Y1 - Y2) = V := by rw [IntKind.wrap_i64]; omega
        have hVa : V = adjF M 5 := by rw [hV, hY1, hY2]; rfl
        have HN : Hid (St w [(w.heap.size + 1 + 1, c9 (adjK M 8)), (w.heap.size + 1, [.int .i64 0, .int .i64 0, .int .i64 0, .int .i64 0, .int .i64 0, .int .i64 0, .int .i64 0, .int .i64 0, .int .i64 0]), (w.heap.size, c9 M)] [] (wr.setCell ⟨w.heap.size + 1 + 1, 5, none⟩ (.int .i64 V)).drew) := by
          have := (St.fill (L1 := []) HS.out 5 (.int .i64 V)).drew
          rw [hVa] at this ⊢
          exact this
        clear hY1 hY2 hV hVa HS HM b1 b2
        generalize M 2 = x1 at *
        generalize M 3 = x2 at *
        generalize M 0 = x3 at *
        generalize M 5 = x4 at *
        go_upto_region 7 with fail
        go_region_held (fun w' => w'.cell? ⟨w.heap.size, 2, none⟩ = some (.int .i64 x1) ∧ w'.cell? ⟨w.heap.size, 3, none⟩ = some (.int .i64 x2) ∧ w'.cell? ⟨w.heap.size, 0, none⟩ = some (.int .i64 x3) ∧ w'.cell? ⟨w.heap.size, 5, none⟩ = some (.int .i64 x4))
          (first | exact ⟨v1, v2, v3, v4⟩ | (refine ⟨?_, ?_, ?_, ?_⟩ <;> (refine Eq.trans (World.cell?_setCell_other wr _ _ _ (by simp; try omega)) ?_; first | exact v1 | exact v2 | exact v3 | exact v4)))
          (fail)
        all_goals
          clear v1 v2 v3 v4 vq fq w1 w2 w3
          go_wp2_with fail
          exact ⟨⟨8, by omega, rfl, HN.out⟩, by simp [intOf]⟩
      · have v1 := (HS.out.cell 2 rfl 0 rfl)
        have v2 := (HS.out.cell 2 rfl 4 rfl)
        have v3 := (HS.out.cell 2 rfl 1 rfl)
        have v4 := (HS.out.cell 2 rfl 3 rfl)
        have vq := (HS.out.cell 0 rfl 8 rfl)
        have fq := (HS.out.free 0 rfl 8 rfl)
        have b1 := mul_bd6 (HM.out 0 (by omega)) (HM.out 4 (by omega))
        have b2 := mul_bd6 (HM.out 1 (by omega)) (HM.out 3 (by omega))
        obtain ⟨Y1, hY1⟩ : ∃ Y, Y = M 0 * M 4 := ⟨_, rfl⟩
        obtain ⟨Y2, hY2⟩ : ∃ Y, Y = M 1 * M 3 := ⟨_, rfl⟩
        obtain ⟨V, hV⟩ : ∃ V, V = Y1 - Y2 := ⟨_, rfl⟩
        rw [← hY1] at b1
        rw [← hY2] at b2
        have w1 : IntKind.i64.wrap (M 0 * M 4) = Y1 := by rw [IntKind.wrap_i64, ← hY1]; omega
        have w2 : IntKind.i64.wrap (M 1 * M 3) = Y2 := by rw [IntKind.wrap_i64, ← hY2]; omega
        have w3 : IntKind.i64.wrap (Y1 - Y2) = V := by rw [IntKind.wrap_i64]; omega
        have hVa : V = adjF M 8 := by rw [hV, hY1, hY2]; rfl
        have HN : Hid (St w [(w.heap.size + 1 + 1, c9 (adjK M 9)), (w.heap.size + 1, [.int .i64 0, .int .i64 0, .int .i64 0, .int .i64 0, .int .i64 0, .int .i64 0, .int .i64 0, .int .i64 0, .int .i64 0]), (w.heap.size, c9 M)] [] (wr.setCell ⟨w.heap.size + 1 + 1, 8, none⟩ (.int .i64 V)).drew) := by
          have := (St.fill (L1 := []) HS.out 8 (.int .i64 V)).drew
          rw [hVa] at this ⊢
          exact this
        clear hY1 hY2 hV hVa HS HM b1 b2
        generalize M 0 = x1 at *
        generalize M 4 = x2 at *
        generalize M 1 = x3 at *
        generalize M 3 = x4 at *
        go_upto_region 7 with fail
        go_region_held (fun w' => w'.cell? ⟨w.heap.size, 0, none⟩ = some (.int .i64 x1) ∧ w'.cell? ⟨w.heap.size, 4, none⟩ = some (.int .i64 x2) ∧ w'.cell? ⟨w.heap.size, 1, none⟩ = some (.int .i64 x3) ∧ w'.cell? ⟨w.heap.size, 3, none⟩ = some (.int .i64 x4))
          (first | exact ⟨v1, v2, v3, v4⟩ | (refine ⟨?_, ?_, ?_, ?_⟩ <;> (refine Eq.trans (World.cell?_setCell_other wr _ _ _ (by simp; try omega)) ?_; first | exact v1 | exact v2 | exact v3 | exact v4)))
          (fail)
        all_goals
          clear v1 v2 v3 v4 vq fq w1 w2 w3
          go_wp2_with fail
          exact ⟨⟨9, by omega, rfl, HN.out⟩, by simp [intOf]⟩
    · obtain rfl : k = 9 := by omega
      have HS : Hid (St w [(w.heap.size + 1 + 1, c9 (adjF M)), (w.heap.size + 1, [.int .i64 0, .int .i64 0, .int .i64 0, .int .i64 0, .int .i64 0, .int .i64 0, .int .i64 0, .int .i64 0, .int .i64 0]), (w.heap.size, c9 M)] [] wr) := hs
      clear hs hk hlt HM
      have v0 := HS.out.cell 0 rfl 0 rfl
      have z0 := HS.out.cell 1 rfl 0 rfl
      have y0 := HS.out.free 1 rfl 0 rfl
      have v1 := HS.out.cell 0 rfl 1 rfl
      have z1 := HS.out.cell 1 rfl 1 rfl
      have y1 := HS.out.free 1 rfl 1 rfl
      have v2 := HS.out.cell 0 rfl 2 rfl
      have z2 := HS.out.cell 1 rfl 2 rfl
      have y2 := HS.out.free 1 rfl 2 rfl
      have v3 := HS.out.cell 0 rfl 3 rfl
      have z3 := HS.out.cell 1 rfl 3 rfl
      have y3 := HS.out.free 1 rfl 3 rfl
      have v4 := HS.out.cell 0 rfl 4 rfl
      have z4 := HS.out.cell 1 rfl 4 rfl
      have y4 := HS.out.free 1 rfl 4 rfl
      have v5 := HS.out.cell 0 rfl 5 rfl
      have z5 := HS.out.cell 1 rfl 5 rfl
      have y5 := HS.out.free 1 rfl 5 rfl
      have v6 := HS.out.cell 0 rfl 6 rfl
      have z6 := HS.out.cell 1 rfl 6 rfl
      have y6 := HS.out.free 1 rfl 6 rfl
      have v7 := HS.out.cell 0 rfl 7 rfl
      have z7 := HS.out.cell 1 rfl 7 rfl
      have y7 := HS.out.free 1 rfl 7 rfl
      have v8 := HS.out.cell 0 rfl 8 rfl
      have z8 := HS.out.cell 1 rfl 8 rfl
      have y8 := HS.out.free 1 rfl 8 rfl
      have HB := hide (((((((((HS.out.below.setCell (p := ⟨w.heap.size + 1, 0, none⟩) (Nat.le_succ _) (.int .i64 (adjF M 0))).setCell (p := ⟨w.heap.size + 1, 1, none⟩) (Nat.le_succ _) (.int .i64 (adjF M 1))).setCell (p := ⟨w.heap.size + 1, 2, none⟩) (Nat.le_succ _) (.int .i64 (adjF M 2))).setCell (p := ⟨w.heap.size + 1, 3, none⟩) (Nat.le_succ _) (.int .i64 (adjF M 3))).setCell (p := ⟨w.heap.size + 1, 4, none⟩) (Nat.le_succ _) (.int .i64 (adjF M 4))).setCell (p := ⟨w.heap.size + 1, 5, none⟩) (Nat.le_succ _) (.int .i64 (adjF M 5))).setCell (p := ⟨w.heap.size + 1, 6, none⟩) (Nat.le_succ _) (.int .i64 (adjF M 6))).setCell (p := ⟨w.heap.size + 1, 7, none⟩) (Nat.le_succ _) (.int .i64 (adjF M 7))).setCell (p := ⟨w.heap.size + 1, 8, none⟩) (Nat.le_succ _) (.int .i64 (adjF M 8)))
      clear HS
      go_wp2_with fail
      exact bodyPost_ret (v := .agg #[.int .i64 (adjF M 0), .int .i64 (adjF M 1), .int .i64 (adjF M 2), .int .i64 (adjF M 3), .int .i64 (adjF M 4), .int .i64 (adjF M 5), .int .i64 (adjF M 6), .int .i64 (adjF M 7), .int .i64 (adjF M 8)]) (by simp [results, Try.results41, go_sem, z0, z1, z2, z3, z4, z5, z6, z7, z8]) rfl ⟨rfl, HB.out⟩

end Go.Proofs.Ytjdbiaoheoialaa


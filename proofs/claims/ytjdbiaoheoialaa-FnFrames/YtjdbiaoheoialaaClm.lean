/- Columns of a matrix that is an array of nine, its determinant. -/
import Derived.Test.YtjdbiaoheoialaaAdj
import Derived.Test.YtjdbiaoheoialaaDet
import Derived.Deep.RegionHeld3
import Derived.Deep.DrawnRows
namespace Go.Proofs.Ytjdbiaoheoialaa
open Go.RowKit Go.Lib
attribute [local go_sem ↓] Go.wp_at_zero Go.wp_at_succ

def vec3 (V : Nat → Int) : Value := .agg #[.int .i64 (V 0), .int .i64 (V 1), .int .i64 (V 2)]

set_option maxRecDepth 100000 in
set_option maxHeartbeats 4000000 in
theorem column0_any (A : Nat → Int) (w : World) :
    Calls Try.prog 38 #[mat9 A, .int .i64 0] w fun e w' => e = .returned (.agg #[.int .i64 (A 0), .int .i64 (A 3), .int .i64 (A 6)]) ∧ Below w.heap.size w w' := by
  have HS0 := hide (((St.start w).box (c9 A) 44).box' [.int .i64 0, .int .i64 0, .int .i64 0] 46 (b := w.heap.size + 1) (by simp))
  obtain ⟨wA, hA⟩ : ∃ wA, wA = (w.alloc (.cells (c9 A).toArray 44)).alloc (.cells [.int .i64 0, .int .i64 0, .int .i64 0].toArray 46) := ⟨_, rfl⟩
  have hA' : (w.alloc (.cells #[.int .i64 (A 0), .int .i64 (A 1), .int .i64 (A 2), .int .i64 (A 3), .int .i64 (A 4), .int .i64 (A 5), .int .i64 (A 6), .int .i64 (A 7), .int .i64 (A 8)] 44)).alloc (.cells #[.int .i64 0, .int .i64 0, .int .i64 0] 46) = wA := hA.symm
  rw [← hA] at HS0
  have v0 := HS0.out.cell 1 rfl 0 rfl
  have v1 := HS0.out.cell 1 rfl 3 rfl
  have v2 := HS0.out.cell 1 rfl 6 rfl
  obtain ⟨z0, z1, z2⟩ := HS0.out.im3 0 rfl
  obtain ⟨e0, e1, e2⟩ := HS0.out.fr3 0 rfl
  have HB := hide (((HS0.out.below.setCell (p := ⟨w.heap.size + 1, 0, none⟩) (Nat.le_succ _) (.int .i64 (A 0))).setCell (p := ⟨w.heap.size + 1, 1, none⟩) (Nat.le_succ _) (.int .i64 (A 3))).setCell (p := ⟨w.heap.size + 1, 2, none⟩) (Nat.le_succ _) (.int .i64 (A 6))).drew
  unfold mat9
  have q1 : IntKind.i64.wrap ((3 : Int) + 0) = 3 := by decide
  have q2 : IntKind.i64.wrap ((6 : Int) + 0) = 6 := by decide
  have q3 : IntKind.i64.wrap (3 : Int) = 3 := by decide
  have q4 : IntKind.i64.wrap (6 : Int) = 6 := by decide
  clear hA HS0
  go_enter Try.func38, Try.ntmps38
  go_upto_region 1 with fail
  clear hA'
  go_region_held3 (fun w' => w'.cell? ⟨w.heap.size, 0, none⟩ = some (.int .i64 (A 0)) ∧ w'.cell? ⟨w.heap.size, 3, none⟩ = some (.int .i64 (A 3)) ∧ w'.cell? ⟨w.heap.size, 6, none⟩ = some (.int .i64 (A 6)))
    (first | exact ⟨v0, v1, v2⟩ | go_keep)
    (fail)
  all_goals
    go_wp2_with fail
    exact bodyPost_ret (v := .agg #[.int .i64 (A 0), .int .i64 (A 3), .int .i64 (A 6)]) (by simp [results, Try.results38, go_sem, z0, z1, z2]) rfl ⟨rfl, HB.out⟩

set_option maxRecDepth 100000 in
set_option maxHeartbeats 4000000 in
theorem column1_any (A : Nat → Int) (w : World) :
    Calls Try.prog 38 #[mat9 A, .int .i64 1] w fun e w' => e = .returned (.agg #[.int .i64 (A 1), .int .i64 (A 4), .int .i64 (A 7)]) ∧ Below w.heap.size w w' := by
  have HS0 := hide (((St.start w).box (c9 A) 44).box' [.int .i64 0, .int .i64 0, .int .i64 0] 46 (b := w.heap.size + 1) (by simp))
  obtain ⟨wA, hA⟩ : ∃ wA, wA = (w.alloc (.cells (c9 A).toArray 44)).alloc (.cells [.int .i64 0, .int .i64 0, .int .i64 0].toArray 46) := ⟨_, rfl⟩
  have hA' : (w.alloc (.cells #[.int .i64 (A 0), .int .i64 (A 1), .int .i64 (A 2), .int .i64 (A 3), .int .i64 (A 4), .int .i64 (A 5), .int .i64 (A 6), .int .i64 (A 7), .int .i64 (A 8)] 44)).alloc (.cells #[.int .i64 0, .int .i64 0, .int .i64 0] 46) = wA := hA.symm
  rw [← hA] at HS0
  have v0 := HS0.out.cell 1 rfl 1 rfl
  have v1 := HS0.out.cell 1 rfl 4 rfl
  have v2 := HS0.out.cell 1 rfl 7 rfl
  obtain ⟨z0, z1, z2⟩ := HS0.out.im3 0 rfl
  obtain ⟨e0, e1, e2⟩ := HS0.out.fr3 0 rfl
  have HB := hide (((HS0.out.below.setCell (p := ⟨w.heap.size + 1, 0, none⟩) (Nat.le_succ _) (.int .i64 (A 1))).setCell (p := ⟨w.heap.size + 1, 1, none⟩) (Nat.le_succ _) (.int .i64 (A 4))).setCell (p := ⟨w.heap.size + 1, 2, none⟩) (Nat.le_succ _) (.int .i64 (A 7))).drew
  unfold mat9
  have q1 : IntKind.i64.wrap ((3 : Int) + 1) = 4 := by decide
  have q2 : IntKind.i64.wrap ((6 : Int) + 1) = 7 := by decide
  have q3 : IntKind.i64.wrap (4 : Int) = 4 := by decide
  have q4 : IntKind.i64.wrap (7 : Int) = 7 := by decide
  clear hA HS0
  go_enter Try.func38, Try.ntmps38
  go_upto_region 1 with fail
  clear hA'
  go_region_held3 (fun w' => w'.cell? ⟨w.heap.size, 1, none⟩ = some (.int .i64 (A 1)) ∧ w'.cell? ⟨w.heap.size, 4, none⟩ = some (.int .i64 (A 4)) ∧ w'.cell? ⟨w.heap.size, 7, none⟩ = some (.int .i64 (A 7)))
    (first | exact ⟨v0, v1, v2⟩ | go_keep)
    (fail)
  all_goals
    go_wp2_with fail
    exact bodyPost_ret (v := .agg #[.int .i64 (A 1), .int .i64 (A 4), .int .i64 (A 7)]) (by simp [results, Try.results38, go_sem, z0, z1, z2]) rfl ⟨rfl, HB.out⟩

set_option maxRecDepth 100000 in
set_option maxHeartbeats 4000000 in
theorem column2_any (A : Nat → Int) (w : World) :
    Calls Try.prog 38 #[mat9 A, .int .i64 2] w fun e w' => e = .returned (.agg #[.int .i64 (A 2), .int .i64 (A 5), .int .i64 (A 8)]) ∧ Below w.heap.size w w' := by
  have HS0 := hide (((St.start w).box (c9 A) 44).box' [.int .i64 0, .int .i64 0, .int .i64 0] 46 (b := w.heap.size + 1) (by simp))
  obtain ⟨wA, hA⟩ : ∃ wA, wA = (w.alloc (.cells (c9 A).toArray 44)).alloc (.cells [.int .i64 0, .int .i64 0, .int .i64 0].toArray 46) := ⟨_, rfl⟩
  have hA' : (w.alloc (.cells #[.int .i64 (A 0), .int .i64 (A 1), .int .i64 (A 2), .int .i64 (A 3), .int .i64 (A 4), .int .i64 (A 5), .int .i64 (A 6), .int .i64 (A 7), .int .i64 (A 8)] 44)).alloc (.cells #[.int .i64 0, .int .i64 0, .int .i64 0] 46) = wA := hA.symm
  rw [← hA] at HS0
  have v0 := HS0.out.cell 1 rfl 2 rfl
  have v1 := HS0.out.cell 1 rfl 5 rfl
  have v2 := HS0.out.cell 1 rfl 8 rfl
  obtain ⟨z0, z1, z2⟩ := HS0.out.im3 0 rfl
  obtain ⟨e0, e1, e2⟩ := HS0.out.fr3 0 rfl
  have HB := hide (((HS0.out.below.setCell (p := ⟨w.heap.size + 1, 0, none⟩) (Nat.le_succ _) (.int .i64 (A 2))).setCell (p := ⟨w.heap.size + 1, 1, none⟩) (Nat.le_succ _) (.int .i64 (A 5))).setCell (p := ⟨w.heap.size + 1, 2, none⟩) (Nat.le_succ _) (.int .i64 (A 8))).drew
  unfold mat9
  have q1 : IntKind.i64.wrap ((3 : Int) + 2) = 5 := by decide
  have q2 : IntKind.i64.wrap ((6 : Int) + 2) = 8 := by decide
  have q3 : IntKind.i64.wrap (5 : Int) = 5 := by decide
  have q4 : IntKind.i64.wrap (8 : Int) = 8 := by decide
  clear hA HS0
  go_enter Try.func38, Try.ntmps38
  go_upto_region 1 with fail
  clear hA'
  go_region_held3 (fun w' => w'.cell? ⟨w.heap.size, 2, none⟩ = some (.int .i64 (A 2)) ∧ w'.cell? ⟨w.heap.size, 5, none⟩ = some (.int .i64 (A 5)) ∧ w'.cell? ⟨w.heap.size, 8, none⟩ = some (.int .i64 (A 8)))
    (first | exact ⟨v0, v1, v2⟩ | go_keep)
    (fail)
  all_goals
    go_wp2_with fail
    exact bodyPost_ret (v := .agg #[.int .i64 (A 2), .int .i64 (A 5), .int .i64 (A 8)]) (by simp [results, Try.results38, go_sem, z0, z1, z2]) rfl ⟨rfl, HB.out⟩

end Go.Proofs.Ytjdbiaoheoialaa

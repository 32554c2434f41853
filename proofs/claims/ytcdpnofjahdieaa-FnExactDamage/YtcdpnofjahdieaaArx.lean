/- Archives: two marks held against each other. -/
import Derived.Test.YtcdpnofjahdieaaArc
import Derived.Deep.RegionHeld3
namespace Go.Proofs.Ytcdpnofjahdieaa
open Go.RowKit

set_option maxRecDepth 100000 in
set_option maxHeartbeats 1000000 in
theorem compareMarks_any (a : ByteArray) (v : Int) (b : ByteArray) (u : Int) (w : World) :
    Calls Try.prog 62 #[.agg #[.string a, .int .i64 v], .agg #[.string b, .int .i64 u]] w fun e w' => e = .returned (.int .i64 (cmpM a v b u)) ∧ Below w.heap.size w w' := by
  have c1 := strCompare_any a b
  have c2 := cmpCompare_any v u
  have HB0 : Hid (∀ o o' o'' , Below w.heap.size w (((w.alloc o).alloc o').alloc o'')) := fun o o' o'' => ((bnew _ _).alloc (by simp) _).alloc (by simp; omega) _
  have HC : Hid (cmpM a v b u = if cmpT a b = 0 then cmpI v u else cmpT a b) := rfl
  obtain ⟨W, hW⟩ : ∃ W, W = (w.alloc (.cells #[.string a, .int .i64 v] 92)).alloc (.cells #[.string b, .int .i64 u] 92) := ⟨_, rfl⟩
  have HWB : Hid (Below w.heap.size w W) := by show Below _ _ _; rw [hW]; exact (bnew _ _).alloc (by simp) _
  have i0 : W.cell? ⟨w.heap.size, 0, none⟩ = some (.string a) := by rw [hW]; simp [go_sem]
  have i1 : W.cell? ⟨w.heap.size, 1, none⟩ = some (.int .i64 v) := by rw [hW]; simp [go_sem]
  have j0 : W.cell? ⟨w.heap.size + 1, 0, none⟩ = some (.string b) := by rw [hW]; simp [go_sem]
  have j1 : W.cell? ⟨w.heap.size + 1, 1, none⟩ = some (.int .i64 u) := by rw [hW]; simp [go_sem]
  have hW' := hW.symm
  clear hW
  generalize cmpT a b = X at *
  generalize cmpI v u = Y at *
  have cO := fun w' h0 h1 => cmpOr_any W.heap.size 2 X Y w' h0 h1
  obtain ⟨R, hR⟩ : ∃ R, R = if X = 0 then Y else X := ⟨_, rfl⟩
  simp only [← hR] at cO
  rw [← hR] at HC
  clear hR
  have k0 : ((W.alloc (.cells #[.int .i64 X, .int .i64 Y] 3)).drew).cell? ⟨W.heap.size, 0, none⟩ = some (.int .i64 X) := by simp [go_sem]
  have k1 : ((W.alloc (.cells #[.int .i64 X, .int .i64 Y] 3)).drew).cell? ⟨W.heap.size, 1, none⟩ = some (.int .i64 Y) := by simp [go_sem]
  have HBF : Hid (Below w.heap.size w ((W.alloc (.cells #[.int .i64 X, .int .i64 Y] 3)).drew)) := (HWB.out.alloc HWB.out.size _).drew
  have SK0 := hide (And.intro i0 (And.intro i1 (And.intro j0 j1)))
  have SKd : Hid (W.drew.cell? ⟨w.heap.size, 0, none⟩ = some (.string a) ∧ W.drew.cell? ⟨w.heap.size, 1, none⟩ = some (.int .i64 v) ∧ W.drew.cell? ⟨w.heap.size + 1, 0, none⟩ = some (.string b) ∧ W.drew.cell? ⟨w.heap.size + 1, 1, none⟩ = some (.int .i64 u)) := SK0.out
  have SK1 : Hid (((W.alloc (.cells #[.int .i64 X, .int .i64 Y] 3)).drew).cell? ⟨w.heap.size, 0, none⟩ = some (.string a) ∧ ((W.alloc (.cells #[.int .i64 X, .int .i64 Y] 3)).drew).cell? ⟨w.heap.size, 1, none⟩ = some (.int .i64 v) ∧ ((W.alloc (.cells #[.int .i64 X, .int .i64 Y] 3)).drew).cell? ⟨w.heap.size + 1, 0, none⟩ = some (.string b) ∧ ((W.alloc (.cells #[.int .i64 X, .int .i64 Y] 3)).drew).cell? ⟨w.heap.size + 1, 1, none⟩ = some (.int .i64 u)) :=
    ⟨((bnew W _).drew.cell (p := ⟨w.heap.size, 0, none⟩) (World.block_lt_of_cell? W _ i0)).trans i0, ((bnew W _).drew.cell (p := ⟨w.heap.size, 1, none⟩) (World.block_lt_of_cell? W _ i1)).trans i1, ((bnew W _).drew.cell (p := ⟨w.heap.size + 1, 0, none⟩) (World.block_lt_of_cell? W _ j0)).trans j0, ((bnew W _).drew.cell (p := ⟨w.heap.size + 1, 1, none⟩) (World.block_lt_of_cell? W _ j1)).trans j1⟩
  go_enter Try.func62, Try.ntmps62
  go_upto_region 1 with fail
  go_region_held (fun (w' : World) => w'.cell? ⟨w.heap.size, 0, none⟩ = some (.string a) ∧ w'.cell? ⟨w.heap.size, 1, none⟩ = some (.int .i64 v) ∧ w'.cell? ⟨w.heap.size + 1, 0, none⟩ = some (.string b) ∧ w'.cell? ⟨w.heap.size + 1, 1, none⟩ = some (.int .i64 u))
    (first | with_reducible exact SKd.out | with_reducible exact SK1.out)
    (first | (go_at_call 65; (with_reducible refine (c1 _).mono ?_); rintro e w1 ⟨rfl, rfl⟩) | (go_at_call 66; (with_reducible refine (c2 _).mono ?_); rintro e w1 ⟨rfl, rfl⟩) | (go_at_call 64; (with_reducible refine (cO _ k0 k1).mono ?_); rintro e w1 ⟨rfl, rfl⟩))
  all_goals
    clear c1 c2 cO k0 k1 i0 i1 j0 j1
    go_wp2_with fail
    go_ret
    exact ⟨by rw [HC.out]; rfl, HBF.out⟩

end Go.Proofs.Ytcdpnofjahdieaa

/- The table of the orders' forms, cell by cell, out of what the row lists. -/
import Derived.Test.YtbfpfpoodoflpaaDoorRow
import Derived.LaidMore
import Derived.Stop.Joined
import Derived.ChangeVars
namespace Go.Proofs.YtbfpfpoodoflpaaDoor
open Go.ChangeShapes Go.WideShapes Go.ChangeAt Go.RowKit Go.Joins

/-- the numbers of the form of a kind, from leastAxis on -/
def fnum : Nat → Nat → Int
  | 1, 0 => 1 | 1, 1 => 3 | 1, 2 => 1 | 1, 3 => 3
  | 2, 0 => 1 | 2, 1 => 2 | 2, 2 => -1000 | 2, 3 => 1000 | 2, 4 => 1 | 2, 5 => 10000
  | 3, 2 => 1 | 3, 3 => 256
  | 4, 2 => 1 | 4, 3 => 10000
  | 5, 3 => 100000
  | 6, 2 => 1 | 6, 3 => 64
  | _, _ => 0
/-- its word -/
def fword : Nat → List UInt8
  | 1 => [114, 102] | 2 => [103, 114, 97, 100] | 3 => [114, 101, 97, 100] | 4 => [119, 97, 105, 116] | 5 => [97, 116] | 6 => [108, 111, 111, 112] | 7 => [101, 110, 100]
  | _ => []
/-- the table lies at the first variable's block -/
def Frm (w : World) : Prop := ∀ k, k < 8 → w.cell? ⟨0, k * 7, none⟩ = some (.string ⟨⟨fword k⟩⟩) ∧ ∀ j, j < 6 → w.cell? ⟨0, k * 7 + 1 + j, none⟩ = some (.int .i64 (fnum k j))
theorem Frm.below {w w' : World} (h : Frm w) (hb : Below w.heap.size w w') : Frm w' := fun k hk =>
  ⟨(hb.cell (p := ⟨0, k * 7, none⟩) (World.block_lt_of_cell? w _ (h k hk).1)).trans (h k hk).1, fun j hj => (hb.cell (p := ⟨0, k * 7 + 1 + j, none⟩) (World.block_lt_of_cell? w _ ((h k hk).2 j hj))).trans ((h k hk).2 j hj)⟩

theorem Tryd.cells9 : Tryd.prog.cellsOf 9 = 1 := by kernel_rfl
theorem Tryd.cells91 : Tryd.prog.cellsOf 91 = 7 := by kernel_rfl
theorem gForms : Tryd.prog.globalNamed "loop.example/g00050/impl.orderForms" = some 0 := by kernel_rfl
theorem tForms : (Tryd.prog.globals[0]?).map (·.type) = some 92 := by kernel_rfl

set_option maxRecDepth 100000 in
theorem row_cells {H : Type} {enc : TypeId × Value → H} {W : World} {base : Nat} {spare : Nat → Bool} {held : Bool} {n : Nat} {cs : List Value} {s : List UInt8} {a0 a1 a2 a3 a4 a5 : Int} {p : List MemPlace}
    (h : DataW.trod enc Tryd.prog W base spare held n 91 cs = some (.agg [.lit (.string s), .lit (.int .i64 a0), .lit (.int .i64 a1), .lit (.int .i64 a2), .lit (.int .i64 a3), .lit (.int .i64 a4), .lit (.int .i64 a5)], p)) :
    cs = [.string ⟨⟨s⟩⟩, .int .i64 a0, .int .i64 a1, .int .i64 a2, .int .i64 a3, .int .i64 a4, .int .i64 a5] := by
  obtain ⟨ys, m, _, hx, hl, hlen, hel⟩ := DataW.trod_struct Tryd.underlying91 h
  rw [Tryd.cells91] at hl
  simp only [Prod.mk.injEq, DataW.agg.injEq] at hx
  match ys, hlen, hx.1, cs, hl with
  | [y0, y1, y2, y3, y4, y5, y6], _, hx, [c0, c1, c2, c3, c4, c5, c6], _ =>
    simp only [List.map_cons, List.map_nil, List.cons.injEq] at hx
    obtain ⟨e0, e1, e2, e3, e4, e5, e6, _⟩ := hx
    have g0 : DataW.trod enc Tryd.prog W base spare held m 9 (([c0, c1, c2, c3, c4, c5, c6].drop 0).take (Tryd.prog.cellsOf 9)) = some y0 := hel 0 _ rfl
    rw [Tryd.cells9] at g0
    replace g0 : DataW.trod enc Tryd.prog W base spare held m 9 [c0] = some y0 := g0
    have g1 : DataW.trod enc Tryd.prog W base spare held m 2 (([c0, c1, c2, c3, c4, c5, c6].drop 1).take (Tryd.prog.cellsOf 2)) = some y1 := hel 1 _ rfl
    rw [Tryd.cells2] at g1
    replace g1 : DataW.trod enc Tryd.prog W base spare held m 2 [c1] = some y1 := g1
    have g2 : DataW.trod enc Tryd.prog W base spare held m 2 (([c0, c1, c2, c3, c4, c5, c6].drop 2).take (Tryd.prog.cellsOf 2)) = some y2 := hel 2 _ rfl
    rw [Tryd.cells2] at g2
    replace g2 : DataW.trod enc Tryd.prog W base spare held m 2 [c2] = some y2 := g2
    have g3 : DataW.trod enc Tryd.prog W base spare held m 2 (([c0, c1, c2, c3, c4, c5, c6].drop 3).take (Tryd.prog.cellsOf 2)) = some y3 := hel 3 _ rfl
    rw [Tryd.cells2] at g3
    replace g3 : DataW.trod enc Tryd.prog W base spare held m 2 [c3] = some y3 := g3
    have g4 : DataW.trod enc Tryd.prog W base spare held m 2 (([c0, c1, c2, c3, c4, c5, c6].drop 4).take (Tryd.prog.cellsOf 2)) = some y4 := hel 4 _ rfl
    rw [Tryd.cells2] at g4
    replace g4 : DataW.trod enc Tryd.prog W base spare held m 2 [c4] = some y4 := g4
    have g5 : DataW.trod enc Tryd.prog W base spare held m 2 (([c0, c1, c2, c3, c4, c5, c6].drop 5).take (Tryd.prog.cellsOf 2)) = some y5 := hel 5 _ rfl
    rw [Tryd.cells2] at g5
    replace g5 : DataW.trod enc Tryd.prog W base spare held m 2 [c5] = some y5 := g5
    have g6 : DataW.trod enc Tryd.prog W base spare held m 2 (([c0, c1, c2, c3, c4, c5, c6].drop 6).take (Tryd.prog.cellsOf 2)) = some y6 := hel 6 _ rfl
    rw [Tryd.cells2] at g6
    replace g6 : DataW.trod enc Tryd.prog W base spare held m 2 [c6] = some y6 := g6
    obtain ⟨b, h0, hy0, _⟩ := DataW.trod_string Tryd.underlying9 g0
    obtain ⟨z1, h1, hy1, _⟩ := DataW.trod_int Tryd.underlying2 g1
    obtain ⟨z2, h2, hy2, _⟩ := DataW.trod_int Tryd.underlying2 g2
    obtain ⟨z3, h3, hy3, _⟩ := DataW.trod_int Tryd.underlying2 g3
    obtain ⟨z4, h4, hy4, _⟩ := DataW.trod_int Tryd.underlying2 g4
    obtain ⟨z5, h5, hy5, _⟩ := DataW.trod_int Tryd.underlying2 g5
    obtain ⟨z6, h6, hy6, _⟩ := DataW.trod_int Tryd.underlying2 g6
    subst hy0 hy1 hy2 hy3 hy4 hy5 hy6
    simp only [DataW.lit.injEq, Lit.string.injEq, Lit.int.injEq, true_and] at e0 e1 e2 e3 e4 e5 e6
    simp only [List.cons.injEq, and_true] at h0 h1 h2 h3 h4 h5 h6
    subst h0 h1 h2 h3 h4 h5 h6 e0 e1 e2 e3 e4 e5 e6
    rfl

set_option maxRecDepth 100000 in
/-- the variable's datum gives the table's cells -/
theorem frm_of {H : Type} {enc : TypeId × Value → H} {W : World} {base : Nat} {spare : Nat → Bool} {held : Bool} {n : Nat} {cs : Array Value} {p : List MemPlace} (hv : W.var? Tryd.prog "loop.example/g00050/impl.orderForms" = some cs)
    (h : DataW.trod enc Tryd.prog W base spare held n 92 cs.toList = some (Rows.laid_loop_example_g00050_impl_orderForms, p)) : Frm W := by
  obtain ⟨xs, m, _, hx, hl, hn, hel⟩ := DataW.trod_array Tryd.underlying92 h
  rw [Tryd.cells91] at hel
  simp only [Prod.mk.injEq, Rows.laid_loop_example_g00050_impl_orderForms, DataW.agg.injEq] at hx
  have hcell := fun i => World.var?_cell gForms hv i
  match xs, hn, hx.1, hel with
  | [x0, x1, x2, x3, x4, x5, x6, x7], _, hx, hel =>
    simp only [List.map_cons, List.map_nil, List.cons.injEq] at hx
    obtain ⟨e0, e1, e2, e3, e4, e5, e6, e7, _⟩ := hx
    have rows : ∀ k, k < 8 → (cs.toList.drop (k * 7)).take 7 = [.string ⟨⟨fword k⟩⟩, .int .i64 (fnum k 0), .int .i64 (fnum k 1), .int .i64 (fnum k 2), .int .i64 (fnum k 3), .int .i64 (fnum k 4), .int .i64 (fnum k 5)] := by
      intro k hk
      have hk' := hel k hk
      match k, hk, hk' with
      | 0, _, hk' => obtain ⟨d, q⟩ := x0; exact row_cells (by rw [hk', List.getElem?_cons_zero]; rw [show d = _ from e0.symm]; rfl)
      | 1, _, hk' => obtain ⟨d, q⟩ := x1; exact row_cells (by rw [hk']; simp only [List.getElem?_cons_zero, List.getElem?_cons_succ]; rw [show d = _ from e1.symm]; rfl)
      | 2, _, hk' => obtain ⟨d, q⟩ := x2; exact row_cells (by rw [hk']; simp only [List.getElem?_cons_zero, List.getElem?_cons_succ]; rw [show d = _ from e2.symm]; rfl)
      | 3, _, hk' => obtain ⟨d, q⟩ := x3; exact row_cells (by rw [hk']; simp only [List.getElem?_cons_zero, List.getElem?_cons_succ]; rw [show d = _ from e3.symm]; rfl)
      | 4, _, hk' => obtain ⟨d, q⟩ := x4; exact row_cells (by rw [hk']; simp only [List.getElem?_cons_zero, List.getElem?_cons_succ]; rw [show d = _ from e4.symm]; rfl)
      | 5, _, hk' => obtain ⟨d, q⟩ := x5; exact row_cells (by rw [hk']; simp only [List.getElem?_cons_zero, List.getElem?_cons_succ]; rw [show d = _ from e5.symm]; rfl)
      | 6, _, hk' => obtain ⟨d, q⟩ := x6; exact row_cells (by rw [hk']; simp only [List.getElem?_cons_zero, List.getElem?_cons_succ]; rw [show d = _ from e6.symm]; rfl)
      | 7, _, hk' => obtain ⟨d, q⟩ := x7; exact row_cells (by rw [hk']; simp only [List.getElem?_cons_zero, List.getElem?_cons_succ]; rw [show d = _ from e7.symm]; rfl)
    have at7 : ∀ k j, k < 8 → j < 7 → W.cell? ⟨0, k * 7 + j, none⟩ = ([.string ⟨⟨fword k⟩⟩, .int .i64 (fnum k 0), .int .i64 (fnum k 1), .int .i64 (fnum k 2), .int .i64 (fnum k 3), .int .i64 (fnum k 4), .int .i64 (fnum k 5)] : List Value)[j]? := by
      intro k j hk hj
      rw [hcell, ← rows k hk, List.getElem?_take_of_lt hj, List.getElem?_drop, Array.getElem?_toList]
    intro k hk
    refine ⟨at7 k 0 hk (by omega), fun j hj => ?_⟩
    have := at7 k (1 + j) hk (by omega)
    rw [Nat.add_assoc, this]
    match j, hj with
    | 0, _ => rfl
    | 1, _ => rfl
    | 2, _ => rfl
    | 3, _ => rfl
    | 4, _ => rfl
    | 5, _ => rfl

theorem frm_of_laid {W : World} (h : laidMetH Tryd.prog [("loop.example/g00050/impl.orderForms", Rows.laid_loop_example_g00050_impl_orderForms)] W) : Frm W := by
  rw [MakeChecks.laidMetH_plain _ _ _ (by kernel_rfl)] at h
  obtain ⟨ps, ⟨g0, t0, cs0, f0, p0, q0, hg0, ht0, hv0, hd0, _, _⟩, _, _⟩ := h
  obtain rfl := Option.some.inj (gForms.symm.trans hg0)
  obtain rfl := Option.some.inj (tForms.symm.trans ht0)
  exact frm_of hv0 hd0

end Go.Proofs.YtbfpfpoodoflpaaDoor

/- The twelve turns: the table that lies at the door, and the specification's list. -/
import Derived.Test.YtkgkdhocmglklaaDoorTul
import Derived.Test.YtkgkdhocmglklaaDoorTrt
import Derived.Test.YtkgkdhocmglklaaDoorRows
import Derived.LaidMore
import Derived.Stop.Joined
import Derived.ChangeVars
import Derived.MakeChecks
import Derived.ProofKit
import Derived.OpenShut
import Derived.ChangeOld
import Derived.Lib.SmallJoins
import Derived.Test.YtkgkdhocmglklaaDoorRwi
namespace Go.Proofs.YtkgkdhocmglklaaDoor
open Go.ChangeShapes Go.WideShapes Go.ChangeAt Go.RowKit Go.Joins

theorem gTable : Tryd.prog.globalNamed "loop.example/g00050/impl.turnTable" = some 0 := by kernel_rfl
theorem tTable : (Tryd.prog.globals[0]?).map (·.type) = some 63 := by kernel_rfl
theorem cellsTurn : Tryd.prog.cellsOf 28 = 4 := by kernel_rfl

/-- the table, turn by turn -/
def tbL : List (List Int) := [[2, 0, 0, 0], [1, 1, 1, 1], [1, 1, 1, -1], [1, 1, -1, 1], [1, 1, -1, -1], [1, -1, 1, 1], [1, -1, 1, -1], [1, -1, -1, 1], [1, -1, -1, -1], [0, 2, 0, 0], [0, 0, 2, 0], [0, 0, 0, 2]]
/-- the table, number by number -/
def tbA : List Int := tbL.flatten
/-- the table lies at the first variable's block -/
def Tbl (w : World) : Prop := ∀ j, j < 48 → w.cell? ⟨0, j, none⟩ = some (.int .i64 (tbA.getD j 0))
theorem Tbl.below {B : Nat} {w w' : World} (h : Tbl w) (hb : Below B w w') (hB : w.heap.size ≤ B) : Tbl w' := fun j hj =>
  (hb.cell (p := ⟨0, j, none⟩) (Nat.lt_of_lt_of_le (World.block_lt_of_cell? w _ (h j hj)) hB)).trans (h j hj)

/-- the cells of a struct of numbers whose numbers are known -/
theorem ints_data {H : Type} {enc : TypeId × Value → H} {W : World} {base : Nat} {spare : Nat → Bool} {held : Bool} {n : Nat} {cs : List Value} {y : DataW H × List MemPlace} {t : TypeId} {fs : Array Field} {m : Nat} {zs : List Int}
    (ht : Tryd.prog.underlying t = some (.struct fs)) (hm : Tryd.prog.cellsOf t = m) (hf : fs.toList.map (fun f => (f.type, f.offset)) = (List.range m).map fun i => (2, i))
    (h : DataW.trod enc Tryd.prog W base spare held n t cs = some y) (hz : y.1 = .agg (zs.map fun z => .lit (.int .i64 z))) : ∀ i, i < m → cs[i]? = some (.int .i64 (zs.getD i 0)) := by
  obtain ⟨xs, n', _, hy, hl, hlen, hx⟩ := DataW.trod_struct ht h
  intro i hi
  have hi' : (fs.toList.map (fun f => (f.type, f.offset)))[i]? = some (2, i) := by
    rw [hf]; simp [hi]
  rw [List.getElem?_map] at hi'
  cases hfi : fs.toList[i]? with
  | none => rw [hfi] at hi'; cases hi'
  | some f =>
    rw [hfi] at hi'
    simp only [Option.map_some, Option.some.injEq, Prod.mk.injEq] at hi'
    obtain ⟨h2, h3⟩ := hi'
    have hx := hx i f (by rw [← hfi]; simp)
    have hsz : i < xs.length := by
      rw [hlen]
      have := (List.getElem?_eq_some_iff.1 hfi).1
      simpa using this
    rw [h2, h3, Tryd.cells2] at hx
    have hc : i < cs.length := by rw [hl, hm]; exact hi
    have e1 : (cs.drop i).take 1 = [cs[i]] := by
      rw [List.drop_eq_getElem_cons hc]; rfl
    rw [e1, List.getElem?_eq_getElem hsz] at hx
    rw [List.getElem?_eq_getElem hc]
    obtain ⟨b, hb, hyb, _⟩ := DataW.trod_int Tryd.underlying2 hx
    rw [hy] at hz
    simp only [DataW.agg.injEq] at hz
    have hq : (xs.map (·.1))[i]? = (zs.map fun z => (.lit (.int .i64 z) : DataW H))[i]? := by rw [hz]
    rw [List.getElem?_map, List.getElem?_map, List.getElem?_eq_getElem hsz, Option.map_some, hyb] at hq
    cases hzi : zs[i]? with
    | none => rw [hzi] at hq; cases hq
    | some z =>
      rw [hzi] at hq
      simp only [Option.map_some, Option.some.injEq, DataW.lit.injEq, Lit.int.injEq, true_and] at hq
      rw [List.getD_eq_getElem?_getD, hzi, Option.getD_some, ← hq]
      simpa using hb

set_option maxRecDepth 100000 in
theorem tbl_of {H : Type} {enc : TypeId × Value → H} {W : World} {base : Nat} {spare : Nat → Bool} {held : Bool} {n : Nat} {cs : Array Value} {p : List MemPlace} (hv : W.var? Tryd.prog "loop.example/g00050/impl.turnTable" = some cs)
    (h : DataW.trod enc Tryd.prog W base spare held n 63 cs.toList = some (Rows.laid_loop_example_g00050_impl_turnTable, p)) : Tbl W := by
  obtain ⟨xs, m, _, hx, hl, hn, hel⟩ := DataW.trod_array Tryd.underlying63 h
  rw [cellsTurn] at hel
  have hlaid : (Rows.laid_loop_example_g00050_impl_turnTable : DataW H) = .agg (tbL.map fun zs => .agg (zs.map fun z => .lit (.int .i64 z))) := rfl
  rw [hlaid] at hx
  simp only [Prod.mk.injEq, DataW.agg.injEq] at hx
  have hcell := fun i => World.var?_cell gTable hv i
  have one : ∀ q, q < 12 → ∀ i, i < 4 → cs.toList[q * 4 + i]? = some (.int .i64 ((tbL.getD q []).getD i 0)) := by
    intro q hq i hi
    have hsz : q < xs.length := by omega
    have h1 := hel q (by omega)
    rw [List.getElem?_eq_getElem hsz] at h1
    have h2 : (tbL.map fun zs => (.agg (zs.map fun z => .lit (.int .i64 z)) : DataW H))[q]? = (xs.map (·.1))[q]? := by rw [hx.1]
    have hq' : q < tbL.length := hq
    rw [List.getElem?_map, List.getElem?_map, List.getElem?_eq_getElem hsz, List.getElem?_eq_getElem hq', Option.map_some, Option.map_some, Option.some.injEq] at h2
    have h3 := ints_data Tryd.underlying28 cellsTurn (by decide +kernel) h1 h2.symm i hi
    rw [List.getElem?_take_of_lt hi, List.getElem?_drop] at h3
    rw [h3, List.getD_eq_getElem?_getD (l := tbL), List.getElem?_eq_getElem hq', Option.getD_some]
  have tb : ∀ j, j < 48 → tbA.getD j 0 = (tbL.getD (j / 4) []).getD (j % 4) 0 := by decide +kernel
  intro j hj
  rw [hcell, ← Array.getElem?_toList, tb j hj]
  have := one (j / 4) (by omega) (j % 4) (by omega)
  rwa [Nat.div_add_mod'] at this

theorem tbl_of_laid {W : World} (h : laidMetH Tryd.prog [("loop.example/g00050/impl.turnTable", Rows.laid_loop_example_g00050_impl_turnTable)] W) : Tbl W := by
  rw [MakeChecks.laidMetH_plain _ _ _ (by kernel_rfl)] at h
  obtain ⟨ps, ⟨g0, t0, cs0, f0, p0, q0, hg0, ht0, hv0, hd0, _, _⟩, _, _⟩ := h
  obtain rfl := Option.some.inj (gTable.symm.trans hg0)
  obtain rfl := Option.some.inj (tTable.symm.trans ht0)
  exact tbl_of hv0 hd0

/-- what the specification's loop has at a number -/
def tnF (a b c d : Int) : Int := if a = 0 then (if b = 0 then (if c = 0 then d else c) else b) else a
def tnK (a b c d : Int) : Bool := tkB a b c d && decide (0 < tnF a b c d)
def tnT (n : Nat) : List Int := [(n : Int) / 125 - 2, (n : Int) / 25 % 5 - 2, (n : Int) / 5 % 5 - 2, (n : Int) % 5 - 2]
def tnQ (n : Nat) : Bool := tnK ((n : Int) / 125 - 2) ((n : Int) / 25 % 5 - 2) ((n : Int) / 5 % 5 - 2) ((n : Int) % 5 - 2)
def tnL : Nat → List Int
  | 0 => []
  | m + 1 => if tnQ (624 - m) = true then tnL m ++ tnT (624 - m) else tnL m
def tnC : Nat → Nat
  | 0 => 0
  | m + 1 => if tnQ (624 - m) = true then tnC m + 1 else tnC m
theorem tnC_le : ∀ m, tnC m ≤ m
  | 0 => Nat.le_refl _
  | m + 1 => by
    have := tnC_le m
    unfold tnC
    split <;> omega
set_option maxRecDepth 100000 in
theorem tnL_all : tnL 625 = tbA ∧ tnC 625 = 12 := by decide +kernel

end Go.Proofs.YtkgkdhocmglklaaDoor

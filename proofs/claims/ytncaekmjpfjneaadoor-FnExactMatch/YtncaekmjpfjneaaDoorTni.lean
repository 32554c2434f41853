/- The twelve turns: the program. -/
import Derived.Test.YtncaekmjpfjneaaDoorTns
namespace Go.Proofs.YtncaekmjpfjneaaDoor
open Go.RowKit

theorem tb_under : Tryd.prog.underlying 49 = some (.array 12 41) := by kernel_rfl
theorem tb_info : (Tryd.prog.info? 49).map (·.size) = some (ints tbA).length := by kernel_rfl
theorem tb_take : ∀ k, k < 12 → tbA.take (4 * (k + 1)) = tbA.take (4 * k) ++ [tbA.getD (4 * k) 0, tbA.getD (4 * k + 1) 0, tbA.getD (4 * k + 2) 0, tbA.getD (4 * k + 3) 0] := by decide +kernel
theorem tb_range {w : World} (h : Tbl w) : w.rangeAt 0 0 (ints tbA) := fun j v hv => by
  have hj : j < 48 := by
    have := (List.getElem?_eq_some_iff.1 hv).1
    rw [ints_length] at this
    exact this
  have h1 := h j hj
  rw [Nat.zero_add, h1, ← hv]
  unfold ints
  have hj' : j < tbA.length := hj
  rw [List.getElem?_map, List.getElem?_eq_getElem hj', List.getD_eq_getElem?_getD, List.getElem?_eq_getElem hj']
  rfl
set_option maxRecDepth 100000 in
theorem tb_index (k : Nat) (hk : k < 12) (w : World) : (Instr.index 49 (.agg (ints tbA).toArray) (.int .i64 (k : Int))).run Tryd.prog w = .ok (vTurn (tbA.getD (4 * k) 0) (tbA.getD (4 * k + 1) 0) (tbA.getD (4 * k + 2) 0) (tbA.getD (4 * k + 3) 0)) w := by
  match k, hk with
  | 0, _ => rfl
  | 1, _ => rfl
  | 2, _ => rfl
  | 3, _ => rfl
  | 4, _ => rfl
  | 5, _ => rfl
  | 6, _ => rfl
  | 7, _ => rfl
  | 8, _ => rfl
  | 9, _ => rfl
  | 10, _ => rfl
  | 11, _ => rfl

end Go.Proofs.YtncaekmjpfjneaaDoor

/- Marks of lists of Leafs. -/
import Derived.Test.YtfpeobkncileiaaLfs
namespace Go.Proofs.Ytfpeobkncileiaa
open Go.RowKit

theorem Part.mkLeaf {b n k : Nat} {g : Nat → Int} {w : World} (h : Part b n k g w) (hk : k + 3 ≤ n) {y0 y1 y2 : Int} (e0 : y0 = g (k)) (e1 : y1 = g (k + 1)) (e2 : y2 = g (k + 2)) :
    Part b n (k + 3) g (((w.setCell ⟨b, k, none⟩ (.int .i64 y0)).setCell ⟨b, k + 1, none⟩ (.int .i64 y1)).setCell ⟨b, k + 2, none⟩ (.int .i64 y2)) := by
  have h0 := h.step (by omega) y0 e0
  have h1 := h0.step (by omega) y1 e1
  exact h1.step (by omega) y2 e2

end Go.Proofs.Ytfpeobkncileiaa

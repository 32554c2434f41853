/- Boxes of numbers that iterators read. -/
import Derived.Test.YtedjnemijeaeoaaItn
import Derived.Test.YtedjnemijeaeoaaNum
import Derived.Test.YtedjnemijeaeoaaPri
namespace Go.Proofs.Ytedjnemijeaeoaa
open Go.RowKit Go.Shelf

attribute [local go_sem] Oper.semAt_some

theorem natdiv (x m : Nat) : (x : Int).tdiv (m : Int) = ((x / m : Nat) : Int) := by
  rw [Int.tdiv_eq_ediv_of_nonneg (by omega)]; rfl
theorem natmod (x m : Nat) : (x : Int).tmod (m : Int) = ((x % m : Nat) : Int) := by
  rw [Int.tmod_eq_emod_of_nonneg (by omega)]; rfl

/-- three boxes of one number each -/
def Bx3 (b1 b2 b3 : Nat) (x1 x2 x3 : Int) (w : World) : Prop := w.cell? ⟨b1, 0, none⟩ = some (.int .i64 x1) ∧ w.cell? ⟨b2, 0, none⟩ = some (.int .i64 x2) ∧ w.cell? ⟨b3, 0, none⟩ = some (.int .i64 x3)
theorem Bx3.ks {b1 b2 b3 : Nat} {x1 x2 x3 : Int} {S : Nat → Prop} {w w' : World} (h : Bx3 b1 b2 b3 x1 x2 x3 w) (hk : KS S w w') (h1 : S b1) (h2 : S b2) (h3 : S b3) : Bx3 b1 b2 b3 x1 x2 x3 w' :=
  ⟨hk.cell (p := ⟨b1, 0, none⟩) h1 h.1, hk.cell (p := ⟨b2, 0, none⟩) h2 h.2.1, hk.cell (p := ⟨b3, 0, none⟩) h3 h.2.2⟩
theorem Bx3.lt {b1 b2 b3 : Nat} {x1 x2 x3 : Int} {w : World} (h : Bx3 b1 b2 b3 x1 x2 x3 w) : b1 < w.heap.size ∧ b2 < w.heap.size ∧ b3 < w.heap.size :=
  ⟨World.block_lt_of_cell? w _ h.1, World.block_lt_of_cell? w _ h.2.1, World.block_lt_of_cell? w _ h.2.2⟩

end Go.Proofs.Ytedjnemijeaeoaa

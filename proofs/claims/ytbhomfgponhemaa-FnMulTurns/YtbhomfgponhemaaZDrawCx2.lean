/- The draw of two complex numbers. -/
import Derived.Test.YtbhomfgponhemaaZDrawCx
import Derived.RegionTactic
import Derived.BigRegion
namespace Go.Proofs.Ytbhomfgponhemaa.Z
open Ieee Go.RowKit Fl
attribute [local go_sem] run_store_float alloc_drewN setCell_drewN shape?_drewN run_fneg

theorem Box.lt {r x y : Nat} {w : World} (h : Box r x y w) : r < w.heap.size := World.block_lt_of_cell? w _ h.c0
theorem Box.below {r x y : Nat} {w w' : World} (h : Box r x y w) (hb : Below w.heap.size w w') : Box r x y w' :=
  ⟨(hb.cell (p := ⟨r, 0, none⟩) h.lt).trans h.c0, (hb.cell (p := ⟨r, 1, none⟩) h.lt).trans h.c1, (hb.frozen (p := ⟨r, 0, none⟩) h.lt).trans h.f0, (hb.frozen (p := ⟨r, 1, none⟩) h.lt).trans h.f1⟩
theorem below_one (w : World) (o : Obj) : Below w.heap.size w (w.alloc o) := (Below.refl _ _).alloc (Nat.le_refl _) o

/-- the table of odd numbers -/
abbrev otab : Array Value := #[.int .i64 (-1), .int .i64 0, .int .i64 1, .int .i64 2147483648, .int .i64 (-2147483648), .int .i64 1099511627776, .int .i64 4611686018427387904, .int .i64 (-4611686018427387904), .int .i64 9223372036854775807, .int .i64 (-9223372036854775808)]

theorem otab_at (k : Nat) (h : k < 10) : ∃ n : Int, otab[k]? = some (.int .i64 n) := by
  have : k = 0 ∨ k = 1 ∨ k = 2 ∨ k = 3 ∨ k = 4 ∨ k = 5 ∨ k = 6 ∨ k = 7 ∨ k = 8 ∨ k = 9 := by omega
  rcases this with rfl | rfl | rfl | rfl | rfl | rfl | rfl | rfl | rfl | rfl <;> exact ⟨_, rfl⟩

theorem otab_cell (w : World) (k : Nat) : (w.alloc (.cells otab 2)).cell? ⟨w.heap.size, k, none⟩ = otab[k]? :=
  World.cell?_alloc_new w otab 2 k

/-- what a draw of a whole number gives, whatever its bounds -/
def DrawnI (p : Nat) (a : Option Addr) (len cap : Nat) (w : World) (e : Ending) (w' : World) : Prop :=
  ∃ x : Int, e = .returned (.int .i64 x) ∧ Cur p a len cap w' ∧ Kept p w w'

end Go.Proofs.Ytbhomfgponhemaa.Z

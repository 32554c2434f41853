/- Lists of bytes: the law's own copies, comparisons and marks. -/
import Derived.Test.YtcdpnofjahdieaaIls
import Derived.Test.YtcdpnofjahdieaaByl
namespace Go.Proofs.Ytcdpnofjahdieaa
open Go.RowKit

/-- bytes are there -/
def PxU (a : Option Addr) (len : Nat) (f : Nat → Int) (w : World) : Prop := len = 0 ∨ ∃ b off, a = some ⟨b, off, none⟩ ∧ ∀ k, k < len → w.cell? ⟨b, off + k, none⟩ = some (.int .u8 (f k))
/-- a byte as a value -/
abbrev u8V (f : Nat → Int) : Nat → Value := fun k => .int .u8 (f k)
theorem PxU.below {a : Option Addr} {len : Nat} {f : Nat → Int} {w w' : World} (h : PxU a len f w) (hb : Below w.heap.size w w') : PxU a len f w' := by
  rcases h with h | ⟨b, off, ha, hc⟩
  · exact .inl h
  · exact .inr ⟨b, off, ha, fun k hk => (hb.cell (p := ⟨b, off + k, none⟩) (World.block_lt_of_cell? w _ (hc k hk))).trans (hc k hk)⟩
theorem PxU.at {a : Option Addr} {len k : Nat} {f : Nat → Int} {w : World} (h : PxU a len f w) (hk : k < len) : ∃ b off, a = some ⟨b, off, none⟩ ∧ w.cell? ⟨b, off + k, none⟩ = some (.int .u8 (f k)) := by
  rcases h with h | ⟨b, off, ha, hc⟩
  · omega
  · exact ⟨b, off, ha, hc k hk⟩
theorem OwV.pxU {a : Option Addr} {b len : Nat} {f : Nat → Int} {w : World} (h : OwV a b len (u8V f) w) : PxU a len f w := by
  rcases h with h | ⟨ha, h⟩
  · exact .inl h
  · exact .inr ⟨b, 0, ha, fun k hk => by rw [Nat.zero_add]; exact (h k hk).1⟩
theorem RowV.owV {b len : Nat} {f : Nat → Value} {w : World} (h : RowV b len f w) : OwV (some ⟨b, 0, none⟩) b len f w := .inr ⟨rfl, h⟩
/-- a row that is being filled: the first k are there -/
def PtV (b len k : Nat) (f : Nat → Value) (w : World) : Prop := ∀ j, j < len → (∃ y, w.cell? ⟨b, j, none⟩ = some y ∧ (j < k → y = f j)) ∧ w.frozen? ⟨b, j, none⟩ = false
theorem PtV.step {b len k : Nat} {f : Nat → Value} {w : World} (h : PtV b len k f w) (v : Value) (hv : v = f k) : PtV b len (k + 1) f (w.setCell ⟨b, k, none⟩ v) := fun j hj => by
  obtain ⟨⟨y, hy, e⟩, fr⟩ := h j hj
  refine ⟨?_, by simpa using fr⟩
  by_cases hjk : j = k
  · subst hjk
    exact ⟨v, World.cell?_setCell_same _ _ _ hy, fun _ => hv⟩
  · exact ⟨y, by rw [World.cell?_setCell_other _ _ _ _ (by simp; try omega)]; exact hy, fun hj2 => e (by omega)⟩
theorem PtV.row {b len : Nat} {f : Nat → Value} {w : World} (h : PtV b len len f w) : RowV b len f w := fun j hj => by
  obtain ⟨⟨y, hy, e⟩, fr⟩ := h j hj
  rw [e hj] at hy
  exact ⟨hy, fr⟩
theorem RowV.pt {b len : Nat} {f g : Nat → Value} {w : World} (h : RowV b len g w) : PtV b len 0 f w := fun j hj => ⟨⟨_, (h j hj).1, fun x => absurd x (Nat.not_lt_zero _)⟩, (h j hj).2⟩

set_option maxRecDepth 100000 in
theorem make_u8 (n : Nat) (h : n ≤ 1048576) (w : World) :
    (Instr.makeSlice 82 (.int .i64 n) (.int .i64 n)).run Try.prog w = .ok (.slice (some ⟨w.heap.size, 0, none⟩) n n) (w.alloc (.cells (madeCells #[.int .u8 0] n) 5)) := by
  have := run_make (P := Try.prog) w 82 5 _ (.int .u8 0) Try.underlying82 rfl rfl .i64 .i64 n n (by omega) (by omega) (by show (1 : Int) * _ ≤ _; omega) (by omega)
  rw [this]
  show Result.ok (Value.slice _ (n : Int).toNat (n : Int).toNat) (w.alloc (.cells (madeCells (Value.cells (.int .u8 0)) ((n : Int).toNat * 1)) 5)) = _
  rw [Int.toNat_natCast, Nat.mul_one]
  rfl
theorem ptV_new (n : Nat) (f : Nat → Value) (w : World) : PtV w.heap.size n 0 f (w.alloc (.cells (madeCells #[.int .u8 0] n) 5)) := fun j hj => by
  have : (madeCells #[Value.int .u8 0] n)[j]? = some (.int .u8 0) := by
    rw [← Array.getElem?_toList, toList_madeCells_one, List.getElem?_replicate, if_pos hj]
  exact ⟨⟨.int .u8 0, by simp [go_sem, this], fun x => absurd x (Nat.not_lt_zero _)⟩, by simp [go_sem]⟩

/-- the marks of bytes -/
abbrev mkU (k : Int) : Nat → Value := fun j => .int .u8 (IntKind.u8.wrap (k + j))

end Go.Proofs.Ytcdpnofjahdieaa

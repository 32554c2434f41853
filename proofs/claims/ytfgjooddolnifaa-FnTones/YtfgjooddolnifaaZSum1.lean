/- The sum in halves of the specification, over a list by its places. -/
import Derived.Test.YtfgjooddolnifaaZSum
namespace Go.Proofs.Ytfgjooddolnifaa.Z
open Ieee Go.RowKit
attribute [local go_sem] run_store_float alloc_drewN setCell_drewN shape?_drewN

/-- a slice holds these pairs -/
def Cs (a : Option Addr) (len : Nat) (re im : Nat → Nat) (w : World) : Prop :=
  len = 0 ∨ ∃ b off, a = some ⟨b, off, none⟩ ∧ ∀ k, k < len → w.cell? ⟨b, off + k * 2, none⟩ = some (.float .f64 (re k)) ∧ w.cell? ⟨b, off + k * 2 + 1, none⟩ = some (.float .f64 (im k))

theorem Cs.below {a : Option Addr} {len : Nat} {re im : Nat → Nat} {w w' : World} (h : Cs a len re im w) (hb : Below w.heap.size w w') : Cs a len re im w' := by
  rcases h with h | ⟨b, off, ha, h⟩
  · exact .inl h
  · refine .inr ⟨b, off, ha, fun k hk => ?_⟩
    have hl : b < w.heap.size := World.block_lt_of_cell? w _ (h k hk).1
    exact ⟨(hb.cell (p := ⟨b, off + k * 2, none⟩) hl).trans (h k hk).1, (hb.cell (p := ⟨b, off + k * 2 + 1, none⟩) hl).trans (h k hk).2⟩

theorem Cs.at {a : Option Addr} {len k : Nat} {re im : Nat → Nat} {w : World} (h : Cs a len re im w) (hk : k < len) :
    ∃ b off, a = some ⟨b, off, none⟩ ∧ w.cell? ⟨b, off + k * 2, none⟩ = some (.float .f64 (re k)) ∧ w.cell? ⟨b, off + k * 2 + 1, none⟩ = some (.float .f64 (im k)) := by
  rcases h with h | ⟨b, off, ha, h⟩
  · omega
  · exact ⟨b, off, ha, h k hk⟩

theorem add_spec_b (a b c d : Nat) (w : World) :
    Calls Try.prog 44 #[cx a b, cx c d] w fun e w' => ∃ r s, e = .returned (cx r s) ∧ Below w.heap.size w w' ∧ Res .add a c r ∧ Res .add b d s := by
  refine (add_spec a b c d w).mono ?_
  rintro e w1 ⟨r, s, n, rfl, rfl, h1, h2⟩
  exact ⟨r, s, rfl, below_drewN (by go_grown) _, h1, h2⟩

theorem add_impl_b (a b c d : Nat) (w : World) :
    Calls Try.prog 47 #[cx a b, cx c d] w fun e w' => ∃ r s, e = .returned (cx r s) ∧ Below w.heap.size w w' ∧ Res .add a c r ∧ Res .add b d s := by
  refine (add_impl a b c d w).mono ?_
  rintro e w1 ⟨r, s, n, rfl, rfl, h1, h2⟩
  exact ⟨r, s, rfl, below_drewN (by go_grown) _, h1, h2⟩

/-- a pair lies in a block that may be written -/
def P2 (b r s : Nat) (w : World) : Prop :=
  w.cell? ⟨b, 0, none⟩ = some (.float .f64 r) ∧ w.cell? ⟨b, 1, none⟩ = some (.float .f64 s) ∧ w.frozen? ⟨b, 0, none⟩ = false ∧ w.frozen? ⟨b, 1, none⟩ = false
theorem P2.below {b r s : Nat} {w w' : World} (h : P2 b r s w) (hb : Below w.heap.size w w') : P2 b r s w' := by
  have hl : b < w.heap.size := World.block_lt_of_cell? w _ h.1
  exact ⟨(hb.cell (p := ⟨b, 0, none⟩) hl).trans h.1, (hb.cell (p := ⟨b, 1, none⟩) hl).trans h.2.1, (hb.frozen (p := ⟨b, 0, none⟩) hl).trans h.2.2.1, (hb.frozen (p := ⟨b, 1, none⟩) hl).trans h.2.2.2⟩
theorem P2.new (r s : Nat) (t : TypeId) (w : World) : P2 w.heap.size r s (w.alloc (.cells #[.float .f64 r, .float .f64 s] t)) := by
  refine ⟨?_, ?_, ?_, ?_⟩ <;> simp [go_sem]
theorem below_new (w : World) (o : Obj) : Below w.heap.size w (w.alloc o) := (Below.refl _ _).alloc (Nat.le_refl _) _

/-- what a sum in halves answers -/
def Sums (re im : Nat → Nat) (i n : Nat) (w : World) (e : Ending) (w' : World) : Prop :=
  ∃ r s, e = .returned (cx r s) ∧ Halves re i n r ∧ Halves im i n s ∧ Below w.heap.size w w'

end Go.Proofs.Ytfgjooddolnifaa.Z

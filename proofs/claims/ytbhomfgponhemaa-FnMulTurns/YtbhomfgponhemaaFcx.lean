/- Contracts of the plain functions on complex numbers. -/
import Derived.Test.YtbhomfgponhemaaFsm
namespace Go.Proofs.Ytbhomfgponhemaa
open Ieee Go.RowKit
attribute [local go_sem] run_store_float run_fadd run_fsub run_fmul run_fquo run_cadd alloc_drewN setCell_drewN shape?_drewN

set_option maxHeartbeats 400000 in
theorem toCx_any (a b : Nat) (w : World) :
    Calls Try.prog 12 #[.agg #[.float .f64 a, .float .f64 b]] w fun e w' => e = .returned (.agg #[.float .f64 a, .float .f64 b]) ∧ Below w.heap.size w w' := by
  go_enter Try.func12, Try.ntmps12
  go_wp2
  refine bodyPost_ret (v := .agg #[.float .f64 a, .float .f64 b]) (by simp [results, Try.results12, go_sem]) rfl ⟨rfl, ?_⟩
  exact (((Below.refl _ _).alloc (Nat.le_refl _) _).alloc (by simp) _).alloc (by simp; omega) _

/-- the square of a size, as the document tells it -/
def IsSize (a b r : Nat) : Prop := ∃ p q, Res .mul a a p ∧ Res .mul b b q ∧ Res .add p q r

theorem same_rfl (a : Nat) : same a a := .inl rfl

/-- operands that are one value give results that are one value -/
theorem Res.congr {op : BinOp} (hop : Arith op) {x x' y y' r r' : Nat} (hx : same x x') (hy : same y y') (h : Res op x y r) (h' : Res op x' y' r') : same r r' := by
  have key : floatBits op .f64 x y = floatBits op .f64 x' y' := by
    rcases hx with rfl | ⟨hx, hx'⟩
    · rcases hy with rfl | ⟨hy, hy'⟩
      · rfl
      · rw [bits_nan_right op hop _ _ hy, bits_nan_right op hop _ _ hy']
    · rw [bits_nan_left op hop _ _ hx, bits_nan_left op hop _ _ hx']
  rcases h with h | ⟨h, hn⟩ <;> rcases h' with h' | ⟨h', hn'⟩
  · rw [key, h'] at h; cases h; exact .inl rfl
  · rw [key, h'] at h; cases h
  · rw [key, h'] at h; cases h
  · exact .inr ⟨hn, hn'⟩

theorem aAdd : Arith .add := .inl rfl
theorem aSub : Arith .sub := .inr (.inl rfl)
theorem aMul : Arith .mul := .inr (.inr (.inl rfl))
theorem aQuo : Arith .quo := .inr (.inr (.inr rfl))

theorem IsSize.same {a b r r' : Nat} (h : IsSize a b r) (h' : IsSize a b r') : same r r' := by
  obtain ⟨p, q, h1, h2, h3⟩ := h
  obtain ⟨p', q', h1', h2', h3'⟩ := h'
  exact h3.congr aAdd (h1.congr aMul (same_rfl _) (same_rfl _) h1') (h2.congr aMul (same_rfl _) (same_rfl _) h2') h3'

theorem bcell {W w1 : World} (hb : Below W.heap.size W w1) : (∀ b o, b < W.heap.size → w1.cell? ⟨b, o, none⟩ = W.cell? ⟨b, o, none⟩) ∧ (∀ b o, b < W.heap.size → w1.frozen? ⟨b, o, none⟩ = W.frozen? ⟨b, o, none⟩) :=
  ⟨fun b o h => hb.cell (p := ⟨b, o, none⟩) h, fun b o h => hb.frozen (p := ⟨b, o, none⟩) h⟩

theorem box2 {w w' : World} {x y : Value} {T : TypeId} (hb : Below (w.heap.size + 1) (w.alloc (.cells #[x, y] T)) w') :
    w'.cell? ⟨w.heap.size, 0, none⟩ = some x ∧ w'.cell? ⟨w.heap.size, 1, none⟩ = some y := by
  constructor
  · rw [hb.cell (p := ⟨w.heap.size, 0, none⟩) (Nat.lt_succ_self _)]; simp [go_sem]
  · rw [hb.cell (p := ⟨w.heap.size, 1, none⟩) (Nat.lt_succ_self _)]; simp [go_sem]

theorem box_lt {w w' : World} {o : Obj} (hb : Below (w.heap.size + 1) (w.alloc o) w') : w.heap.size < w'.heap.size := by
  have := hb.size; simp at this; omega

theorem box_start (w : World) (o : Obj) : w.heap.size + 1 ≤ (w.alloc o).heap.size := by simp

theorem box2_below {w w' : World} {o : Obj} (hb : Below (w.heap.size + 1) (w.alloc o) w') : Below w.heap.size w w' :=
  ((Below.refl _ _).alloc (Nat.le_refl _) o).trans (hb.mono (Nat.le_succ _))

end Go.Proofs.Ytbhomfgponhemaa

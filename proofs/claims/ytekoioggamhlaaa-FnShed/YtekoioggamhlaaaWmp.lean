/- Watershed, the program: a flood in a box of its own, with a list of its own. -/
import Derived.Test.YtekoioggamhlaaaWmb
import Derived.Test.YtekoioggamhlaaaBxi
namespace Go.Proofs.Ytekoioggamhlaaa
open Go.RowKit

/-- a list of numbers -/
def lsP (n : Nat) (f : Nat → Int) : OwnP := fun bs v w => ∃ a c b, v = .slice a n c ∧ Ow a b n f w ∧ (n = 0 ∨ b ∈ bs)
theorem lsP_st (n : Nat) (f : Nat → Int) : Stab (lsP n f) := fun _ _ _ _ hb ⟨a, c, b, e, h, h2⟩ => ⟨a, c, b, e, h.below' hb, h2⟩
/-- a flood as a value -/
abbrev flV (W H : Int) (px : Value) (a : Option Addr) (n c : Nat) : Value := .agg #[.int .i64 W, .int .i64 H, px, .slice a n c, .slice none 0 0, .int .i64 0]
def flP (W H : Int) (px : Value) (n : Nat) (f : Nat → Int) : OwnP := fun bs v w => ∃ a c b, v = flV W H px a n c ∧ Ow a b n f w ∧ (n = 0 ∨ b ∈ bs)
theorem flP_st (W H : Int) (px : Value) (n : Nat) (f : Nat → Int) : Stab (flP W H px n f) := fun _ _ _ _ hb ⟨a, c, b, e, h, h2⟩ => ⟨a, c, b, e, h.below' hb, h2⟩
theorem gB.newL {A S : Nat} {z : Value} {zs : List Value} {wB : World} {u : Nat → Value} {w w' : World} (hR : bR A S z zs wB u w) (h7 : u S = undef) {n : Nat} {f : Nat → Int} {a : Option Addr} {b : Nat} (c : Nat) (ho : Ow a b n f w') (h1 : n = 0 ∨ w.heap.size ≤ b) : gB A wB (lsP n f) u (.slice a n c) w' :=
  gB.new hR h7 (blk n b) (fun x hm => by
    obtain ⟨h0, rfl⟩ := blk_mem hm
    exact ⟨h1.resolve_left h0, OwV.lt ho.v h0⟩) ⟨a, c, b, rfl, ho, blk_in⟩
/-- a flood in its box, its owners apart -/
def FlB (wB : World) (W H : Int) (px : Value) (n : Nat) (f : Nat → Int) (M : Nat) (w : World) : Prop :=
  ∃ (bo capo : Nat), Bx M (flC W H px bo n capo (.slice none 0 0) 0) w ∧ Row bo n f w ∧ bo ≠ M ∧ wB.heap.size ≤ bo
theorem FlB.below {wB : World} {W H : Int} {px : Value} {n : Nat} {f : Nat → Int} {M : Nat} {w w' : World} (h : FlB wB W H px n f M w) (h0 : 0 < n) (hb : Below w.heap.size w w') : FlB wB W H px n f M w' := by
  obtain ⟨bo, c, h1, h2, h3, h4⟩ := h
  exact ⟨bo, c, h1.below hb (World.block_lt_of_cell? w ⟨M, 0, none⟩ (h1 0 _ rfl).1), h2.sameH (hb.block bo (h2.lt' h0)), h3, h4⟩
theorem FlB.stored {A : Nat} {wB : World} {W H : Int} {px : Value} {n : Nat} {f : Nat → Int} {u : Nat → Value} {w : World} {a : Option Addr} {b c Q : Nat} {bs : List Nat} (hn : 0 < n) (h0 : Ow a b n f w) (hb : n = 0 ∨ b ∈ bs) (hbs : ∀ b ∈ bs, wB.heap.size ≤ b ∧ b < w.heap.size) (h5 : ∀ M, u A = .pointer (some ⟨M, 0, none⟩) → M ∉ bs) (hA : u A = .pointer (some ⟨Q, 0, none⟩)) {v0 v1 v2 v3 v4 v5 : Value} (hx : Bx Q [v0, v1, v2, v3, v4, v5] w) :
    FlB wB W H px n f Q ((((((w.setCell ⟨Q, 0, none⟩ (.int .i64 W)).setCell ⟨Q, 1, none⟩ (.int .i64 H)).setCell ⟨Q, 2, none⟩ px).setCell ⟨Q, 3, none⟩ (.slice a n c)).setCell ⟨Q, 4, none⟩ (.slice none 0 0)).setCell ⟨Q, 5, none⟩ (.int .i64 0)) := by
  have hm : b ∈ bs := hb.resolve_left (by omega)
  have hq : b ≠ Q := fun e => h5 Q hA (by rw [← e]; exact hm)
  rcases h0 with h | ⟨rfl, hr⟩
  · omega
  · refine ⟨b, c, (((((hx.set 0 _).set 1 _).set 2 _).set 3 _).set 4 _).set 5 _, ?_, hq, (hbs b hm).1⟩
    exact (((((hr.set (p := ⟨Q, 0, none⟩) (Ne.symm hq) _).set (p := ⟨Q, 1, none⟩) (Ne.symm hq) _).set (p := ⟨Q, 2, none⟩) (Ne.symm hq) _).set (p := ⟨Q, 3, none⟩) (Ne.symm hq) _).set (p := ⟨Q, 4, none⟩) (Ne.symm hq) _).set (p := ⟨Q, 5, none⟩) (Ne.symm hq) _
theorem below_set6g {B : Nat} {w w1 : World} (h : Below B w w1) {b : Nat} (hb : B ≤ b) (v0 v1 v2 v3 v4 v5 : Value) : Below B w ((((((w1.setCell ⟨b, 0, none⟩ v0).setCell ⟨b, 1, none⟩ v1).setCell ⟨b, 2, none⟩ v2).setCell ⟨b, 3, none⟩ v3).setCell ⟨b, 4, none⟩ v4).setCell ⟨b, 5, none⟩ v5) :=
  (((((h.setCell (p := ⟨b, 0, none⟩) hb v0).setCell (p := ⟨b, 1, none⟩) hb v1).setCell (p := ⟨b, 2, none⟩) hb v2).setCell (p := ⟨b, 3, none⟩) hb v3).setCell (p := ⟨b, 4, none⟩) hb v4).setCell (p := ⟨b, 5, none⟩) hb v5

end Go.Proofs.Ytekoioggamhlaaa

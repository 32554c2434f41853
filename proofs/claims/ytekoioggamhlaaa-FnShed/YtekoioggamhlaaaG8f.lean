/- Pictures: an image as one, a new picture by a function value for each place, and back. -/
import Derived.Test.YtekoioggamhlaaaG8v
import Derived.Test.YtekoioggamhlaaaMk8
namespace Go.Proofs.Ytekoioggamhlaaa
open Go.RowKit

set_option maxRecDepth 100000 in
set_option maxHeartbeats 1000000 in
theorem pictureOf_any (W H : Int) (a : Option Addr) (n cap : Nat) (w : World) :
    Calls Try.prog 24 #[im W H a n cap] w fun e w' => e = .returned (im W H a n cap) ∧ Below w.heap.size w w' := by
  go_enter Try.func24, Try.ntmps24
  go_wp2_with fail
  refine bodyPost_ret (v := im W H a n cap) (by simp [results, Try.results24, go_sem]) rfl ⟨rfl, ?_⟩
  exact (bnew _ _).alloc (by simp) _

theorem Part.size_lt {b len k j : Nat} {f : Nat → Int} {w : World} (h : Part b len k f w) (hj : j < len) : b < w.heap.size := by
  obtain ⟨⟨z, hz, _⟩, _⟩ := h j hj
  exact World.block_lt_of_cell? w ⟨b, j, none⟩ hz
/-- a cell of a block that is not in hand is written: what is in hand stays -/
theorem St.far {w0 : World} {L : List BoxT} {O : List OwnT} {w : World} {b : Nat} (h : St w0 L O w) (hb : b ∉ blocks L O) (h0 : w0.heap.size ≤ b) (j : Nat) (v : Value) : St w0 L O (w.setCell ⟨b, j, none⟩ v) := by
  have hk : Kept b w (w.setCell ⟨b, j, none⟩ v) := (Kept.refl b w).setCell rfl _
  refine ⟨h.below.trans (hk.below h0 h.below.size), fun x hx => (h.bx x hx).kept hk (fun e => hb ?_), fun x hx => (h.ow x hx).keptO hk (fun hx0 e => hb ?_), fun c hc => ?_, h.nd⟩
  · rw [← e]; exact mem_blocks_box hx
  · rw [← e]; exact mem_blocks_own hx hx0
  · have := h.lt c hc
    exact ⟨this.1, Nat.lt_of_lt_of_le this.2 hk.size⟩

end Go.Proofs.Ytekoioggamhlaaa

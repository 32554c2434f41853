/- Adding images, pixel by pixel: the specification and the program give the same image. -/
import Derived.Test.YtadeajdjjcelhaaMark
import Derived.Test.YtadeajdjjcelhaaLawImageOk
import Derived.Test.YtadeajdjjcelhaaWeigh
namespace Go.Proofs.Ytadeajdjjcelhaa
open Go.RowKit

theorem Kept.drew {p : Nat} {w w' : World} (h : Kept p w w') : Kept p w w'.drew := ⟨h.os, h.tape, h.output, h.size, h.block⟩
theorem Part.drew {b len k : Nat} {f : Nat → Int} {w : World} (h : Part b len k f w) : Part b len k f w.drew := h

theorem l2New_any (W H : Int) (n : Nat) (hn : W * H = (n : Int)) (hl : n ≤ 4096) (w : World) :
    Calls Try.prog 41 #[.int .i64 W, .int .i64 H] w fun e w' => e = .returned (im W H (some ⟨w.heap.size + 1, 0, none⟩) n n) ∧ Row (w.heap.size + 1) n (fun _ => 0) w' ∧ Below w.heap.size w w' ∧ w.heap.size + 1 < w'.heap.size := by
  have hmk := fun w => make_px n (by omega) w
  have hw : IntKind.i64.wrap (W * H) = (n : Int) := by rw [IntKind.wrap_i64, hn]; omega
  clear hn
  go_enter Try.func41, Try.ntmps41
  go_wp2_with fail
  refine bodyPost_ret (v := im W H (some ⟨w.heap.size + 1, 0, none⟩) n n) (by simp [results, Try.results41, go_sem]) rfl ⟨rfl, ?_, ?_, by simp⟩
  · have := row_new n (w.alloc (Obj.cells #[Value.int IntKind.i64 W, Value.int IntKind.i64 H, Value.slice (some ⟨w.heap.size + 1, 0, none⟩) n n] 29))
    simpa using this
  · exact ((Below.refl _ _).alloc (Nat.le_refl _) _).alloc (by simp) _

/-- the sum of two pixels, as the machine adds them -/
def plus (f g : Nat → Int) (k : Nat) : Int := wrap64 (f k + g k)

/-- can the two images be added -/
def addB (W H : Int) (n : Nat) (f : Nat → Int) (W' H' : Int) (n' : Nat) (g : Nat → Int) : Bool :=
  okB W H n f && (okB W' H' n' g && (decide (W = W') && (decide (H = H') && allB (plus f g) n)))

/-- what adding two images gives -/
def Added (r : Bool) (W H : Int) (n : Nat) (s : Nat → Int) (w : World) (e : Ending) (w' : World) : Prop :=
  ∃ a0 b, e = .returned (im (if r then W else 0) (if r then H else 0) a0 (if r then n else 0) (if r then n else 0)) ∧ Ow a0 b (if r then n else 0) s w' ∧ w.heap.size ≤ b ∧ b < w'.heap.size ∧ Below w.heap.size w w'

theorem Added.none {r : Bool} (hr : r = false) (W H : Int) (n : Nat) (s : Nat → Int) {w w' : World} (hb : Below w.heap.size w w') (hs : w.heap.size < w'.heap.size) :
    Added r W H n s w (.returned (im 0 0 Option.none 0 0)) w' := by
  subst hr
  exact ⟨Option.none, w.heap.size, rfl, .inl rfl, Nat.le_refl _, hs, hb⟩

/-- the cells of a block may be written -/
def Free (b : Nat) (w : World) : Prop := w.frozen? ⟨b, 0, none⟩ = false ∧ w.frozen? ⟨b, 1, none⟩ = false ∧ w.frozen? ⟨b, 2, none⟩ = false

/-- the boxes of two images, and the room for the answer -/
def Three (n : Nat) (W H : Int) (s : Value) (W' H' : Int) (s' : Value) (w : World) : Prop :=
  Im n W H s w ∧ Im (n + 1) W' H' s' w ∧ Im (n + 2) 0 0 (.slice none 0 0) w ∧ Free (n + 2) w

abbrev three (w : World) (W H : Int) (s : Value) (W' H' : Int) (s' : Value) : World :=
  ((w.alloc (.cells #[.int .i64 W, .int .i64 H, s] 29)).alloc (.cells #[.int .i64 W', .int .i64 H', s'] 29)).alloc (.cells #[.int .i64 0, .int .i64 0, .slice none 0 0] 29)

theorem Three.start (w : World) (W H : Int) (s : Value) (W' H' : Int) (s' : Value) : Three w.heap.size W H s W' H' s' (three w W H s W' H' s') := by
  refine ⟨⟨?_, ?_, ?_⟩, ⟨?_, ?_, ?_⟩, ⟨?_, ?_, ?_⟩, ?_, ?_, ?_⟩ <;> simp [go_sem]

theorem three_below (w : World) (W H : Int) (s : Value) (W' H' : Int) (s' : Value) : Below w.heap.size w (three w W H s W' H' s') :=
  (((Below.refl _ _).alloc (Nat.le_refl _) _).alloc (by simp) _).alloc (by simp; omega) _

theorem three_size (w : World) (W H : Int) (s : Value) (W' H' : Int) (s' : Value) : (three w W H s W' H' s').heap.size = w.heap.size + 3 := by simp

theorem Three.below {n : Nat} {W H : Int} {s : Value} {W' H' : Int} {s' : Value} {w w' : World} (h : Three n W H s W' H' s' w) (hb : Below w.heap.size w w') : Three n W H s W' H' s' w' := by
  obtain ⟨h1, h2, h3, f0, f1, f2⟩ := h
  have hl : n + 2 < w.heap.size := World.block_lt_of_cell? w _ h3.1
  refine ⟨h1.below hb, h2.below hb, h3.below hb, ?_, ?_, ?_⟩
  · exact (hb.frozen (p := ⟨n + 2, 0, none⟩) hl).trans f0
  · exact (hb.frozen (p := ⟨n + 2, 1, none⟩) hl).trans f1
  · exact (hb.frozen (p := ⟨n + 2, 2, none⟩) hl).trans f2

theorem Im.kept {b p : Nat} {W H : Int} {s : Value} {w w' : World} (h : Im b W H s w) (hk : Kept p w w') (hp : b ≠ p) : Im b W H s w' :=
  ⟨hk.cell hp h.1, hk.cell hp h.2.1, hk.cell hp h.2.2⟩

theorem Three.kept {n p : Nat} {W H : Int} {s : Value} {W' H' : Int} {s' : Value} {w w' : World} (h : Three n W H s W' H' s' w) (hk : Kept p w w') (hp : n + 3 ≤ p) : Three n W H s W' H' s' w' := by
  obtain ⟨h1, h2, h3, f0, f1, f2⟩ := h
  refine ⟨h1.kept hk (by omega), h2.kept hk (by omega), h3.kept hk (by omega), ?_, ?_, ?_⟩
  · exact (hk.frozen (a := ⟨n + 2, 0, none⟩) (by show n + 2 ≠ p; omega) h3.1).trans f0
  · exact (hk.frozen (a := ⟨n + 2, 1, none⟩) (by show n + 2 ≠ p; omega) h3.2.1).trans f1
  · exact (hk.frozen (a := ⟨n + 2, 2, none⟩) (by show n + 2 ≠ p; omega) h3.2.2).trans f2

theorem Px.lt {a : Option Addr} {len : Nat} {f : Nat → Int} {w : World} (h : Px a len f w) (h0 : 0 < len) : ∃ b off, a = some ⟨b, off, none⟩ ∧ b < w.heap.size := by
  obtain ⟨b, off, ha, hc⟩ := h.at h0
  exact ⟨b, off, ha, World.block_lt_of_cell? w _ hc⟩

end Go.Proofs.Ytadeajdjjcelhaa

/- A frame is spoilt. -/
import Derived.Test.YtjdbiaoheoialaaDpg
import Derived.Test.YtjdbiaoheoialaaDfm
import Derived.Test.YtjdbiaoheoialaaDrg
import Derived.Test.YtjdbiaoheoialaaBxs
namespace Go.Proofs.Ytjdbiaoheoialaa
open Go.RowKit

/-- what is known while an image is being drawn -/
structure DI (p : Nat) (a : Option Addr) (len cap : Nat) (w : World) (R X o n : Nat) (W H : Int) (wr : World) : Prop where
  cur : Cur p a len cap wr
  kept : Kept p w wr
  res : Bx R [.int .i64 0, .int .i64 0, .slice none 0 0] wr
  box : Bx X [.int .i64 W, .int .i64 H, .slice (some ⟨o, 0, none⟩) n n] wr
  row : ∃ f, Row o n f wr
  lt : R < wr.heap.size ∧ X < wr.heap.size ∧ o < wr.heap.size
/-- the blocks are new and apart -/
structure DB (p : Nat) (a : Option Addr) (len : Nat) (w : World) (R X o : Nat) : Prop where
  hp : p < w.heap.size
  hab : len = 0 ∨ ∀ b off, a = some ⟨b, off, none⟩ → b < w.heap.size
  hr : w.heap.size ≤ R
  hx : w.heap.size ≤ X
  ho : w.heap.size ≤ o
  rx : R ≠ X
  ro : R ≠ o
  xo : X ≠ o
theorem Row.kept {b n p : Nat} {f : Nat → Int} {w w' : World} (h : Row b n f w) (hk : Kept p w w') (hb : b ≠ p) : Row b n f w' := fun j hj =>
  ⟨hk.cell hb (h j hj).1, (hk.frozen (a := ⟨b, j, none⟩) hb (h j hj).1).trans (h j hj).2⟩
theorem DI.step {p : Nat} {a : Option Addr} {len cap : Nat} {w : World} {R X o n : Nat} {W H : Int} {wr w' : World} (h : DI p a len cap w R X o n W H wr) (hd : DB p a len w R X o) (hc : Cur p a len cap w') (hk : Kept p wr w') : DI p a len cap w R X o n W H w' := by
  have h1 := hd.hp; have h2 := hd.hr; have h3 := hd.hx; have h4 := hd.ho
  obtain ⟨f, hf⟩ := h.row
  have hz := hk.size
  have hl := h.lt
  exact ⟨hc, h.kept.trans hk, h.res.kept hk (by omega), h.box.kept hk (by omega), ⟨f, hf.kept hk (by omega)⟩, by omega⟩
theorem Bx.far {b : Nat} {vs : List Value} {w : World} (h : Bx b vs w) {q : Addr} (hq : q.block ≠ b) (v : Value) : Bx b vs (w.setCell q v) := fun j u hu => by
  have := h j u hu
  refine ⟨?_, by simpa using this.2⟩
  rw [World.cell?_setCell_other _ _ _ _ (by intro e; subst e; exact hq rfl)]
  exact this.1
theorem Row.put {b n : Nat} {f : Nat → Int} {w : World} (h : Row b n f w) (k : Nat) (z : Int) : Row b n (fun q => if q = k then z else f q) (w.setCell ⟨b, k, none⟩ (.int .i64 z)) := fun j hj => by
  refine ⟨?_, by simpa using (h j hj).2⟩
  by_cases e : j = k
  · subst e
    simp only [if_true]
    exact World.cell?_setCell_same _ _ _ (h j hj).1
  · simp only [if_neg e]
    rw [World.cell?_setCell_other _ _ _ _ (by simp; try omega)]
    exact (h j hj).1
theorem DI.put {p : Nat} {a : Option Addr} {len cap : Nat} {w : World} {R X o n : Nat} {W H : Int} {wr : World} (h : DI p a len cap w R X o n W H wr) (hd : DB p a len w R X o) (k : Nat) (z : Int) : DI p a len cap w R X o n W H (wr.setCell ⟨o, k, none⟩ (.int .i64 z)) := by
  obtain ⟨f, hf⟩ := h.row
  have hb : Below w.heap.size wr (wr.setCell ⟨o, k, none⟩ (.int .i64 z)) := (Below.refl _ _).setCell hd.ho _
  exact ⟨h.cur.belowB hb hd.hp hd.hab, h.kept.belowB hb (Nat.le_refl _), h.res.far hd.ro.symm _, h.box.far hd.xo.symm _, ⟨_, hf.put k z⟩, by simpa using h.lt⟩
theorem DI.drew {p : Nat} {a : Option Addr} {len cap : Nat} {w : World} {R X o n : Nat} {W H : Int} {wr : World} (h : DI p a len cap w R X o n W H wr) : DI p a len cap w R X o n W H wr.drew :=
  ⟨h.cur.drewN 1, h.kept.drew, h.res, h.box, h.row, h.lt⟩

theorem below_set3 {B : Nat} (w : World) (b : Nat) (u v x : Value) (hb : B ≤ b) : Below B w (((w.setCell ⟨b, 0, none⟩ u).setCell ⟨b, 1, none⟩ v).setCell ⟨b, 2, none⟩ x) :=
  Below.setCell (p := ⟨b, 2, none⟩) (Below.setCell (p := ⟨b, 1, none⟩) (Below.setCell (p := ⟨b, 0, none⟩) (Below.refl B w) hb u) hb v) hb x
/-- an image is drawn: some image of these sides with so many pixels -/
def DrawnM (p : Nat) (a : Option Addr) (len cap : Nat) (W H : Int) (n : Nat) (w : World) (e : Ending) (w' : World) : Prop :=
  ∃ o f, e = .returned (im W H (some ⟨o, 0, none⟩) n n) ∧ Row o n f w' ∧ w.heap.size ≤ o ∧ Cur p a len cap w' ∧ Kept p w w'

end Go.Proofs.Ytjdbiaoheoialaa

namespace Go.Proofs.Ytjdbiaoheoialaa
open Go.RowKit

/-- all that was there stays, but the cursor and the two lists -/
def KX (w0 : World) (p b0 b1 : Nat) (w' : World) : Prop := w0.heap.size ≤ w'.heap.size ∧ ∀ b, b < w0.heap.size → b ≠ p → b ≠ b0 → b ≠ b1 → w'.heap[b]? = w0.heap[b]?
theorem KX.kept {w0 : World} {p b0 b1 : Nat} {w w' : World} (h : KX w0 p b0 b1 w) (hk : Kept p w w') : KX w0 p b0 b1 w' := ⟨Nat.le_trans h.1 hk.size, fun b hb h1 h2 h3 => (hk.block b (Nat.lt_of_lt_of_le hb h.1) h1).trans (h.2 b hb h1 h2 h3)⟩
theorem KX.set {w0 : World} {p b0 b1 : Nat} {w : World} (h : KX w0 p b0 b1 w) {c j : Nat} (hc : c = b0 ∨ c = b1 ∨ w0.heap.size ≤ c) (v : Value) : KX w0 p b0 b1 (w.setCell ⟨c, j, none⟩ v) := ⟨by simpa using h.1, fun b hb h1 h2 h3 => (heap_setCell_other w ⟨c, j, none⟩ b v (by show b ≠ c; omega)).trans (h.2 b hb h1 h2 h3)⟩
/-- what is known while a frame is spoilt: its box X, the box R of the answer, its lists -/
structure DS (p : Nat) (a : Option Addr) (len cap : Nat) (wB w0 : World) (X R : Nat) (vs : List Value) (b0 : Nat) (F0 : Nat → Int) (b1 : Nat) (F1 : Nat → Int) (wr : World) : Prop where
  cur : Cur p a len cap wr
  kept : Kept p wB wr
  kx : KX w0 p b0 b1 wr
  bx : Bx X vs wr
  res : Bx R [.slice none 0 0, .slice none 0 0, .int .i64 0] wr
  r0 : Row b0 9 F0 wr
  r1 : Row b1 3 F1 wr
  dj : wB.heap.size ≤ X ∧ wB.heap.size ≤ R ∧ wB.heap.size ≤ b0 ∧ wB.heap.size ≤ b1 ∧ X ≠ R ∧ b0 ≠ b1 ∧ b0 ≠ X ∧ b0 ≠ R ∧ b1 ≠ X ∧ b1 ≠ R ∧ X < wr.heap.size ∧ R < wr.heap.size
  ge : w0.heap.size ≤ X ∧ w0.heap.size ≤ R
/-- what is there once it is spoilt -/
def JSp (p : Nat) (a : Option Addr) (len cap : Nat) (wB w0 : World) (b0 b1 X R : Nat) (wc : World) : Prop :=
  ∃ (D : Int) (x0 : Option Addr) (n0 c0 q0 : Nat) (G0 : Nat → Int) (x1 : Option Addr) (n1 c1 q1 : Nat) (G1 : Nat → Int), n0 ≤ 9 ∧ n1 ≤ 9 ∧ Cur p a len cap wc ∧ Kept p wB wc ∧ Bx X [.slice x0 n0 c0, .slice x1 n1 c1, .int .i64 D] wc ∧ Bx R [.slice none 0 0, .slice none 0 0, .int .i64 0] wc ∧ Ow x0 q0 n0 G0 wc ∧ Ow x1 q1 n1 G1 wc ∧ (n0 = 0 ∨ (wB.heap.size ≤ q0 ∧ q0 ≠ R)) ∧ (n1 = 0 ∨ (wB.heap.size ≤ q1 ∧ q1 ≠ R)) ∧ KX w0 p b0 b1 wc ∧ (n0 = 0 ∨ q0 = b0 ∨ w0.heap.size ≤ q0) ∧ (n1 = 0 ∨ q1 = b1 ∨ w0.heap.size ≤ q1)
section
variable {p : Nat} {a : Option Addr} {len cap : Nat} {wB w0 : World} {X R : Nat} {vs : List Value} {b0 : Nat} {F0 : Nat → Int} {b1 : Nat} {F1 : Nat → Int} {wr w' : World}
theorem DS.step (h : DS p a len cap wB w0 X R vs b0 F0 b1 F1 wr) (hp : p < wB.heap.size) (hc : Cur p a len cap w') (hk : Kept p wr w') : DS p a len cap wB w0 X R vs b0 F0 b1 F1 w' := by
  have d := h.dj
  have hs := hk.size
  exact ⟨hc, h.kept.trans hk, h.kx.kept hk, h.bx.kept hk (by omega), h.res.kept hk (by omega), h.r0.kept7 hk (by omega), h.r1.kept7 hk (by omega), ⟨d.1, d.2.1, d.2.2.1, d.2.2.2.1, d.2.2.2.2.1, d.2.2.2.2.2.1, d.2.2.2.2.2.2.1, d.2.2.2.2.2.2.2.1, d.2.2.2.2.2.2.2.2.1, d.2.2.2.2.2.2.2.2.2.1, by omega, by omega⟩, h.ge⟩
theorem DS.alloc (h : DS p a len cap wB w0 X R vs b0 F0 b1 F1 wr) (hp : p < wB.heap.size) (o : Obj) : DS p a len cap wB w0 X R vs b0 F0 b1 F1 (wr.alloc o) := h.step hp (h.cur.below (bnew _ _)) (Kept.of_below (bnew _ _))
theorem DS.put0 (h : DS p a len cap wB w0 X R vs b0 F0 b1 F1 wr) (hp : p < wB.heap.size) (hab : len = 0 ∨ ∀ b off, a = some ⟨b, off, none⟩ → b < wB.heap.size) (k : Nat) (z : Int) : DS p a len cap wB w0 X R vs b0 (fun q => if q = k then z else F0 q) b1 F1 (wr.setCell ⟨b0, k, none⟩ (.int .i64 z)) := by
  have d := h.dj
  have hb : Below wB.heap.size wr (wr.setCell ⟨b0, k, none⟩ (.int .i64 z)) := (Below.refl _ _).setCell (by show wB.heap.size ≤ b0; omega) _
  exact ⟨h.cur.belowB hb hp hab, h.kept.belowB hb (Nat.le_refl _), h.kx.set (.inl rfl) _, h.bx.far (q := ⟨b0, k, none⟩) (by show b0 ≠ X; omega) _, h.res.far (q := ⟨b0, k, none⟩) (by show b0 ≠ R; omega) _, h.r0.put k z, h.r1.set (p := ⟨b0, k, none⟩) (by show b0 ≠ b1; omega) _, by simpa using d, h.ge⟩
theorem DS.put1 (h : DS p a len cap wB w0 X R vs b0 F0 b1 F1 wr) (hp : p < wB.heap.size) (hab : len = 0 ∨ ∀ b off, a = some ⟨b, off, none⟩ → b < wB.heap.size) (k : Nat) (z : Int) : DS p a len cap wB w0 X R vs b0 F0 b1 (fun q => if q = k then z else F1 q) (wr.setCell ⟨b1, k, none⟩ (.int .i64 z)) := by
  have d := h.dj
  have hb : Below wB.heap.size wr (wr.setCell ⟨b1, k, none⟩ (.int .i64 z)) := (Below.refl _ _).setCell (by show wB.heap.size ≤ b1; omega) _
  exact ⟨h.cur.belowB hb hp hab, h.kept.belowB hb (Nat.le_refl _), h.kx.set (.inr (.inl rfl)) _, h.bx.far (q := ⟨b1, k, none⟩) (by show b1 ≠ X; omega) _, h.res.far (q := ⟨b1, k, none⟩) (by show b1 ≠ R; omega) _, h.r0.set (p := ⟨b1, k, none⟩) (by show b1 ≠ b0; omega) _, h.r1.put k z, by simpa using d, h.ge⟩
theorem DS.set (h : DS p a len cap wB w0 X R vs b0 F0 b1 F1 wr) (hp : p < wB.heap.size) (hab : len = 0 ∨ ∀ b off, a = some ⟨b, off, none⟩ → b < wB.heap.size) (j : Nat) (v : Value) : DS p a len cap wB w0 X R (vs.set j v) b0 F0 b1 F1 (wr.setCell ⟨X, j, none⟩ v) := by
  have d := h.dj
  have hb : Below wB.heap.size wr (wr.setCell ⟨X, j, none⟩ v) := (Below.refl _ _).setCell (by show wB.heap.size ≤ X; omega) _
  exact ⟨h.cur.belowB hb hp hab, h.kept.belowB hb (Nat.le_refl _), h.kx.set (.inr (.inr h.ge.1)) _, h.bx.set j v, h.res.far (q := ⟨X, j, none⟩) (by show X ≠ R; omega) _, h.r0.set (p := ⟨X, j, none⟩) (by show X ≠ b0; omega) _, h.r1.set (p := ⟨X, j, none⟩) (by show X ≠ b1; omega) _, by simpa using d, h.ge⟩
end
theorem DS.js {p : Nat} {a : Option Addr} {len cap : Nat} {wB w0 : World} {X R : Nat} {b0 c0 : Nat} {F0 : Nat → Int} {b1 c1 : Nat} {F1 : Nat → Int} {D : Int} {wr : World} (h : DS p a len cap wB w0 X R [.slice (some ⟨b0, 0, none⟩) 9 c0, .slice (some ⟨b1, 0, none⟩) 3 c1, .int .i64 D] b0 F0 b1 F1 wr) (_ : 9 ≤ c0) : JSp p a len cap wB w0 b0 b1 X R wr :=
  ⟨D, _, 9, c0, b0, F0, _, 3, c1, b1, F1, by omega, by omega, h.cur, h.kept, h.bx, h.res, .inr ⟨rfl, h.r0⟩, .inr ⟨rfl, h.r1⟩, .inr ⟨h.dj.2.2.1, by have := h.dj; omega⟩, .inr ⟨by have := h.dj; omega, by have := h.dj; omega⟩, h.kx, .inr (.inl rfl), .inr (.inl rfl)⟩
/-- a spoilt frame, and what stayed -/
def DrX (p : Nat) (a : Option Addr) (len cap : Nat) (wB w0 : World) (b0 b1 : Nat) (e : Ending) (w' : World) : Prop :=
  ∃ (D : Int) (x0 : Option Addr) (n0 c0 q0 : Nat) (G0 : Nat → Int) (x1 : Option Addr) (n1 c1 q1 : Nat) (G1 : Nat → Int), e = .returned (vFrame D x0 n0 c0 x1 n1 c1) ∧ n0 ≤ 9 ∧ n1 ≤ 9 ∧ Ow x0 q0 n0 G0 w' ∧ Ow x1 q1 n1 G1 w' ∧ (n0 = 0 ∨ wB.heap.size ≤ q0) ∧ (n1 = 0 ∨ wB.heap.size ≤ q1) ∧ Cur p a len cap w' ∧ Kept p wB w' ∧ KX w0 p b0 b1 w' ∧ (n0 = 0 ∨ q0 = b0 ∨ w0.heap.size ≤ q0) ∧ (n1 = 0 ∨ q1 = b1 ∨ w0.heap.size ≤ q1)
/-- a drawn frame -/
def DrS (p : Nat) (a : Option Addr) (len cap : Nat) (wB : World) (e : Ending) (w' : World) : Prop :=
  ∃ (D : Int) (x0 : Option Addr) (n0 c0 q0 : Nat) (G0 : Nat → Int) (x1 : Option Addr) (n1 c1 q1 : Nat) (G1 : Nat → Int), e = .returned (vFrame D x0 n0 c0 x1 n1 c1) ∧ n0 ≤ 9 ∧ n1 ≤ 9 ∧ Ow x0 q0 n0 G0 w' ∧ Ow x1 q1 n1 G1 w' ∧ (n0 = 0 ∨ wB.heap.size ≤ q0) ∧ (n1 = 0 ∨ wB.heap.size ≤ q1) ∧ Cur p a len cap w' ∧ Kept p wB w'
theorem cut8 (b cap : Nat) (hc : 9 ≤ cap) (w : World) : (Instr.slice 24 (.slice (some ⟨b, 0, none⟩) 9 cap) none (some (.int .i64 8)) none).run Try.prog w = .ok (.slice (some ⟨b, 0, none⟩) 8 cap) w := by
  have hsz : (Go.sizeOf 2).run Try.prog w = .ok 1 w := by kernel_rfl
  have hb := fun code => run_sliceBound (P := Try.prog) w .i64 8 cap code (by omega) (by omega)
  simp [Instr.slice, Instr.sliceBounds, Sem.run_bind, run_underlying Try.underlying24, Result.andThen, hb, hsz, Addr.add]

set_option maxRecDepth 100000 in
set_option maxHeartbeats 8000000 in
theorem l7Spoil_any (p : Nat) (a : Option Addr) (len cap : Nat) (wB : World) (hp : p < wB.heap.size) (hab : len = 0 ∨ ∀ b off, a = some ⟨b, off, none⟩ → b < wB.heap.size) (D : Int) (b0 c0 : Nat) (F0 : Nat → Int) (b1 c1 : Nat) (F1 : Nat → Int) (hc0 : 9 ≤ c0) (w : World) (h : Cur p a len cap w) (hk : Kept p wB w) (g0 : wB.heap.size ≤ b0) (g1 : wB.heap.size ≤ b1) (g2 : b0 ≠ b1) (r0 : Row b0 9 F0 w) (r1 : Row b1 3 F1 w) :
    Calls Try.prog 30 #[.pointer (some ⟨p, 0, none⟩), vFrame D (some ⟨b0, 0, none⟩) 9 c0 (some ⟨b1, 0, none⟩) 3 c1] w fun e w' => DrX p a len cap wB w b0 b1 e w' := by
  have HD0 : Hid (DS p a len cap wB w w.heap.size (w.heap.size + 1) [.slice (some ⟨b0, 0, none⟩) 9 c0, .slice (some ⟨b1, 0, none⟩) 3 c1, .int .i64 D] b0 F0 b1 F1 ((w.alloc (.cells #[.slice (some ⟨b0, 0, none⟩) 9 c0, .slice (some ⟨b1, 0, none⟩) 3 c1, .int .i64 D] 26)).alloc (.cells #[.slice none 0 0, .slice none 0 0, .int .i64 0] 26))) := by
    have s1 : (w.alloc (.cells #[.slice (some ⟨b0, 0, none⟩) 9 c0, .slice (some ⟨b1, 0, none⟩) 3 c1, .int .i64 D] 26)).heap.size = w.heap.size + 1 := by simp
    have hb : Below w.heap.size w ((w.alloc (.cells #[.slice (some ⟨b0, 0, none⟩) 9 c0, .slice (some ⟨b1, 0, none⟩) 3 c1, .int .i64 D] 26)).alloc (.cells #[.slice none 0 0, .slice none 0 0, .int .i64 0] 26)) := (bnew _ _).alloc (by rw [s1]; omega) _
    have l0 := r0.lt7 (by omega)
    have l1 := r1.lt7 (by omega)
    have x1 := Bx.new [.slice none 0 0, .slice none 0 0, .int .i64 0] 26 (w.alloc (.cells #[.slice (some ⟨b0, 0, none⟩) 9 c0, .slice (some ⟨b1, 0, none⟩) 3 c1, .int .i64 D] 26))
    rw [s1] at x1
    have hs := hk.size
    exact ⟨h.below hb, hk.trans (Kept.of_below hb), ⟨hb.size, fun b hb' _ _ _ => hb.block b hb'⟩, (Bx.new [.slice (some ⟨b0, 0, none⟩) 9 c0, .slice (some ⟨b1, 0, none⟩) 3 c1, .int .i64 D] 26 w).below (bnew _ _) (by rw [s1]; omega), x1, r0.below hb l0, r1.below hb l1, ⟨hs, by omega, g0, g1, by omega, g2, by omega, by omega, by omega, by omega, by simp; omega, by simp⟩, by omega⟩
  have HP := hide hp
  have HAB := hide hab
  have HC0 := hide hc0
  clear h hk g0 g1 g2 r0 r1 hab hc0
  go_enter Try.func30, Try.ntmps30
  go_upto_region 1 with fail
  generalize (w.alloc (.cells #[.slice (some ⟨b0, 0, none⟩) 9 c0, .slice (some ⟨b1, 0, none⟩) 3 c1, .int .i64 D] 26)).alloc (.cells #[.slice none 0 0, .slice none 0 0, .int .i64 0] 26) = w1 at *
  generalize hR : w.heap.size + 1 = R at *
  generalize hX : w.heap.size = X at *
  clear hR hX
  have hd := below_any p a len cap _ HD0.out.cur 7 (by omega) (by omega)
  go_wp2_with fail
  refine hd.mono ?_
  rintro e w2 ⟨x, rfl, x0, x1, hc, hk⟩
  have HD := hide (HD0.out.step HP.out hc hk)
  clear hd hc hk HD0
  go_upto_block 0 with fail
  go_cut [] (fun wc => JSp p a len cap wB w b0 b1 X R wc)
  case first =>
    have hx : x = 0 ∨ x = 1 ∨ x = 2 ∨ x = 3 ∨ x = 4 ∨ x = 5 ∨ x = 6 := by omega
    clear x0 x1
    obtain ⟨y0, z0⟩ := HD.out.bx 0 _ rfl
    obtain ⟨y1, z1⟩ := HD.out.bx 1 _ rfl
    obtain ⟨y2, z2⟩ := HD.out.bx 2 _ rfl
    rcases hx with rfl | rfl | rfl | rfl | rfl | rfl | rfl
    · have HT : Hid (TabC 3 w2.heap.size (w2.alloc (.cells #[.int .i64 0, .int .i64 (-1), .int .i64 1000001] 2))) := tab_lit [0, -1, 1000001]
      have HD1 := hide (HD.out.alloc HP.out (.cells #[.int .i64 0, .int .i64 (-1), .int .i64 1000001] 2))
      have hne : w2.heap.size ≠ p := by have := HD.out.kept.size; have := HP.out; omega
      have hd := below_any p a len cap _ HD1.out.cur 3 (by omega) (by omega)
      clear y0 z0 y1 z1 y2 z2
      go_wp2_with fail
      refine hd.mono ?_
      rintro e w4 ⟨m, rfl, hm0, hm1, hc, hk4⟩
      obtain ⟨M, rfl⟩ : ∃ M : Nat, m = (M : Int) := ⟨m.toNat, by omega⟩
      have hMi : (M : Int) < 3 := by omega
      obtain ⟨Z, hz⟩ := (HT.out.kept hk4 hne) M (by omega)
      have HD2 := hide (HD1.out.step HP.out hc hk4)
      have HE := hide ((HD2.out.set HP.out HAB.out 2 (.int .i64 Z)).js HC0.out)
      clear hd hc hk4 HT HD1 HD
      generalize w2.heap.size = Tq at *
      obtain ⟨y2, z2⟩ := HD2.out.bx 2 _ rfl
      clear HD2
      go_wp2_with fail
      go_meet
      exact HE.out
    · clear y0 z0 y1 z1 y2 z2
      have HBn : Hid (∀ w', Cur p a len cap w' → Calls Try.prog 31 #[.pointer (some ⟨p, 0, none⟩), .int .i64 9] w' (Drawn p a len cap w' 0 (9 - 1))) := fun w' h => below_any p a len cap w' h 9 (by omega) (by omega)
      have HBc : Hid (∀ w', Cur p a len cap w' → Calls Try.prog 31 #[.pointer (some ⟨p, 0, none⟩), .int .i64 3] w' (Drawn p a len cap w' 0 (3 - 1))) := fun w' h => below_any p a len cap w' h 3 (by omega) (by omega)
      have HPw : Hid (p < w2.heap.size) := Nat.lt_of_lt_of_le HP.out HD.out.kept.size
      have HY0 : Hid (∀ w', Kept p w2 w' → w'.cell? ⟨X, 0, none⟩ = some (Value.slice (some ⟨b0, 0, none⟩) 9 c0)) := fun w' hk => hk.cell (a := ⟨X, 0, none⟩) (by show X ≠ p; have := HD.out.dj; have := HP.out; omega) (HD.out.bx 0 _ rfl).1
      have HYc : Hid (∀ w' k, k < 9 → Kept p w2 w' → (∃ z : Int, w'.cell? ⟨b0, k, none⟩ = some (.int .i64 z)) ∧ w'.frozen? ⟨b0, k, none⟩ = false) := fun w' k hkm hk => by
        have hne : b0 ≠ p := by have := HD.out.dj; have := HP.out; omega
        have hr := HD.out.r0
        exact ⟨⟨_, hk.cell (a := ⟨b0, k, none⟩) hne (hr k hkm).1⟩, (hk.frozen (a := ⟨b0, k, none⟩) hne (hr k hkm).1).trans (hr k hkm).2⟩
      go_upto_region 5 with fail
      obtain ⟨G, hG⟩ : ∃ G : Nat → Value → Prop, G = (fun j v => match j with | 0 => v = .pointer (some ⟨X, 0, none⟩) | 1 => v = .slice (some ⟨b0, 0, none⟩) 9 c0 | 2 => v = .pointer (some ⟨p, 0, none⟩) | 3 => ∃ z : Nat, z < 9 ∧ v = .int .i64 ((z : Nat) : Int) | 5 => v = .pointer (some ⟨p, 0, none⟩) | 6 => ∃ z : Nat, z < 3 ∧ v = .int .i64 ((z : Nat) : Int) | 8 => ∃ z : Int, v = .int .i64 z | 9 => ∃ k : Nat, k < 9 ∧ v = .pointer (some ⟨b0, k, none⟩) | _ => True) := ⟨_, rfl⟩
      have G0 : Hid (∀ v, G 0 v ↔ v = .pointer (some ⟨X, 0, none⟩)) := fun v => by rw [hG]; exact Iff.rfl
      have G1 : Hid (∀ v, G 1 v ↔ v = .slice (some ⟨b0, 0, none⟩) 9 c0) := fun v => by rw [hG]; exact Iff.rfl
      have G2 : Hid (∀ v, G 2 v ↔ v = .pointer (some ⟨p, 0, none⟩)) := fun v => by rw [hG]; exact Iff.rfl
      have G3 : Hid (∀ v, G 3 v ↔ ∃ z : Nat, z < 9 ∧ v = .int .i64 ((z : Nat) : Int)) := fun v => by rw [hG]; exact Iff.rfl
      have G4 : Hid (∀ v, G 4 v) := fun v => by rw [hG]; trivial
      have G5 : Hid (∀ v, G 5 v ↔ v = .pointer (some ⟨p, 0, none⟩)) := fun v => by rw [hG]; exact Iff.rfl
      have G6 : Hid (∀ v, G 6 v ↔ ∃ z : Nat, z < 3 ∧ v = .int .i64 ((z : Nat) : Int)) := fun v => by rw [hG]; exact Iff.rfl
      have G7 : Hid (∀ v, G 7 v) := fun v => by rw [hG]; trivial
      have G8 : Hid (∀ v, G 8 v ↔ ∃ z : Int, v = .int .i64 z) := fun v => by rw [hG]; exact Iff.rfl
      have G9 : Hid (∀ v, G 9 v ↔ ∃ k : Nat, k < 9 ∧ v = .pointer (some ⟨b0, k, none⟩)) := fun v => by rw [hG]; exact Iff.rfl
      have G10 : Hid (∀ v, G 10 v) := fun v => by rw [hG]; trivial
      clear hG
      obtain ⟨PP, hPP⟩ : ∃ P : World → Prop, P = (fun w => ∃ (w1 : World) (k : Nat) (z : Int), k < 9 ∧ w = w1.setCell ⟨b0, k, none⟩ (.int .i64 z) ∧ Cur p a len cap w1 ∧ Kept p w2 w1) := ⟨_, rfl⟩
      have HPP := hide hPP
      clear hPP
      refine region_opsV (tR p a len cap 10 w2) (tF 4 7 10 3 w2 G PP) (by kernel_rfl) (by kernel_rfl) (by kernel_rfl) (by kernel_rfl) (fun _ => ⟨HD.out.cur.drewN 1, (Kept.refl _ _).drewN 1⟩) ?_ ?_
      · refine ⟨?_, ?_, ?_, ?_, ?_, ?_, ?_, ?_, ?_, ?_, ?_, trivial⟩
        ·
          intro u w21 au hsl hel hu hF hp' K hK
          have hU : u 10 = undef := (hu.out 10 (by decide) (.inr (by kernel_rfl))).trans (by kernel_rfl)
          obtain ⟨hC, hKp⟩ := hF hU
          have HU := hide hU
          have tq : au.tmps[3]?.getD undef = .pointer (some ⟨X, 0, none⟩) := (hel.out 3 (by kernel_rfl)).trans (by kernel_rfl)
          clear hU
          refine step_plain rfl ?_
          go_simp
          exact hK.out (.pointer (some ⟨X, 0, none⟩)) _ (tR_up hF id (Kept.refl _ _) 0 (by omega) _) (tF_val 0 (by omega) (by omega) (by omega) ((G0.out _).2 rfl)) (fun j hj hf h => tF_up HPw.out (Kept.refl _ _) 0 (by omega) _ j hj (fun e => by subst e; exact absurd (Eq.trans (Eq.symm (by kernel_rfl)) hf) Bool.false_ne_true) h)
        ·
          intro u w21 au hsl hel hu hF hp' K hK
          have hU : u 10 = undef := (hu.out 10 (by decide) (.inr (by kernel_rfl))).trans (by kernel_rfl)
          obtain ⟨hC, hKp⟩ := hF hU
          have HU := hide hU
          have h0 : u 0 = .pointer (some ⟨X, 0, none⟩) := (G0.out _).1 (PreF.get hp' 0 (by kernel_rfl)).1
          have tq : au.tmps[18]?.getD undef = u 0 := hsl.out 0 18 (by kernel_rfl)
          rw [h0] at tq
          clear hU
          have xc := HY0.out _ hKp
          refine step_plain rfl ?_
          go_simp
          exact hK.out (Value.slice (some ⟨b0, 0, none⟩) 9 c0) _ (tR_up hF id (Kept.refl _ _) 1 (by omega) _) (tF_val 1 (by omega) (by omega) (by omega) ((G1.out _).2 rfl)) (fun j hj hf h => tF_up HPw.out (Kept.refl _ _) 1 (by omega) _ j hj (fun e => by subst e; exact absurd (Eq.trans (Eq.symm (by kernel_rfl)) hf) Bool.false_ne_true) h)
        ·
          intro u w21 au hsl hel hu hF hp' K hK
          have hU : u 10 = undef := (hu.out 10 (by decide) (.inr (by kernel_rfl))).trans (by kernel_rfl)
          obtain ⟨hC, hKp⟩ := hF hU
          have HU := hide hU
          have tq : au.tmps[0]?.getD undef = .pointer (some ⟨p, 0, none⟩) := (hel.out 0 (by kernel_rfl)).trans (by kernel_rfl)
          clear hU
          refine step_plain rfl ?_
          go_simp
          exact hK.out (.pointer (some ⟨p, 0, none⟩)) _ (tR_up hF id (Kept.refl _ _) 2 (by omega) _) (tF_val 2 (by omega) (by omega) (by omega) ((G2.out _).2 rfl)) (fun j hj hf h => tF_up HPw.out (Kept.refl _ _) 2 (by omega) _ j hj (fun e => by subst e; exact absurd (Eq.trans (Eq.symm (by kernel_rfl)) hf) Bool.false_ne_true) h)
        ·
          intro u w21 au hsl hel hu hF hp' K hK
          have hU : u 10 = undef := (hu.out 10 (by decide) (.inr (by kernel_rfl))).trans (by kernel_rfl)
          obtain ⟨hC, hKp⟩ := hF hU
          have HU := hide hU
          have h3 : u 2 = .pointer (some ⟨p, 0, none⟩) := (G2.out _).1 (PreF.get hp' 2 (by kernel_rfl)).1
          have tq : au.tmps[20]?.getD undef = u 2 := hsl.out 2 20 (by kernel_rfl)
          rw [h3] at tq
          clear hU
          have hd := HBn.out w21 hC
          refine step_plain rfl ?_
          go_simp
          refine hd.mono ?_
          rintro e w22 ⟨y, rfl, hy0, hy1, hc22, hk22⟩
          obtain ⟨Y9, rfl⟩ : ∃ Y9 : Nat, y = (Y9 : Int) := ⟨y.toNat, by omega⟩
          exact hK.out (.int .i64 (Y9 : Int)) _ (tR_up hF (fun _ => hc22) hk22 3 (by omega) _) (tF_val 3 (by omega) (by omega) (by omega) ((G3.out _).2 ⟨Y9, by omega, rfl⟩)) (fun j hj hf h => tF_up HPw.out (hk22) 3 (by omega) _ j hj (fun e => by subst e; exact absurd (Eq.trans (Eq.symm (by kernel_rfl)) hf) Bool.false_ne_true) h)
        ·
          intro u w21 au hsl hel hu hF hp' K hK
          have hU : u 10 = undef := (hu.out 10 (by decide) (.inr (by kernel_rfl))).trans (by kernel_rfl)
          obtain ⟨hC, hKp⟩ := hF hU
          have HU := hide hU
          clear hU
          have hb := bnew w21 (.cells #[.int .i64 1000001, .int .i64 (-1000001), .int .i64 4611686018427387904] 2)
          have HT : Hid (TabC 3 w21.heap.size (w21.alloc (.cells #[.int .i64 1000001, .int .i64 (-1000001), .int .i64 4611686018427387904] 2))) := tab_lit [(1000001 : Int), (-1000001 : Int), (4611686018427387904 : Int)]
          have HS := hide hKp.size
          refine step_plain rfl ?_
          go_simp
          exact hK.out (.slice (some ⟨w21.heap.size, 0, none⟩) 3 3) _ (tR_up hF (fun h => h.below hb) (Kept.of_below hb) 4 (by omega) _) (tF_tab (by omega) (by omega) G4.out HS.out HT.out) (fun j hj hf h => tF_up HPw.out (Kept.of_below hb) 4 (by omega) _ j hj (fun e => by subst e; exact absurd (Eq.trans (Eq.symm (by kernel_rfl)) hf) Bool.false_ne_true) h)
        ·
          intro u w21 au hsl hel hu hF hp' K hK
          have hU : u 10 = undef := (hu.out 10 (by decide) (.inr (by kernel_rfl))).trans (by kernel_rfl)
          obtain ⟨hC, hKp⟩ := hF hU
          have HU := hide hU
          have tq : au.tmps[0]?.getD undef = .pointer (some ⟨p, 0, none⟩) := (hel.out 0 (by kernel_rfl)).trans (by kernel_rfl)
          clear hU
          refine step_plain rfl ?_
          go_simp
          exact hK.out (.pointer (some ⟨p, 0, none⟩)) _ (tR_up hF id (Kept.refl _ _) 5 (by omega) _) (tF_val 5 (by omega) (by omega) (by omega) ((G5.out _).2 rfl)) (fun j hj hf h => tF_up HPw.out (Kept.refl _ _) 5 (by omega) _ j hj (fun e => by subst e; exact absurd (Eq.trans (Eq.symm (by kernel_rfl)) hf) Bool.false_ne_true) h)
        ·
          intro u w21 au hsl hel hu hF hp' K hK
          have hU : u 10 = undef := (hu.out 10 (by decide) (.inr (by kernel_rfl))).trans (by kernel_rfl)
          obtain ⟨hC, hKp⟩ := hF hU
          have HU := hide hU
          have h3 : u 5 = .pointer (some ⟨p, 0, none⟩) := (G5.out _).1 (PreF.get hp' 5 (by kernel_rfl)).1
          have tq : au.tmps[23]?.getD undef = u 5 := hsl.out 5 23 (by kernel_rfl)
          rw [h3] at tq
          clear hU
          have hd := HBc.out w21 hC
          refine step_plain rfl ?_
          go_simp
          refine hd.mono ?_
          rintro e w22 ⟨y, rfl, hy0, hy1, hc22, hk22⟩
          obtain ⟨Y9, rfl⟩ : ∃ Y9 : Nat, y = (Y9 : Int) := ⟨y.toNat, by omega⟩
          exact hK.out (.int .i64 (Y9 : Int)) _ (tR_up hF (fun _ => hc22) hk22 6 (by omega) _) (tF_val 6 (by omega) (by omega) (by omega) ((G6.out _).2 ⟨Y9, by omega, rfl⟩)) (fun j hj hf h => tF_up HPw.out (hk22) 6 (by omega) _ j hj (fun e => by subst e; exact absurd (Eq.trans (Eq.symm (by kernel_rfl)) hf) Bool.false_ne_true) h)
        ·
          intro u w21 au hsl hel hu hF hp' K hK
          have hU : u 10 = undef := (hu.out 10 (by decide) (.inr (by kernel_rfl))).trans (by kernel_rfl)
          obtain ⟨hC, hKp⟩ := hF hU
          have HU := hide hU
          obtain ⟨b2, h2, hb2, ht2⟩ := (PreF.get hp' 4 (by kernel_rfl)).2.1 rfl
          have ht2 := ht2 hU
          have tq : au.tmps[22]?.getD undef = u 4 := hsl.out 4 22 (by kernel_rfl)
          rw [h2] at tq
          obtain ⟨z4, hy4, h4⟩ := (G6.out _).1 (PreF.get hp' 6 (by kernel_rfl)).1
          have tq4 : au.tmps[24]?.getD undef = u 6 := hsl.out 6 24 (by kernel_rfl)
          rw [h4] at tq4
          clear hU
          have hz := ht2 z4 hy4
          have hyi : (z4 : Int) < 3 := by omega
          refine step_plain rfl ?_
          go_simp
          exact hK.out (.pointer (some ⟨b2, z4, none⟩)) _ (tR_up hF id (Kept.refl _ _) 7 (by omega) _) (tF_ix (by omega) (by omega) G7.out hb2 hz) (fun j hj hf h => tF_up HPw.out (Kept.refl _ _) 7 (by omega) _ j hj (fun e => by subst e; exact absurd (Eq.trans (Eq.symm (by kernel_rfl)) hf) Bool.false_ne_true) h)
        ·
          intro u w21 au hsl hel hu hF hp' K hK
          have hU : u 10 = undef := (hu.out 10 (by decide) (.inr (by kernel_rfl))).trans (by kernel_rfl)
          obtain ⟨hC, hKp⟩ := hF hU
          have HU := hide hU
          obtain ⟨b5, y5, h5, hb5, ht5⟩ := (PreF.get hp' 7 (by kernel_rfl)).2.2.1 rfl
          obtain ⟨z5, hz5⟩ := ht5 hU
          have tq : au.tmps[25]?.getD undef = u 7 := hsl.out 7 25 (by kernel_rfl)
          rw [h5] at tq
          clear hU
          refine step_plain rfl ?_
          go_simp
          exact hK.out _ _ (tR_up hF id (Kept.refl _ _) 8 (by omega) _) (tF_val 8 (by omega) (by omega) (by omega) ((G8.out _).2 ⟨_, rfl⟩)) (fun j hj hf h => tF_up HPw.out (Kept.refl _ _) 8 (by omega) _ j hj (fun e => by subst e; exact absurd (Eq.trans (Eq.symm (by kernel_rfl)) hf) Bool.false_ne_true) h)
        ·
          intro u w21 au hsl hel hu hF hp' K hK
          have hU : u 10 = undef := (hu.out 10 (by decide) (.inr (by kernel_rfl))).trans (by kernel_rfl)
          obtain ⟨hC, hKp⟩ := hF hU
          have HU := hide hU
          have h1 : u 1 = Value.slice (some ⟨b0, 0, none⟩) 9 c0 := (G1.out _).1 (PreF.get hp' 1 (by kernel_rfl)).1
          have tq : au.tmps[19]?.getD undef = u 1 := hsl.out 1 19 (by kernel_rfl)
          rw [h1] at tq
          obtain ⟨z6, hz6, h6⟩ := (G3.out _).1 (PreF.get hp' 3 (by kernel_rfl)).1
          have tq6 : au.tmps[21]?.getD undef = u 3 := hsl.out 3 21 (by kernel_rfl)
          rw [h6] at tq6
          clear hU
          have hyi : (z6 : Int) < 9 := by omega
          refine step_plain rfl ?_
          go_simp
          exact hK.out (.pointer (some ⟨b0, z6, none⟩)) _ (tR_up hF id (Kept.refl _ _) 9 (by omega) _) (tF_val 9 (by omega) (by omega) (by omega) ((G9.out _).2 ⟨z6, hz6, rfl⟩)) (fun j hj hf h => tF_up HPw.out (Kept.refl _ _) 9 (by omega) _ j hj (fun e => by subst e; exact absurd (Eq.trans (Eq.symm (by kernel_rfl)) hf) Bool.false_ne_true) h)
        ·
          intro u w21 au hsl hel hu hF hp' K hK
          have hU : u 10 = undef := (hu.out 10 (by decide) (.inl rfl)).trans (by kernel_rfl)
          obtain ⟨hC, hKp⟩ := hF hU
          have HU := hide hU
          obtain ⟨k9, hk9, h9⟩ := (G9.out _).1 (PreF.get hp' 9 (by kernel_rfl)).1
          have tq : au.tmps[27]?.getD undef = u 9 := hsl.out 9 27 (by kernel_rfl)
          rw [h9] at tq
          obtain ⟨z8, h8⟩ := (G8.out _).1 (PreF.get hp' 8 (by kernel_rfl)).1
          have tq8 : au.tmps[26]?.getD undef = u 8 := hsl.out 8 26 (by kernel_rfl)
          rw [h8] at tq8
          clear hU
          obtain ⟨⟨zc, xc⟩, xf⟩ := HYc.out _ k9 hk9 hKp
          have HPZ : Hid (∃ (w1 : World) (k : Nat) (z : Int), k < 9 ∧ w21.setCell ⟨b0, k9, none⟩ (.int .i64 z8) = w1.setCell ⟨b0, k, none⟩ (.int .i64 z) ∧ Cur p a len cap w1 ∧ Kept p w2 w1) := ⟨w21, k9, z8, hk9, rfl, hC, hKp⟩
          clear hC hKp
          refine step_plain rfl ?_
          go_simp
          exact hK.out (.bool true) _ (tR_st (by simp [undef])) (tF_done (by omega) (by omega) G10.out (by rw [HPP.out]; exact HPZ.out)) (fun j hj _ h => tF_st (by simp [undef]) j hj (by omega) (by omega) h)
      · intro u w30 hF hall
        have hPq := (hall 10 (by decide)).2.2.2 rfl
        rw [HPP.out] at hPq
        obtain ⟨w1, kk, z', hkk, rfl, hC, hKp⟩ := hPq
        have HE := hide (((HD.out.step HP.out hC hKp).put0 HP.out HAB.out kk z').js HC0.out)
        clear hall hF hC hKp HD
        simp only [rgPut, Act.put]
        go_simp
        go_wp2_with fail
        go_meet
        exact HE.out
    · clear y0 z0 y1 z1 y2 z2
      have HBn : Hid (∀ w', Cur p a len cap w' → Calls Try.prog 31 #[.pointer (some ⟨p, 0, none⟩), .int .i64 3] w' (Drawn p a len cap w' 0 (3 - 1))) := fun w' h => below_any p a len cap w' h 3 (by omega) (by omega)
      have HBc : Hid (∀ w', Cur p a len cap w' → Calls Try.prog 31 #[.pointer (some ⟨p, 0, none⟩), .int .i64 3] w' (Drawn p a len cap w' 0 (3 - 1))) := fun w' h => below_any p a len cap w' h 3 (by omega) (by omega)
      have HPw : Hid (p < w2.heap.size) := Nat.lt_of_lt_of_le HP.out HD.out.kept.size
      have HY0 : Hid (∀ w', Kept p w2 w' → w'.cell? ⟨X, 1, none⟩ = some (Value.slice (some ⟨b1, 0, none⟩) 3 c1)) := fun w' hk => hk.cell (a := ⟨X, 1, none⟩) (by show X ≠ p; have := HD.out.dj; have := HP.out; omega) (HD.out.bx 1 _ rfl).1
      have HYc : Hid (∀ w' k, k < 3 → Kept p w2 w' → (∃ z : Int, w'.cell? ⟨b1, k, none⟩ = some (.int .i64 z)) ∧ w'.frozen? ⟨b1, k, none⟩ = false) := fun w' k hkm hk => by
        have hne : b1 ≠ p := by have := HD.out.dj; have := HP.out; omega
        have hr := HD.out.r1
        exact ⟨⟨_, hk.cell (a := ⟨b1, k, none⟩) hne (hr k hkm).1⟩, (hk.frozen (a := ⟨b1, k, none⟩) hne (hr k hkm).1).trans (hr k hkm).2⟩
      go_upto_region 7 with fail
      obtain ⟨G, hG⟩ : ∃ G : Nat → Value → Prop, G = (fun j v => match j with | 0 => v = .pointer (some ⟨X, 1, none⟩) | 1 => v = .slice (some ⟨b1, 0, none⟩) 3 c1 | 2 => v = .pointer (some ⟨p, 0, none⟩) | 3 => ∃ z : Nat, z < 3 ∧ v = .int .i64 ((z : Nat) : Int) | 5 => v = .pointer (some ⟨p, 0, none⟩) | 6 => ∃ z : Nat, z < 3 ∧ v = .int .i64 ((z : Nat) : Int) | 8 => ∃ z : Int, v = .int .i64 z | 9 => ∃ k : Nat, k < 3 ∧ v = .pointer (some ⟨b1, k, none⟩) | _ => True) := ⟨_, rfl⟩
      have G0 : Hid (∀ v, G 0 v ↔ v = .pointer (some ⟨X, 1, none⟩)) := fun v => by rw [hG]; exact Iff.rfl
      have G1 : Hid (∀ v, G 1 v ↔ v = .slice (some ⟨b1, 0, none⟩) 3 c1) := fun v => by rw [hG]; exact Iff.rfl
      have G2 : Hid (∀ v, G 2 v ↔ v = .pointer (some ⟨p, 0, none⟩)) := fun v => by rw [hG]; exact Iff.rfl
      have G3 : Hid (∀ v, G 3 v ↔ ∃ z : Nat, z < 3 ∧ v = .int .i64 ((z : Nat) : Int)) := fun v => by rw [hG]; exact Iff.rfl
      have G4 : Hid (∀ v, G 4 v) := fun v => by rw [hG]; trivial
      have G5 : Hid (∀ v, G 5 v ↔ v = .pointer (some ⟨p, 0, none⟩)) := fun v => by rw [hG]; exact Iff.rfl
      have G6 : Hid (∀ v, G 6 v ↔ ∃ z : Nat, z < 3 ∧ v = .int .i64 ((z : Nat) : Int)) := fun v => by rw [hG]; exact Iff.rfl
      have G7 : Hid (∀ v, G 7 v) := fun v => by rw [hG]; trivial
      have G8 : Hid (∀ v, G 8 v ↔ ∃ z : Int, v = .int .i64 z) := fun v => by rw [hG]; exact Iff.rfl
      have G9 : Hid (∀ v, G 9 v ↔ ∃ k : Nat, k < 3 ∧ v = .pointer (some ⟨b1, k, none⟩)) := fun v => by rw [hG]; exact Iff.rfl
      have G10 : Hid (∀ v, G 10 v) := fun v => by rw [hG]; trivial
      clear hG
      obtain ⟨PP, hPP⟩ : ∃ P : World → Prop, P = (fun w => ∃ (w1 : World) (k : Nat) (z : Int), k < 3 ∧ w = w1.setCell ⟨b1, k, none⟩ (.int .i64 z) ∧ Cur p a len cap w1 ∧ Kept p w2 w1) := ⟨_, rfl⟩
      have HPP := hide hPP
      clear hPP
      refine region_opsV (tR p a len cap 10 w2) (tF 4 7 10 3 w2 G PP) (by kernel_rfl) (by kernel_rfl) (by kernel_rfl) (by kernel_rfl) (fun _ => ⟨HD.out.cur.drewN 1, (Kept.refl _ _).drewN 1⟩) ?_ ?_
      · refine ⟨?_, ?_, ?_, ?_, ?_, ?_, ?_, ?_, ?_, ?_, ?_, trivial⟩
        ·
          intro u w21 au hsl hel hu hF hp' K hK
          have hU : u 10 = undef := (hu.out 10 (by decide) (.inr (by kernel_rfl))).trans (by kernel_rfl)
          obtain ⟨hC, hKp⟩ := hF hU
          have HU := hide hU
          have tq : au.tmps[3]?.getD undef = .pointer (some ⟨X, 0, none⟩) := (hel.out 3 (by kernel_rfl)).trans (by kernel_rfl)
          clear hU
          refine step_plain rfl ?_
          go_simp
          exact hK.out (.pointer (some ⟨X, 1, none⟩)) _ (tR_up hF id (Kept.refl _ _) 0 (by omega) _) (tF_val 0 (by omega) (by omega) (by omega) ((G0.out _).2 rfl)) (fun j hj hf h => tF_up HPw.out (Kept.refl _ _) 0 (by omega) _ j hj (fun e => by subst e; exact absurd (Eq.trans (Eq.symm (by kernel_rfl)) hf) Bool.false_ne_true) h)
        ·
          intro u w21 au hsl hel hu hF hp' K hK
          have hU : u 10 = undef := (hu.out 10 (by decide) (.inr (by kernel_rfl))).trans (by kernel_rfl)
          obtain ⟨hC, hKp⟩ := hF hU
          have HU := hide hU
          have h0 : u 0 = .pointer (some ⟨X, 1, none⟩) := (G0.out _).1 (PreF.get hp' 0 (by kernel_rfl)).1
          have tq : au.tmps[30]?.getD undef = u 0 := hsl.out 0 30 (by kernel_rfl)
          rw [h0] at tq
          clear hU
          have xc := HY0.out _ hKp
          refine step_plain rfl ?_
          go_simp
          exact hK.out (Value.slice (some ⟨b1, 0, none⟩) 3 c1) _ (tR_up hF id (Kept.refl _ _) 1 (by omega) _) (tF_val 1 (by omega) (by omega) (by omega) ((G1.out _).2 rfl)) (fun j hj hf h => tF_up HPw.out (Kept.refl _ _) 1 (by omega) _ j hj (fun e => by subst e; exact absurd (Eq.trans (Eq.symm (by kernel_rfl)) hf) Bool.false_ne_true) h)
        ·
          intro u w21 au hsl hel hu hF hp' K hK
          have hU : u 10 = undef := (hu.out 10 (by decide) (.inr (by kernel_rfl))).trans (by kernel_rfl)
          obtain ⟨hC, hKp⟩ := hF hU
          have HU := hide hU
          have tq : au.tmps[0]?.getD undef = .pointer (some ⟨p, 0, none⟩) := (hel.out 0 (by kernel_rfl)).trans (by kernel_rfl)
          clear hU
          refine step_plain rfl ?_
          go_simp
          exact hK.out (.pointer (some ⟨p, 0, none⟩)) _ (tR_up hF id (Kept.refl _ _) 2 (by omega) _) (tF_val 2 (by omega) (by omega) (by omega) ((G2.out _).2 rfl)) (fun j hj hf h => tF_up HPw.out (Kept.refl _ _) 2 (by omega) _ j hj (fun e => by subst e; exact absurd (Eq.trans (Eq.symm (by kernel_rfl)) hf) Bool.false_ne_true) h)
        ·
          intro u w21 au hsl hel hu hF hp' K hK
          have hU : u 10 = undef := (hu.out 10 (by decide) (.inr (by kernel_rfl))).trans (by kernel_rfl)
          obtain ⟨hC, hKp⟩ := hF hU
          have HU := hide hU
          have h3 : u 2 = .pointer (some ⟨p, 0, none⟩) := (G2.out _).1 (PreF.get hp' 2 (by kernel_rfl)).1
          have tq : au.tmps[32]?.getD undef = u 2 := hsl.out 2 32 (by kernel_rfl)
          rw [h3] at tq
          clear hU
          have hd := HBn.out w21 hC
          refine step_plain rfl ?_
          go_simp
          refine hd.mono ?_
          rintro e w22 ⟨y, rfl, hy0, hy1, hc22, hk22⟩
          obtain ⟨Y9, rfl⟩ : ∃ Y9 : Nat, y = (Y9 : Int) := ⟨y.toNat, by omega⟩
          exact hK.out (.int .i64 (Y9 : Int)) _ (tR_up hF (fun _ => hc22) hk22 3 (by omega) _) (tF_val 3 (by omega) (by omega) (by omega) ((G3.out _).2 ⟨Y9, by omega, rfl⟩)) (fun j hj hf h => tF_up HPw.out (hk22) 3 (by omega) _ j hj (fun e => by subst e; exact absurd (Eq.trans (Eq.symm (by kernel_rfl)) hf) Bool.false_ne_true) h)
        ·
          intro u w21 au hsl hel hu hF hp' K hK
          have hU : u 10 = undef := (hu.out 10 (by decide) (.inr (by kernel_rfl))).trans (by kernel_rfl)
          obtain ⟨hC, hKp⟩ := hF hU
          have HU := hide hU
          clear hU
          have hb := bnew w21 (.cells #[.int .i64 1000001, .int .i64 (-1000001), .int .i64 4611686018427387904] 2)
          have HT : Hid (TabC 3 w21.heap.size (w21.alloc (.cells #[.int .i64 1000001, .int .i64 (-1000001), .int .i64 4611686018427387904] 2))) := tab_lit [(1000001 : Int), (-1000001 : Int), (4611686018427387904 : Int)]
          have HS := hide hKp.size
          refine step_plain rfl ?_
          go_simp
          exact hK.out (.slice (some ⟨w21.heap.size, 0, none⟩) 3 3) _ (tR_up hF (fun h => h.below hb) (Kept.of_below hb) 4 (by omega) _) (tF_tab (by omega) (by omega) G4.out HS.out HT.out) (fun j hj hf h => tF_up HPw.out (Kept.of_below hb) 4 (by omega) _ j hj (fun e => by subst e; exact absurd (Eq.trans (Eq.symm (by kernel_rfl)) hf) Bool.false_ne_true) h)
        ·
          intro u w21 au hsl hel hu hF hp' K hK
          have hU : u 10 = undef := (hu.out 10 (by decide) (.inr (by kernel_rfl))).trans (by kernel_rfl)
          obtain ⟨hC, hKp⟩ := hF hU
          have HU := hide hU
          have tq : au.tmps[0]?.getD undef = .pointer (some ⟨p, 0, none⟩) := (hel.out 0 (by kernel_rfl)).trans (by kernel_rfl)
          clear hU
          refine step_plain rfl ?_
          go_simp
          exact hK.out (.pointer (some ⟨p, 0, none⟩)) _ (tR_up hF id (Kept.refl _ _) 5 (by omega) _) (tF_val 5 (by omega) (by omega) (by omega) ((G5.out _).2 rfl)) (fun j hj hf h => tF_up HPw.out (Kept.refl _ _) 5 (by omega) _ j hj (fun e => by subst e; exact absurd (Eq.trans (Eq.symm (by kernel_rfl)) hf) Bool.false_ne_true) h)
        ·
          intro u w21 au hsl hel hu hF hp' K hK
          have hU : u 10 = undef := (hu.out 10 (by decide) (.inr (by kernel_rfl))).trans (by kernel_rfl)
          obtain ⟨hC, hKp⟩ := hF hU
          have HU := hide hU
          have h3 : u 5 = .pointer (some ⟨p, 0, none⟩) := (G5.out _).1 (PreF.get hp' 5 (by kernel_rfl)).1
          have tq : au.tmps[35]?.getD undef = u 5 := hsl.out 5 35 (by kernel_rfl)
          rw [h3] at tq
          clear hU
          have hd := HBc.out w21 hC
          refine step_plain rfl ?_
          go_simp
          refine hd.mono ?_
          rintro e w22 ⟨y, rfl, hy0, hy1, hc22, hk22⟩
          obtain ⟨Y9, rfl⟩ : ∃ Y9 : Nat, y = (Y9 : Int) := ⟨y.toNat, by omega⟩
          exact hK.out (.int .i64 (Y9 : Int)) _ (tR_up hF (fun _ => hc22) hk22 6 (by omega) _) (tF_val 6 (by omega) (by omega) (by omega) ((G6.out _).2 ⟨Y9, by omega, rfl⟩)) (fun j hj hf h => tF_up HPw.out (hk22) 6 (by omega) _ j hj (fun e => by subst e; exact absurd (Eq.trans (Eq.symm (by kernel_rfl)) hf) Bool.false_ne_true) h)
        ·
          intro u w21 au hsl hel hu hF hp' K hK
          have hU : u 10 = undef := (hu.out 10 (by decide) (.inr (by kernel_rfl))).trans (by kernel_rfl)
          obtain ⟨hC, hKp⟩ := hF hU
          have HU := hide hU
          obtain ⟨b2, h2, hb2, ht2⟩ := (PreF.get hp' 4 (by kernel_rfl)).2.1 rfl
          have ht2 := ht2 hU
          have tq : au.tmps[34]?.getD undef = u 4 := hsl.out 4 34 (by kernel_rfl)
          rw [h2] at tq
          obtain ⟨z4, hy4, h4⟩ := (G6.out _).1 (PreF.get hp' 6 (by kernel_rfl)).1
          have tq4 : au.tmps[36]?.getD undef = u 6 := hsl.out 6 36 (by kernel_rfl)
          rw [h4] at tq4
          clear hU
          have hz := ht2 z4 hy4
          have hyi : (z4 : Int) < 3 := by omega
          refine step_plain rfl ?_
          go_simp
          exact hK.out (.pointer (some ⟨b2, z4, none⟩)) _ (tR_up hF id (Kept.refl _ _) 7 (by omega) _) (tF_ix (by omega) (by omega) G7.out hb2 hz) (fun j hj hf h => tF_up HPw.out (Kept.refl _ _) 7 (by omega) _ j hj (fun e => by subst e; exact absurd (Eq.trans (Eq.symm (by kernel_rfl)) hf) Bool.false_ne_true) h)
        ·
          intro u w21 au hsl hel hu hF hp' K hK
          have hU : u 10 = undef := (hu.out 10 (by decide) (.inr (by kernel_rfl))).trans (by kernel_rfl)
          obtain ⟨hC, hKp⟩ := hF hU
          have HU := hide hU
          obtain ⟨b5, y5, h5, hb5, ht5⟩ := (PreF.get hp' 7 (by kernel_rfl)).2.2.1 rfl
          obtain ⟨z5, hz5⟩ := ht5 hU
          have tq : au.tmps[37]?.getD undef = u 7 := hsl.out 7 37 (by kernel_rfl)
          rw [h5] at tq
          clear hU
          refine step_plain rfl ?_
          go_simp
          exact hK.out _ _ (tR_up hF id (Kept.refl _ _) 8 (by omega) _) (tF_val 8 (by omega) (by omega) (by omega) ((G8.out _).2 ⟨_, rfl⟩)) (fun j hj hf h => tF_up HPw.out (Kept.refl _ _) 8 (by omega) _ j hj (fun e => by subst e; exact absurd (Eq.trans (Eq.symm (by kernel_rfl)) hf) Bool.false_ne_true) h)
        ·
          intro u w21 au hsl hel hu hF hp' K hK
          have hU : u 10 = undef := (hu.out 10 (by decide) (.inr (by kernel_rfl))).trans (by kernel_rfl)
          obtain ⟨hC, hKp⟩ := hF hU
          have HU := hide hU
          have h1 : u 1 = Value.slice (some ⟨b1, 0, none⟩) 3 c1 := (G1.out _).1 (PreF.get hp' 1 (by kernel_rfl)).1
          have tq : au.tmps[31]?.getD undef = u 1 := hsl.out 1 31 (by kernel_rfl)
          rw [h1] at tq
          obtain ⟨z6, hz6, h6⟩ := (G3.out _).1 (PreF.get hp' 3 (by kernel_rfl)).1
          have tq6 : au.tmps[33]?.getD undef = u 3 := hsl.out 3 33 (by kernel_rfl)
          rw [h6] at tq6
          clear hU
          have hyi : (z6 : Int) < 3 := by omega
          refine step_plain rfl ?_
          go_simp
          exact hK.out (.pointer (some ⟨b1, z6, none⟩)) _ (tR_up hF id (Kept.refl _ _) 9 (by omega) _) (tF_val 9 (by omega) (by omega) (by omega) ((G9.out _).2 ⟨z6, hz6, rfl⟩)) (fun j hj hf h => tF_up HPw.out (Kept.refl _ _) 9 (by omega) _ j hj (fun e => by subst e; exact absurd (Eq.trans (Eq.symm (by kernel_rfl)) hf) Bool.false_ne_true) h)
        ·
          intro u w21 au hsl hel hu hF hp' K hK
          have hU : u 10 = undef := (hu.out 10 (by decide) (.inl rfl)).trans (by kernel_rfl)
          obtain ⟨hC, hKp⟩ := hF hU
          have HU := hide hU
          obtain ⟨k9, hk9, h9⟩ := (G9.out _).1 (PreF.get hp' 9 (by kernel_rfl)).1
          have tq : au.tmps[39]?.getD undef = u 9 := hsl.out 9 39 (by kernel_rfl)
          rw [h9] at tq
          obtain ⟨z8, h8⟩ := (G8.out _).1 (PreF.get hp' 8 (by kernel_rfl)).1
          have tq8 : au.tmps[38]?.getD undef = u 8 := hsl.out 8 38 (by kernel_rfl)
          rw [h8] at tq8
          clear hU
          obtain ⟨⟨zc, xc⟩, xf⟩ := HYc.out _ k9 hk9 hKp
          have HPZ : Hid (∃ (w1 : World) (k : Nat) (z : Int), k < 3 ∧ w21.setCell ⟨b1, k9, none⟩ (.int .i64 z8) = w1.setCell ⟨b1, k, none⟩ (.int .i64 z) ∧ Cur p a len cap w1 ∧ Kept p w2 w1) := ⟨w21, k9, z8, hk9, rfl, hC, hKp⟩
          clear hC hKp
          refine step_plain rfl ?_
          go_simp
          exact hK.out (.bool true) _ (tR_st (by simp [undef])) (tF_done (by omega) (by omega) G10.out (by rw [HPP.out]; exact HPZ.out)) (fun j hj _ h => tF_st (by simp [undef]) j hj (by omega) (by omega) h)
      · intro u w30 hF hall
        have hPq := (hall 10 (by decide)).2.2.2 rfl
        rw [HPP.out] at hPq
        obtain ⟨w1, kk, z', hkk, rfl, hC, hKp⟩ := hPq
        have HE := hide (((HD.out.step HP.out hC hKp).put1 HP.out HAB.out kk z').js HC0.out)
        clear hall hF hC hKp HD
        simp only [rgPut, Act.put]
        go_simp
        go_wp2_with fail
        go_meet
        exact HE.out
    · have HE := hide (HD.out.set HP.out HAB.out 0 (.slice (some ⟨b0, 0, none⟩) 8 c0))
      have q8 := fun w => cut8 b0 c0 HC0.out w
      clear HD
      go_wp2_with fail
      go_meet
      have h := HE.out
      exact ⟨D, _, 8, c0, b0, F0, _, 3, c1, b1, F1, by omega, by omega, h.cur, h.kept, h.bx, h.res, .inr ⟨rfl, fun k hk => h.r0 k (by omega)⟩, .inr ⟨rfl, h.r1⟩, .inr ⟨h.dj.2.2.1, by have := h.dj; omega⟩, .inr ⟨by have := h.dj; omega, by have := h.dj; omega⟩, h.kx, .inr (.inl rfl), .inr (.inl rfl)⟩
    · have HW := hide (row_lit (w := w2) [1, 2, 3, 2, 4, 6, 0, 0, 1])
      have HD1 := hide (HD.out.alloc HP.out (.cells #[.int .i64 1, .int .i64 2, .int .i64 3, .int .i64 2, .int .i64 4, .int .i64 6, .int .i64 0, .int .i64 0, .int .i64 1] 2))
      have HE := hide (HD1.out.set HP.out HAB.out 0 (.slice (some ⟨w2.heap.size, 0, none⟩) 9 9))
      have hs := HD.out.kept.size
      have hd2 := HD.out.dj
      have hne : X ≠ w2.heap.size := by omega
      have HR9 := hide (Row.set HW.out (p := ⟨X, 0, none⟩) hne (.slice (some ⟨w2.heap.size, 0, none⟩) 9 9))
      have HN : Hid (wB.heap.size ≤ w2.heap.size ∧ w2.heap.size ≠ R) := ⟨hs, by omega⟩
      have HNN : Hid (w.heap.size ≤ w2.heap.size) := HD.out.kx.1
      clear y0 z0 y1 z1 y2 z2
      obtain ⟨y0, z0⟩ := HD1.out.bx 0 _ rfl
      clear HD HW HD1 hd2 hs
      go_wp2_with fail
      go_meet
      have h := HE.out
      exact ⟨D, _, 9, 9, w2.heap.size, _, _, 3, c1, b1, F1, by omega, by omega, h.cur, h.kept, h.bx, h.res, .inr ⟨rfl, HR9.out⟩, .inr ⟨rfl, h.r1⟩, .inr HN.out, .inr ⟨by have := h.dj; omega, by have := h.dj; omega⟩, h.kx, .inr (.inr HNN.out), .inr (.inl rfl)⟩
    · clear y0 z0 y1 z1 y2 z2
      go_wp2_with fail
      go_loopw [5] (fun i wr => ∃ (k : Nat) (F : Nat → Int), k ≤ 9 ∧ i = .int .i64 k ∧ DS p a len cap wB w X R [.slice (some ⟨b0, 0, none⟩) 9 c0, .slice (some ⟨b1, 0, none⟩) 3 c1, .int .i64 D] b0 F b1 F1 wr) (fun i _ => 9 - (intOf i).toNat)
      case atStart => exact ⟨0, F0, by omega, rfl, HD.out⟩
      case round =>
        obtain ⟨k, F, hk, rfl, hd⟩ := hrel
        clear HD
        have HD := hide hd
        clear hd
        by_cases hlt : k < 9
        · have hki : (k : Int) < 9 := by omega
          obtain ⟨y0, z0⟩ := HD.out.bx 0 _ rfl
          obtain ⟨r0, rf⟩ := HD.out.r0 k hlt
          have HN := hide (HD.out.put0 HP.out HAB.out k (wrap64 (2 * F k)))
          generalize F k = z at *
          clear HD
          go_upto_region 16 with fail
          go_region
          go_wp2_with fail
          go_roundw
          case rel => exact ⟨k + 1, _, by omega, by go_num, HN.out.step HP.out (HN.out.cur.drewN 1) (Kept.refl p _).drew⟩
          case measure => simp [intOf]; omega
        · obtain rfl : k = 9 := by omega
          have HW := hide (row_lit (w := wr) [2, 4, 0])
          have HD1 := hide (HD.out.alloc HP.out (.cells #[.int .i64 2, .int .i64 4, .int .i64 0] 2))
          have HE := hide ((HD1.out.set HP.out HAB.out 1 (.slice (some ⟨wr.heap.size, 0, none⟩) 3 3)).set HP.out HAB.out 2 (.int .i64 2))
          have hs := HD.out.kept.size
          have hd2 := HD.out.dj
          have hne : X ≠ wr.heap.size := by omega
          have HR9 := hide (Row.set (Row.set HW.out (p := ⟨X, 1, none⟩) hne (.slice (some ⟨wr.heap.size, 0, none⟩) 3 3)) (p := ⟨X, 2, none⟩) hne (.int .i64 2))
          have HN : Hid (wB.heap.size ≤ wr.heap.size ∧ wr.heap.size ≠ R) := ⟨hs, by omega⟩
          have HNN : Hid (w.heap.size ≤ wr.heap.size) := HD.out.kx.1
          obtain ⟨y1, z1⟩ := HD1.out.bx 1 _ rfl
          obtain ⟨y2, z2⟩ := HD1.out.bx 2 _ rfl
          clear HD HW HD1 hd2 hs
          go_wp2_with fail
          go_meet
          have h := HE.out
          exact ⟨2, _, 9, c0, b0, F, _, 3, 3, wr.heap.size, _, by omega, by omega, h.cur, h.kept, h.bx, h.res, .inr ⟨rfl, h.r0⟩, .inr ⟨rfl, HR9.out⟩, .inr ⟨h.dj.2.2.1, by have := h.dj; omega⟩, .inr HN.out, h.kx, .inr (.inl rfl), .inr (.inr HNN.out)⟩
    · have HE := hide (((HD.out.set HP.out HAB.out 0 (.slice none 0 0)).set HP.out HAB.out 1 (.slice none 0 0)).set HP.out HAB.out 2 (.int .i64 0))
      clear HD
      go_wp2_with fail
      go_meet
      have h := HE.out
      exact ⟨0, none, 0, 0, 0, fun _ => 0, none, 0, 0, 0, fun _ => 0, by omega, by omega, h.cur, h.kept, h.bx, h.res, .inl rfl, .inl rfl, .inl rfl, .inl rfl, h.kx, .inl rfl, .inl rfl⟩
  case rest =>
    obtain ⟨D', x0, n0, c0', q0, G0, x1, n1, c1', q1, G1, h0, h1, hc, hk, hb, hr, o0, o1, k0, k1, hkx, u5, u6⟩ := hcut
    have HF : Hid (DrX p a len cap wB w b0 b1 (.returned (vFrame D' x0 n0 c0' x1 n1 c1')) (((wc.setCell ⟨R, 0, none⟩ (.slice x0 n0 c0')).setCell ⟨R, 1, none⟩ (.slice x1 n1 c1')).setCell ⟨R, 2, none⟩ (.int .i64 D'))) := by
      have hbl := below_set37 (B := wB.heap.size) (Below.refl _ wc) (b := R) (.slice x0 n0 c0') (.slice x1 n1 c1') (.int .i64 D') HD.out.dj.2.1
      refine ⟨D', x0, n0, c0', q0, G0, x1, n1, c1', q1, G1, rfl, h0, h1, ?_, ?_, k0.imp id fun h => h.1, k1.imp id fun h => h.1, hc.belowB hbl HP.out HAB.out, hk.belowB hbl (Nat.le_refl _), ((hkx.set (.inr (.inr HD.out.ge.2)) _).set (.inr (.inr HD.out.ge.2)) _).set (.inr (.inr HD.out.ge.2)) _, u5, u6⟩
      · rcases o0 with h | ⟨ha, h⟩
        · exact .inl h
        · rcases k0 with h2 | h2
          · exact .inl h2
          · exact .inr ⟨ha, ((h.set (p := ⟨R, 0, none⟩) (Ne.symm h2.2) _).set (p := ⟨R, 1, none⟩) (Ne.symm h2.2) _).set (p := ⟨R, 2, none⟩) (Ne.symm h2.2) _⟩
      · rcases o1 with h | ⟨ha, h⟩
        · exact .inl h
        · rcases k1 with h2 | h2
          · exact .inl h2
          · exact .inr ⟨ha, ((h.set (p := ⟨R, 0, none⟩) (Ne.symm h2.2) _).set (p := ⟨R, 1, none⟩) (Ne.symm h2.2) _).set (p := ⟨R, 2, none⟩) (Ne.symm h2.2) _⟩
    obtain ⟨y0, z0⟩ := hb 0 _ rfl
    obtain ⟨y1, z1⟩ := hb 1 _ rfl
    obtain ⟨y2, z2⟩ := hb 2 _ rfl
    obtain ⟨u0, v0⟩ := hr 0 _ rfl
    obtain ⟨u1, v1⟩ := hr 1 _ rfl
    obtain ⟨u2, v2⟩ := hr 2 _ rfl
    clear hb hr o0 o1 k0 k1 hc hk HD h0 h1 hkx u5 u6
    go_wp2_with fail
    exact bodyPost_ret (v := vFrame D' x0 n0 c0' x1 n1 c1') (by simp [results, Try.results30, go_sem, u0, u1, u2]) rfl HF.out

end Go.Proofs.Ytjdbiaoheoialaa

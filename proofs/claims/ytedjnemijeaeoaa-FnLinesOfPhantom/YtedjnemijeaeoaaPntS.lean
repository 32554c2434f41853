/- Painting: the specification. -/
import Derived.Test.YtedjnemijeaeoaaHom
import Derived.Test.YtedjnemijeaeoaaDns
namespace Go.Proofs.Ytedjnemijeaeoaa
open Go.RowKit

/-- the sum of two pixels, as the machine adds them -/
def plus (f g : Nat → Int) (k : Nat) : Int := wrap64 (f k + g k)

/-- can the two images be added -/
def addB (W H : Int) (n : Nat) (f : Nat → Int) (W' H' : Int) (n' : Nat) (g : Nat → Int) : Bool :=
  okB W H n f && (okB W' H' n' g && (decide (W = W') && (decide (H = H') && allB (plus f g) n)))

/-- the boxes of two images, and the room for the answer -/
def Three (n : Nat) (W H : Int) (s : Value) (W' H' : Int) (s' : Value) (w : World) : Prop :=
  Im n W H s w ∧ Im (n + 1) W' H' s' w ∧ Im (n + 2) 0 0 (.slice none 0 0) w ∧ Free (n + 2) w

abbrev three (w : World) (W H : Int) (s : Value) (W' H' : Int) (s' : Value) : World :=
  ((w.alloc (.cells #[.int .i64 W, .int .i64 H, s] 32)).alloc (.cells #[.int .i64 W', .int .i64 H', s'] 32)).alloc (.cells #[.int .i64 0, .int .i64 0, .slice none 0 0] 32)

theorem Three.start (w : World) (W H : Int) (s : Value) (W' H' : Int) (s' : Value) : Three w.heap.size W H s W' H' s' (three w W H s W' H' s') := by
  refine ⟨⟨?_, ?_, ?_⟩, ⟨?_, ?_, ?_⟩, ⟨?_, ?_, ?_⟩, ?_, ?_, ?_⟩ <;> simp [go_sem]

theorem three_below (w : World) (W H : Int) (s : Value) (W' H' : Int) (s' : Value) : Below w.heap.size w (three w W H s W' H' s') :=
  (((Below.refl _ _).alloc (Nat.le_refl _) _).alloc (by simp) _).alloc (by simp; omega) _

theorem three_size (w : World) (W H : Int) (s : Value) (W' H' : Int) (s' : Value) : (three w W H s W' H' s').heap.size = w.heap.size + 3 := by simp

theorem Three.below {n : Nat} {W H : Int} {s : Value} {W' H' : Int} {s' : Value} {w w' : World} (h : Three n W H s W' H' s' w) (hb : Below w.heap.size w w') : Three n W H s W' H' s' w' := by
  obtain ⟨h1, h2, h3, f0, f1, f2⟩ := h
  have hl : n + 2 < w.heap.size := World.block_lt_of_cell? w _ h3.1
  refine ⟨h1.below hb, h2.below hb, h3.below hb, ?_, ?_, ?_⟩
  · exact (hb.frozen (p := ⟨n + 2, 0, none⟩) hl).trans f0
  · exact (hb.frozen (p := ⟨n + 2, 1, none⟩) hl).trans f1
  · exact (hb.frozen (p := ⟨n + 2, 2, none⟩) hl).trans f2

theorem Three.kept {n p : Nat} {W H : Int} {s : Value} {W' H' : Int} {s' : Value} {w w' : World} (h : Three n W H s W' H' s' w) (hk : Kept p w w') (hp : n + 3 ≤ p) : Three n W H s W' H' s' w' := by
  obtain ⟨h1, h2, h3, f0, f1, f2⟩ := h
  refine ⟨h1.kept hk (by omega), h2.kept hk (by omega), h3.kept hk (by omega), ?_, ?_, ?_⟩
  · exact (hk.frozen (a := ⟨n + 2, 0, none⟩) (by show n + 2 ≠ p; omega) h3.1).trans f0
  · exact (hk.frozen (a := ⟨n + 2, 1, none⟩) (by show n + 2 ≠ p; omega) h3.2.1).trans f1
  · exact (hk.frozen (a := ⟨n + 2, 2, none⟩) (by show n + 2 ≠ p; omega) h3.2.2).trans f2

end Go.Proofs.Ytedjnemijeaeoaa

namespace Go.Proofs.Ytedjnemijeaeoaa
open Go.RowKit
set_option maxRecDepth 100000
set_option maxHeartbeats 2000000

/-- the pixel at a place of the painting of the first n shapes -/
def pict (g : Nat → Int) (W : Int) (n q : Nat) : Int := dens g ((q : Int) % W) ((q : Int) / W) n
/-- can it be painted -/
def paintB (g : Nat → Int) (n : Nat) (W H : Int) : Bool := inB W 1 64 && (inB H 1 64 && okS g n)

theorem Row.updP {b n : Nat} {f : Nat → Int} {w : World} (h : Row b n f w) {k : Nat} (hk : k < n) (z : Int) : Row b n (fun q => if q = k then z else f q) (w.setCell ⟨b, k, none⟩ (.int .i64 z)) := by
  intro q hq
  refine ⟨?_, by simpa using (h q hq).2⟩
  by_cases e : q = k
  · subst e
    simp only [if_true]
    exact World.cell?_setCell_same _ _ _ (h q hq).1
  · simp only [if_neg e]
    rw [World.cell?_setCell_other _ _ _ _ (by simp; try omega)]
    exact (h q hq).1
theorem Row.kept {b n p : Nat} {f : Nat → Int} {w w' : World} (h : Row b n f w) (hk : Kept p w w') (hb : b ≠ p) : Row b n f w' := fun q hq => by
  refine ⟨hk.cell hb (h q hq).1, ?_⟩
  rw [hk.frozen hb (h q hq).1]; exact (h q hq).2

theorem side_nat {W : Int} (h : inB W 1 64 = true) : ∃ m : Nat, W = (m : Int) ∧ 1 ≤ m ∧ m ≤ 64 := by
  unfold inB at h
  simp only [Bool.and_eq_true, decide_eq_true_eq] at h
  exact ⟨W.toNat, by omega, by omega, by omega⟩

theorem pt_in {q m M : Nat} (h : q < m * M) (hm : 1 ≤ m) (h1 : m ≤ 64) (h2 : M ≤ 64) : inB ((q : Int) % (m : Int)) (-100000) 100000 = true ∧ inB ((q : Int) / (m : Int)) (-100000) 100000 = true := by
  have e1 : (q : Int) % (m : Int) = ((q % m : Nat) : Int) := rfl
  have e2 : (q : Int) / (m : Int) = ((q / m : Nat) : Int) := rfl
  have b1 : q % m < m := Nat.mod_lt _ (by omega)
  have b2 : q / m < M := Nat.div_lt_of_lt_mul h
  rw [e1, e2]
  clear e1 e2
  generalize q % m = u at *
  generalize q / m = v at *
  unfold inB
  simp only [Bool.and_eq_true, decide_eq_true_eq]
  omega

theorem paint_none {g : Nat → Int} {n : Nat} {W H : Int} (hr : paintB g n W H = false) {w w' : World} (s : Nat → Int) (N : Nat) (hb : Below w.heap.size w w') (hs : w.heap.size < w'.heap.size) :
    Added (paintB g n W H) W H N s w (.returned (im 0 0 none 0 0)) w' := Added.none hr W H N s hb hs

set_option maxHeartbeats 8000000 in
theorem specPaint_no (a : Option Addr) (len cap : Nat) (g : Nat → Int) (hl : len ≤ 1048576) (W H : Int) (N : Nat) (s : Nat → Int) (hr : paintB g len W H = false) (w : World) (h : Px a (len * 7) g w) :
    Calls Try.prog 9 #[.slice a len cap, .int .i64 W, .int .i64 H] w (Added (paintB g len W H) W H N s w) := by
  have cW := l1In_any W 1 64
  have cH := l1In_any H 1 64
  have HB0 : Hid (Below w.heap.size w (w.alloc (.cells #[.int .i64 0, .int .i64 0, .slice none 0 0] 32))) := bnew _ _
  have cO := l2Ok_any a len cap g hl _ (h.below HB0.out)
  have HI0 : Hid (Im w.heap.size 0 0 (.slice none 0 0) (w.alloc (.cells #[.int .i64 0, .int .i64 0, .slice none 0 0] 32))) := Im.new _ _ _ _ _
  have HF0 : Hid (w.alloc (.cells #[.int .i64 0, .int .i64 0, .slice none 0 0] 32) |> Free w.heap.size) := by
    refine ⟨?_, ?_, ?_⟩ <;> simp [go_sem]
  have HR := fun w' => paint_none (w := w) (w' := w') hr s N
  clear h
  cases hW : inB W 1 64
  · rw [hW] at cW
    clear cH cO hW HI0 HF0 HB0
    go_enter Try.func9, Try.ntmps9
    go_wp2_with fail
    refine (cW _).mono ?_
    rintro e w1 ⟨rfl, rfl⟩
    go_wp2_with fail
    refine bodyPost_ret (v := im 0 0 none 0 0) (by simp [results, Try.results9, go_sem]) rfl (HR _ ?_ ?_)
    · exact bnew _ _
    · simp
  rw [hW] at cW
  cases hH : inB H 1 64
  · rw [hH] at cH
    clear cO hH HI0 HF0 HB0
    go_enter Try.func9, Try.ntmps9
    go_wp2_with fail
    refine (cW _).mono ?_
    rintro e w1 ⟨rfl, rfl⟩
    go_wp2_with fail
    refine (cH _).mono ?_
    rintro e w1 ⟨rfl, rfl⟩
    go_wp2_with fail
    refine bodyPost_ret (v := im 0 0 none 0 0) (by simp [results, Try.results9, go_sem]) rfl (HR _ ?_ ?_)
    · exact bnew _ _
    · simp
  rw [hH] at cH
  have hO : okS g len = false := by unfold paintB at hr; rw [hW, hH] at hr; simpa using hr
  rw [hO] at cO
  clear hW hH hO hr
  go_enter Try.func9, Try.ntmps9
  go_wp2_with fail
  refine (cW _).mono ?_
  rintro e w1 ⟨rfl, rfl⟩
  go_wp2_with fail
  refine (cH _).mono ?_
  rintro e w1 ⟨rfl, rfl⟩
  go_wp2_with fail
  refine cO.mono ?_
  rintro e w2 ⟨rfl, hb⟩
  obtain ⟨i0, i1, i2⟩ := HI0.out.below hb
  have hlt : w.heap.size < (w.alloc (.cells #[.int .i64 0, .int .i64 0, .slice none 0 0] 32)).heap.size := by simp
  have f0 := (hb.frozen (p := ⟨w.heap.size, 0, none⟩) hlt).trans HF0.out.1
  have f1 := (hb.frozen (p := ⟨w.heap.size, 1, none⟩) hlt).trans HF0.out.2.1
  have f2 := (hb.frozen (p := ⟨w.heap.size, 2, none⟩) hlt).trans HF0.out.2.2
  have hs := hb.size
  simp at hs
  have HB2 : Hid (Below w.heap.size w w2) := bnext HB0.out (Nat.le_refl _) hb
  clear hb HI0 HF0 HB0 cO cH cW hlt
  go_wp2_with fail
  refine bodyPost_ret (v := im 0 0 none 0 0) (by simp [results, Try.results9, go_sem, i0, i1, i2]) rfl (HR _ ?_ ?_)
  · exact ((HB2.out.setCell (by simp) _).setCell (by simp) _).setCell (by simp) _
  · simp; omega

end Go.Proofs.Ytedjnemijeaeoaa

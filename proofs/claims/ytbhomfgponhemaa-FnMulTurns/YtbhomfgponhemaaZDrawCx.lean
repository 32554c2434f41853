/- The draws of complex numbers. -/
import Derived.Test.YtbhomfgponhemaaZDrawOrd
import Derived.Test.YtbhomfgponhemaaFad
namespace Go.Proofs.Ytbhomfgponhemaa.Z
open Ieee Go.RowKit Fl
attribute [local go_sem] run_store_float alloc_drewN setCell_drewN shape?_drewN run_fneg

/-- a float's cell is none of the cursor's -/
theorem Cur.setFloat {p : Nat} {a : Option Addr} {len cap : Nat} {w : World} (h : Cur p a len cap w) {q : Addr} {k : FloatKind} {v : Nat} (hq : w.cell? q = some (.float k v)) (u : Value) : Cur p a len cap (w.setCell q u) := by
  obtain ⟨h0, ⟨i, hi, h1⟩, ⟨y, h2⟩, f1, f2, hs, hb⟩ := h
  have f : ∀ (r : Addr) (x : Value), w.cell? r = some x → (∀ k v, x ≠ .float k v) → (w.setCell q u).cell? r = some x := by
    intro r x hr hx
    rw [World.cell?_setCell_other _ _ _ _ (by intro e; subst e; rw [hq] at hr; cases hr; exact hx _ _ rfl)]
    exact hr
  refine ⟨f _ _ h0 (by simp), ⟨i, hi, f _ _ h1 (by simp)⟩, ⟨y, f _ _ h2 (by simp)⟩, by simpa using f1, by simpa using f2, hs, ?_⟩
  rcases hb with hb | ⟨b, off, ha, hne, hb⟩
  · exact .inl hb
  · refine .inr ⟨b, off, ha, hne, fun k hk => ?_⟩
    obtain ⟨z, z0, z1, hz⟩ := hb k hk
    exact ⟨z, z0, z1, f _ _ hz (by simp)⟩

theorem Kept.setNew {p : Nat} {w w' : World} (h : Kept p w w') {q : Addr} (hq : w.heap.size ≤ q.block) (v : Value) : Kept p w (w'.setCell q v) :=
  ⟨h.os, h.tape, h.output, by simpa using h.size, fun k hk hk2 => (Below.heap_setCell w' q v k (by omega)).trans (h.block k hk hk2)⟩
theorem Kept.allocK {p : Nat} {w w' : World} (h : Kept p w w') (o : Obj) : Kept p w (w'.alloc o) :=
  h.trans (Kept.of_below ((Below.refl _ _).alloc (Nat.le_refl _) o))

/-- a box that is not the cursor's, behind a draw -/
theorem Kept.box {p r : Nat} {w w' : World} (h : Kept p w w') (hr : r < w.heap.size) (hp : r ≠ p) (o : Nat) : w'.cell? ⟨r, o, none⟩ = w.cell? ⟨r, o, none⟩ ∧ w'.frozen? ⟨r, o, none⟩ = w.frozen? ⟨r, o, none⟩ :=
  ⟨World.cell?_of_block (w := w) (h.block r hr hp), World.frozen?_of_block (w := w) (h.block r hr hp)⟩

/-- what is known of a box of two floats -/
structure Box (r x y : Nat) (w : World) : Prop where
  c0 : w.cell? ⟨r, 0, none⟩ = some (.float .f64 x)
  c1 : w.cell? ⟨r, 1, none⟩ = some (.float .f64 y)
  f0 : w.frozen? ⟨r, 0, none⟩ = false
  f1 : w.frozen? ⟨r, 1, none⟩ = false

theorem Box.new (w : World) (x y : Nat) : Box w.heap.size x y (w.alloc (cellI x y)) := ⟨by simp [go_sem], by simp [go_sem], by simp [go_sem], by simp [go_sem]⟩
theorem Box.kept {p r x y : Nat} {w w' : World} (h : Box r x y w) (hk : Kept p w w') (hp : r ≠ p) : Box r x y w' := by
  have hr : r < w.heap.size := World.block_lt_of_cell? w _ h.c0
  exact ⟨(hk.box hr hp 0).1.trans h.c0, (hk.box hr hp 1).1.trans h.c1, (hk.box hr hp 0).2.trans h.f0, (hk.box hr hp 1).2.trans h.f1⟩

/-- what a draw of a complex number gives -/
def DrawnC (p : Nat) (a : Option Addr) (len cap : Nat) (w : World) (e : Ending) (w' : World) : Prop :=
  ∃ x y : Nat, e = .returned (cx x y) ∧ Cur p a len cap w' ∧ Kept p w w'

set_option maxHeartbeats 1000000 in
theorem drawCx_any (p : Nat) (a : Option Addr) (len cap : Nat) (w : World) (h : Cur p a len cap w) :
    Calls Try.prog 20 #[.pointer (some ⟨p, 0, none⟩)] w (DrawnC p a len cap w) := by
  have hp : p < w.heap.size := World.block_lt_of_cell? w _ h.head
  have hB : Below w.heap.size w (w.alloc (cellI 0 0)) := (Below.refl _ _).alloc (Nat.le_refl _) _
  have hc0 := h.below hB
  have hk0 : Kept p w (w.alloc (cellI 0 0)) := Kept.of_below hB
  have b0 := Box.new w 0 0
  have hne : w.heap.size ≠ p := by omega
  have ho := once_any p a len cap _ hc0 3 (by omega) (by omega)
  clear h hB
  go_enter Try.func20, Try.ntmps20
  go_wp2_with fail
  refine ho.mono ?_
  rintro e w1 ⟨q, rfl, hc1, hk1⟩
  have K1 := hk0.trans hk1
  have b1 := b0.kept hk1 hne
  clear ho hc0 hk0 hk1 b0
  cases q
  · have hf := float_any p a len cap w1 hc1
    clear hc1
    go_wp2_with fail
    refine hf.mono ?_
    rintro e w2 ⟨x, _, rfl, hc2, hk2⟩
    have K2 := K1.trans hk2
    have b2 := b1.kept hk2 hne
    clear hf hk2 K1 b1
    have hf := float_any p a len cap w2 hc2
    clear hc2
    go_wp2_with fail
    refine hf.mono ?_
    rintro e w3 ⟨y, _, rfl, hc3, hk3⟩
    have K3 := K2.trans hk3
    have b3 := b2.kept hk3 hne
    clear hf hk3 K2 b2
    obtain ⟨d0, d1, e0, e1⟩ := b3
    go_wp2_with fail
    refine bodyPost_ret (v := cx x y) (by simp [results, Try.results20, go_sem, d0, d1]) rfl ⟨x, y, rfl, ?_, ?_⟩
    · refine Cur.setFloat (Cur.setFloat hc3 d0 _) (k := .f64) (v := 0) (by rw [World.cell?_setCell_other _ _ _ _ (by simp)]; exact d1) _
    · exact Kept.setNew (Kept.setNew K3 (Nat.le_refl _) _) (Nat.le_refl _) _
  · have hf := from_any p a len cap w1 hc1 (-9) 9 (by omega) (by omega) (by omega)
    clear hc1
    go_wp2_with fail
    refine hf.mono ?_
    rintro e w2 ⟨x, rfl, x0, x1, hc2, hk2⟩
    have K2 := K1.trans hk2
    have b2 := b1.kept hk2 hne
    clear hf hk2 K1 b1
    have hf := from_any p a len cap w2 hc2 (-9) 9 (by omega) (by omega) (by omega)
    clear hc2
    go_wp2_with fail
    refine hf.mono ?_
    rintro e w3 ⟨y, rfl, y0, y1, hc3, hk3⟩
    have K3 := K2.trans hk3
    have b3 := b2.kept hk3 hne
    clear hf hk3 K2 b2 x0 x1 y0 y1
    obtain ⟨d0, d1, e0, e1⟩ := b3
    go_wp2_with fail
    refine bodyPost_ret (v := cx _ _) (by simp [results, Try.results20, go_sem, d0, d1]; exact ⟨rfl, rfl⟩) rfl ⟨_, _, rfl, ?_, ?_⟩
    · refine Cur.setFloat (Cur.setFloat hc3 d0 _) (k := .f64) (v := 0) (by rw [World.cell?_setCell_other _ _ _ _ (by simp)]; exact d1) _
    · exact Kept.setNew (Kept.setNew K3 (Nat.le_refl _) _) (Nat.le_refl _) _

end Go.Proofs.Ytbhomfgponhemaa.Z

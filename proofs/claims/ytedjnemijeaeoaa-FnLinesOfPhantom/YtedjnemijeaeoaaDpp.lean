/- The draw of a list of shapes with a size. -/
import Derived.Test.YtedjnemijeaeoaaDrw
import Derived.Test.YtedjnemijeaeoaaDpg
import Derived.Deep.CutBlock
import Derived.Deep.DeepCutAuto
namespace Go.Proofs.Ytedjnemijeaeoaa
open Go.RowKit

/-- seven numbers in a box, that may be written -/
def Sev (b : Nat) (w : World) : Prop := ∀ j, j < 7 → (∃ z : Int, w.cell? ⟨b, j, none⟩ = some (.int .i64 z)) ∧ w.frozen? ⟨b, j, none⟩ = false
theorem Sev.below {b B : Nat} {w w' : World} (h : Sev b w) (hb : Below B w w') (hB : b < B) : Sev b w' := by
  intro j hj
  rw [hb.cell (p := ⟨b, j, none⟩) hB, hb.frozen (p := ⟨b, j, none⟩) hB]
  exact h j hj
theorem Sev.kept {b p : Nat} {w w' : World} (h : Sev b w) (hk : Kept p w w') (hb : b ≠ p) : Sev b w' := by
  intro j hj
  obtain ⟨⟨z, hz⟩, hf⟩ := h j hj
  exact ⟨⟨z, hk.cell (a := ⟨b, j, none⟩) hb hz⟩, (hk.frozen (a := ⟨b, j, none⟩) hb hz).trans hf⟩
theorem Sev.set {b b' j' : Nat} {w : World} (h : Sev b w) (x : Int) : Sev b (w.setCell ⟨b', j', none⟩ (.int .i64 x)) := by
  intro j hj
  obtain ⟨⟨z, hz⟩, hf⟩ := h j hj
  refine ⟨?_, by simpa using hf⟩
  by_cases e : b = b' ∧ j = j'
  · obtain ⟨rfl, rfl⟩ := e
    exact ⟨x, World.cell?_setCell_same _ _ _ hz⟩
  · exact ⟨z, by rw [World.cell?_setCell_other _ _ _ _ (by simp; intro h; exact fun h2 => e ⟨h.symm, h2.symm⟩)]; exact hz⟩
theorem Sev.new (w : World) (x0 x1 x2 x3 x4 x5 x6 : Int) (t : TypeId) : Sev w.heap.size (w.alloc (.cells #[.int .i64 x0, .int .i64 x1, .int .i64 x2, .int .i64 x3, .int .i64 x4, .int .i64 x5, .int .i64 x6] t)) := by
  intro j hj
  match j, hj with
  | 0, _ => exact ⟨⟨x0, by simp [go_sem]⟩, by simp [go_sem]⟩
  | 1, _ => exact ⟨⟨x1, by simp [go_sem]⟩, by simp [go_sem]⟩
  | 2, _ => exact ⟨⟨x2, by simp [go_sem]⟩, by simp [go_sem]⟩
  | 3, _ => exact ⟨⟨x3, by simp [go_sem]⟩, by simp [go_sem]⟩
  | 4, _ => exact ⟨⟨x4, by simp [go_sem]⟩, by simp [go_sem]⟩
  | 5, _ => exact ⟨⟨x5, by simp [go_sem]⟩, by simp [go_sem]⟩
  | 6, _ => exact ⟨⟨x6, by simp [go_sem]⟩, by simp [go_sem]⟩

theorem Cur.set {p : Nat} {a : Option Addr} {len cap : Nat} {w : World} (h : Cur p a len cap w) (B j : Nat) (v : Value) (hB : B ≠ p) (hbb : len = 0 ∨ ∀ b off, a = some ⟨b, off, none⟩ → B ≠ b) : Cur p a len cap (w.setCell ⟨B, j, none⟩ v) := by
  obtain ⟨h0, ⟨i, hi, h1⟩, ⟨y, h2⟩, f1, f2, hs, hb⟩ := h
  refine ⟨?_, ⟨i, hi, ?_⟩, ⟨y, ?_⟩, by simpa using f1, by simpa using f2, hs, ?_⟩
  · rw [World.cell?_setCell_other _ _ _ _ (by simp; try omega)]; exact h0
  · rw [World.cell?_setCell_other _ _ _ _ (by simp; try omega)]; exact h1
  · rw [World.cell?_setCell_other _ _ _ _ (by simp; try omega)]; exact h2
  · rcases hbb with h0 | hbb
    · exact .inl h0
    rcases hb with hb | ⟨b, off, ha, hne, hb⟩
    · exact .inl hb
    · refine .inr ⟨b, off, ha, hne, fun k hk => ?_⟩
      obtain ⟨z, z0, z1, hz⟩ := hb k hk
      have := hbb b off ha
      exact ⟨z, z0, z1, by rw [World.cell?_setCell_other _ _ _ _ (by simp; try omega)]; exact hz⟩

/-- what is known while a shape is being drawn: the cursor, the answer's box and the shape's -/
structure DS (p : Nat) (a : Option Addr) (len cap : Nat) (w : World) (B : Nat) (wr : World) : Prop where
  cur : Cur p a len cap wr
  kept : Kept p w wr
  res : Sev w.heap.size wr
  box : Sev B wr
  lt : w.heap.size < B ∧ B < wr.heap.size
  pl : p < w.heap.size
  ab : len = 0 ∨ ∀ b off, a = some ⟨b, off, none⟩ → b < w.heap.size

theorem DS.step {p : Nat} {a : Option Addr} {len cap : Nat} {w : World} {B : Nat} {wr w' : World} (h : DS p a len cap w B wr) (hc : Cur p a len cap w') (hk : Kept p wr w') : DS p a len cap w B w' :=
  ⟨hc, h.kept.trans hk, h.res.kept hk (by have := h.pl; omega), h.box.kept hk (by have := h.pl; have := h.lt; omega), ⟨h.lt.1, Nat.lt_of_lt_of_le h.lt.2 hk.size⟩, h.pl, h.ab⟩
theorem DS.set {p : Nat} {a : Option Addr} {len cap : Nat} {w : World} {B : Nat} {wr : World} (h : DS p a len cap w B wr) (j : Nat) (x : Int) : DS p a len cap w B (wr.setCell ⟨B, j, none⟩ (.int .i64 x)) := by
  have hpl := h.pl
  have hlt := h.lt
  refine ⟨h.cur.set B j _ (by omega) (h.ab.imp id fun hh b off e => by have := hh b off e; omega), ?_, h.res.set x, h.box.set x, by simpa using h.lt, h.pl, h.ab⟩
  have hs := h.kept.size
  exact ⟨h.kept.os, h.kept.tape, h.kept.output, by simpa using hs, fun k hk hkp => (Below.heap_setCell _ _ _ k (by show k ≠ B; omega)).trans (h.kept.block k hk hkp)⟩
theorem DS.setR {p : Nat} {a : Option Addr} {len cap : Nat} {w : World} {B : Nat} {wr : World} (h : DS p a len cap w B wr) (j : Nat) (x : Int) : DS p a len cap w B (wr.setCell ⟨w.heap.size, j, none⟩ (.int .i64 x)) := by
  have hpl := h.pl
  refine ⟨h.cur.set w.heap.size j _ (by omega) (h.ab.imp id fun hh b off e => by have := hh b off e; omega), ?_, h.res.set x, h.box.set x, by simpa using h.lt, h.pl, h.ab⟩
  have hs := h.kept.size
  exact ⟨h.kept.os, h.kept.tape, h.kept.output, by simpa using hs, fun k hk hkp => (Below.heap_setCell _ _ _ k (by show k ≠ w.heap.size; omega)).trans (h.kept.block k hk hkp)⟩
theorem DS.drew {p : Nat} {a : Option Addr} {len cap : Nat} {w : World} {B : Nat} {wr : World} (h : DS p a len cap w B wr) : DS p a len cap w B wr.drew :=
  h.step (h.cur.below (Below.refl _ _).drew) ((Kept.refl _ _).trans (Kept.of_below (Below.refl _ _).drew))
theorem DS.new {p : Nat} {a : Option Addr} {len cap : Nat} {w : World} {B : Nat} {wr : World} (h : DS p a len cap w B wr) (o : Obj) : DS p a len cap w B (wr.alloc o) :=
  h.step (h.cur.below ((Below.refl _ _).alloc (Nat.le_refl _) _)) (Kept.of_below ((Below.refl _ _).alloc (Nat.le_refl _) _))

set_option maxRecDepth 20000 in
set_option maxHeartbeats 8000000 in
theorem drawShape_any (p : Nat) (a : Option Addr) (len cap : Nat) (S : Int) (S1 : 1 ≤ S) (S2 : S ≤ 200) (w : World) (h : Cur p a len cap w) (hp : p < w.heap.size) (hab : len = 0 ∨ ∀ b off, a = some ⟨b, off, none⟩ → b < w.heap.size) :
    Calls Try.prog 46 #[.pointer (some ⟨p, 0, none⟩), .int .i64 S] w fun e w' => ∃ x0 x1 x2 x3 x4 x5 x6 : Int, e = .returned (.agg #[.int .i64 x0, .int .i64 x1, .int .i64 x2, .int .i64 x3, .int .i64 x4, .int .i64 x5, .int .i64 x6]) ∧ Cur p a len cap w' ∧ Kept p w w' := by
  have HAB := hide hab
  have HC0 := hide (h.below ((Below.refl _ _).alloc (Nat.le_refl _) (.cells #[.int .i64 0, .int .i64 0, .int .i64 0, .int .i64 0, .int .i64 0, .int .i64 0, .int .i64 0] 28)))
  have HR0 := hide (Sev.new w 0 0 0 0 0 0 0 28)
  have HK0 : Hid (Kept p w (w.alloc (.cells #[.int .i64 0, .int .i64 0, .int .i64 0, .int .i64 0, .int .i64 0, .int .i64 0, .int .i64 0] 28))) := Kept.of_below ((Below.refl _ _).alloc (Nat.le_refl _) _)
  clear h hab
  go_enter Try.func46, Try.ntmps46
  have hd := from_any p a len cap _ HC0.out 1 4 (by omega) (by omega) (by omega)
  go_wp2_with fail
  refine hd.mono ?_
  rintro e w1 ⟨K, rfl, l0, u0, hc, hk⟩
  have HC1 := hide hc
  have HR1 := hide (HR0.out.kept hk (by omega))
  have HK1 := hide (HK0.out.trans hk)
  clear hd hc hk HC0 HR0 HK0
  have hd := below_any p a len cap _ HC1.out S S1 (by omega)
  go_wp2_with fail
  refine hd.mono ?_
  rintro e w2 ⟨X, rfl, l1, u1, hc, hk⟩
  have HC2 := hide hc
  have HR2 := hide (HR1.out.kept hk (by omega))
  have HK2 := hide (HK1.out.trans hk)
  clear hd hc hk HC1 HR1 HK1
  have hd := below_any p a len cap _ HC2.out S S1 (by omega)
  go_wp2_with fail
  refine hd.mono ?_
  rintro e w3 ⟨Y, rfl, l2, u2, hc, hk⟩
  have HC3 := hide hc
  have HR3 := hide (HR2.out.kept hk (by omega))
  have HK3 := hide (HK2.out.trans hk)
  clear hd hc hk HC2 HR2 HK2
  have hd := from_any p a len cap _ HC3.out (-5) 60 (by omega) (by omega) (by omega)
  go_wp2_with fail
  refine hd.mono ?_
  rintro e w4 ⟨V, rfl, l3, u3, hc, hk⟩
  have HC4 := hide hc
  have HR4 := hide (HR3.out.kept hk (by omega))
  have HK4 := hide (HK3.out.trans hk)
  clear hd hc hk HC3 HR3 HK3
  have hsz := HK4.out.size
  have hsR : w.heap.size < w4.heap.size := by
    obtain ⟨⟨z, hz⟩, _⟩ := HR4.out 0 (by omega)
    exact World.block_lt_of_cell? w4 ⟨w.heap.size, 0, none⟩ hz
  have HD : Hid (DS p a len cap w w4.heap.size (w4.alloc (.cells #[.int .i64 K, .int .i64 X, .int .i64 Y, .int .i64 0, .int .i64 0, .int .i64 0, .int .i64 V] 28))) :=
    ⟨HC4.out.below ((Below.refl _ _).alloc (Nat.le_refl _) _), HK4.out.trans (Kept.of_below ((Below.refl _ _).alloc (Nat.le_refl _) _)), HR4.out.below ((Below.refl _ _).alloc (Nat.le_refl _) _) hsR, Sev.new _ _ _ _ _ _ _ _ _, ⟨hsR, by simp⟩, hp, HAB.out⟩
  clear HC4 HR4 HK4 HAB
  go_upto_block 0 with fail
  generalize w4.alloc (.cells #[.int .i64 K, .int .i64 X, .int .i64 Y, .int .i64 0, .int .i64 0, .int .i64 0, .int .i64 V] 28) = wb at *
  generalize w4.heap.size = B at *
  clear hsz hsR l1 u1 l2 u2 l3 u3
  go_cut [] (fun wc => DS p a len cap w B wc)
  case first =>
    have hK : K = 1 ∨ K = 2 ∨ K = 3 ∨ K = 4 := by omega
    clear l0 u0
    rcases hK with rfl | rfl | rfl | rfl
    · have hd := below_any p a len cap _ HD.out.cur (S / 2 + 1) (by omega) (by omega)
      go_wp2_with fail
      refine hd.mono ?_
      rintro e v1 ⟨x1, rfl, l, u, hc, hk⟩
      have HA1 := hide (HD.out.step hc hk)
      clear hd hc hk HD
      obtain ⟨⟨z1, hz1⟩, hf1⟩ := HA1.out.box 3 (by omega)
      have HB1 := hide (HA1.out.set 3 (x1))
      clear HA1
      have hd := below_any p a len cap _ HB1.out.cur (S / 2 + 1) (by omega) (by omega)
      go_wp2_with fail
      refine hd.mono ?_
      rintro e v2 ⟨x2, rfl, l, u, hc, hk⟩
      have HA2 := hide (HB1.out.step hc hk)
      clear hd hc hk HB1
      obtain ⟨⟨z2, hz2⟩, hf2⟩ := HA2.out.box 4 (by omega)
      have HB2 := hide (HA2.out.set 4 (x2))
      clear HA2
      go_wp2_with fail
      go_meet
      exact HB2.out
    · have hd := below_any p a len cap _ HD.out.cur (S / 2 + 1) (by omega) (by omega)
      go_wp2_with fail
      refine hd.mono ?_
      rintro e v1 ⟨x1, rfl, l, u, hc, hk⟩
      have HA1 := hide (HD.out.step hc hk)
      clear hd hc hk HD
      obtain ⟨⟨z1, hz1⟩, hf1⟩ := HA1.out.box 3 (by omega)
      have HB1 := hide (HA1.out.set 3 (1 + x1))
      clear HA1
      have hd := below_any p a len cap _ HB1.out.cur (S / 2 + 1) (by omega) (by omega)
      go_wp2_with fail
      refine hd.mono ?_
      rintro e v2 ⟨x2, rfl, l, u, hc, hk⟩
      have HA2 := hide (HB1.out.step hc hk)
      clear hd hc hk HB1
      obtain ⟨⟨z2, hz2⟩, hf2⟩ := HA2.out.box 4 (by omega)
      have HB2 := hide (HA2.out.set 4 (1 + x2))
      clear HA2
      go_wp2_with fail
      go_meet
      exact HB2.out
    · have hd := from_any p a len cap _ HD.out.cur (-4) 4 (by omega) (by omega) (by omega)
      go_wp2_with fail
      refine hd.mono ?_
      rintro e v1 ⟨x1, rfl, l, u, hc, hk⟩
      have HA1 := hide (HD.out.step hc hk)
      clear hd hc hk HD
      obtain ⟨⟨z1, hz1⟩, hf1⟩ := HA1.out.box 3 (by omega)
      have HB1 := hide (HA1.out.set 3 (x1))
      clear HA1
      have hd := from_any p a len cap _ HB1.out.cur 1 4 (by omega) (by omega) (by omega)
      go_wp2_with fail
      refine hd.mono ?_
      rintro e v2 ⟨x2, rfl, l, u, hc, hk⟩
      have HA2 := hide (HB1.out.step hc hk)
      clear hd hc hk HB1
      obtain ⟨⟨z2, hz2⟩, hf2⟩ := HA2.out.box 4 (by omega)
      have HB2 := hide (HA2.out.set 4 (x2))
      clear HA2
      have hd := below_any p a len cap _ HB2.out.cur (S + 1) (by omega) (by omega)
      go_wp2_with fail
      refine hd.mono ?_
      rintro e v3 ⟨x3, rfl, l, u, hc, hk⟩
      have HA3 := hide (HB2.out.step hc hk)
      clear hd hc hk HB2
      obtain ⟨⟨z3, hz3⟩, hf3⟩ := HA3.out.box 5 (by omega)
      have HB3 := hide (HA3.out.set 5 (x3))
      clear HA3
      go_wp2_with fail
      go_meet
      exact HB3.out
    · have hd := below_any p a len cap _ HD.out.cur (S / 2 + 1) (by omega) (by omega)
      go_wp2_with fail
      refine hd.mono ?_
      rintro e v1 ⟨x1, rfl, l, u, hc, hk⟩
      have HA1 := hide (HD.out.step hc hk)
      clear hd hc hk HD
      obtain ⟨⟨z1, hz1⟩, hf1⟩ := HA1.out.box 3 (by omega)
      have HB1 := hide (HA1.out.set 3 (x1))
      clear HA1
      go_wp2_with fail
      generalize (v1.setCell ⟨B, 3, none⟩ (.int .i64 x1)) = v2 at *
      clear hz1 hf1
      obtain ⟨⟨z3, hz3⟩, _⟩ := HB1.out.box 3 (by omega)
      have HD2 := hide HB1.out.drew
      have hBp : B ≠ p := by have := HB1.out.lt; have := HB1.out.pl; omega
      have hd := below_any p a len cap _ HD2.out.cur 4 (by omega) (by omega)
      clear HB1
      go_region_with (go_at_call 18; refine hd.mono ?_; rintro e v3 ⟨x2, rfl, l2, u2, hc, hk⟩; have hz3' := hk.cell (a := ⟨B, 3, none⟩) hBp hz3; obtain ⟨⟨z4, hz4⟩, hf4⟩ := (HD2.out.step hc hk).box 4 (by omega); have HS := hide (fun y => (HD2.out.step hc hk).set 4 y); clear hc hk)
      all_goals
        clear hz3 hd HD2
        go_wp2_with fail
        go_meet
        exact HS.out _
  case rest =>
    have HD := hide hcut
    clear hcut
    have hd := once_any p a len cap _ HD.out.cur 20 (by omega) (by omega)
    go_wp2_with fail
    refine hd.mono ?_
    rintro e w5 ⟨q, rfl, hc, hk⟩
    have HD5 := hide (HD.out.step hc hk)
    clear hd hc hk HD
    go_upto_if 76 with fail
    go_cut [6] (fun _ wc => DS p a len cap w B wc)
    case first =>
      cases q
      · go_wp2_with fail
        go_meet
        exact HD5.out
      · have HL := hide (HD5.out.new (.cells #[.int .i64 1000, .int .i64 1001, .int .i64 (-1000), .int .i64 (-1001), .int .i64 0, .int .i64 4611686018427387904] 2))
        have hd := below_any p a len cap _ HL.out.cur 6 (by omega) (by omega)
        go_wp2_with fail
        refine hd.mono ?_
        rintro e w6 ⟨y, rfl, y0, y1, hc, hk⟩
        have hp5 : p < w5.heap.size := Nat.lt_of_lt_of_le HD5.out.pl HD5.out.kept.size
        obtain ⟨n, rfl⟩ : ∃ n : Nat, y = (n : Int) := ⟨y.toNat, by omega⟩
        have hn6 : n < 6 := by omega
        obtain ⟨v, hv⟩ : ∃ v : Int, (w5.alloc (.cells #[.int .i64 1000, .int .i64 1001, .int .i64 (-1000), .int .i64 (-1001), .int .i64 0, .int .i64 4611686018427387904] 2)).cell? ⟨w5.heap.size, n, none⟩ = some (.int .i64 v) := by
          clear y0 y1
          match n, hn6 with
          | 0, _ => exact ⟨_, by simp [go_sem]; rfl⟩
          | 1, _ => exact ⟨_, by simp [go_sem]; rfl⟩
          | 2, _ => exact ⟨_, by simp [go_sem]; rfl⟩
          | 3, _ => exact ⟨_, by simp [go_sem]; rfl⟩
          | 4, _ => exact ⟨_, by simp [go_sem]; rfl⟩
          | 5, _ => exact ⟨_, by simp [go_sem]; rfl⟩
        have hv6 := hk.cell (a := ⟨w5.heap.size, n, none⟩) (by show w5.heap.size ≠ p; omega) hv
        have HD6 := hide (HL.out.step hc hk)
        clear hd hc hk HL HD5 hv
        have hd := below_any p a len cap _ HD6.out.cur 6 (by omega) (by omega)
        go_wp2_with fail
        refine hd.mono ?_
        rintro e w7 ⟨t, rfl, t0, t1, hc, hk⟩
        have HD7 := hide (HD6.out.step hc hk)
        clear hd hc hk HD6 hv6
        obtain ⟨⟨z0, hz0⟩, hf0⟩ := HD7.out.box 0 (by omega)
        obtain ⟨⟨z1, hz1⟩, hf1⟩ := HD7.out.box 1 (by omega)
        obtain ⟨⟨z2, hz2⟩, hf2⟩ := HD7.out.box 2 (by omega)
        obtain ⟨⟨z3, hz3⟩, hf3⟩ := HD7.out.box 3 (by omega)
        obtain ⟨⟨z4, hz4⟩, hf4⟩ := HD7.out.box 4 (by omega)
        obtain ⟨⟨z5, hz5⟩, hf5⟩ := HD7.out.box 5 (by omega)
        obtain ⟨⟨z6, hz6⟩, hf6⟩ := HD7.out.box 6 (by omega)
        have hT : t = 0 ∨ t = 1 ∨ t = 2 ∨ t = 3 ∨ t = 4 ∨ t = 5 := by omega
        clear t0 t1
        rcases hT with rfl | rfl | rfl | rfl | rfl | rfl
        all_goals
          go_wp2_with fail
          go_meet
          exact HD7.out.set _ _
    case rest =>
      have HD := hide hcut
      clear hcut
      have hd := once_any p a len cap _ HD.out.cur 60 (by omega) (by omega)
      go_wp2_with fail
      refine hd.mono ?_
      rintro e w8 ⟨r, rfl, hc, hk⟩
      have HD8 := hide (HD.out.step hc hk)
      clear hd hc hk HD
      go_upto_if 109 with fail
      go_cut [] (fun wc => DS p a len cap w B wc)
      case first =>
        cases r
        · go_wp2_with fail
          go_meet
          exact HD8.out
        · have hd := from_any p a len cap _ HD8.out.cur (-1) 6 (by omega) (by omega) (by omega)
          go_wp2_with fail
          refine hd.mono ?_
          rintro e w9 ⟨t, rfl, t0, t1, hc, hk⟩
          have HD9 := hide (HD8.out.step hc hk)
          clear hd hc hk HD8
          obtain ⟨⟨z0, hz0⟩, hf0⟩ := HD9.out.box 0 (by omega)
          go_wp2_with fail
          go_meet
          exact HD9.out.set _ _
      case rest =>
        have HD := hide hcut
        clear hcut
        obtain ⟨⟨z0, hz0⟩, _⟩ := HD.out.box 0 (by omega)
        obtain ⟨⟨z1, hz1⟩, _⟩ := HD.out.box 1 (by omega)
        obtain ⟨⟨z2, hz2⟩, _⟩ := HD.out.box 2 (by omega)
        obtain ⟨⟨z3, hz3⟩, _⟩ := HD.out.box 3 (by omega)
        obtain ⟨⟨z4, hz4⟩, _⟩ := HD.out.box 4 (by omega)
        obtain ⟨⟨z5, hz5⟩, _⟩ := HD.out.box 5 (by omega)
        obtain ⟨⟨z6, hz6⟩, _⟩ := HD.out.box 6 (by omega)
        obtain ⟨⟨y0, hy0⟩, hf0⟩ := HD.out.res 0 (by omega)
        obtain ⟨⟨y1, hy1⟩, hf1⟩ := HD.out.res 1 (by omega)
        obtain ⟨⟨y2, hy2⟩, hf2⟩ := HD.out.res 2 (by omega)
        obtain ⟨⟨y3, hy3⟩, hf3⟩ := HD.out.res 3 (by omega)
        obtain ⟨⟨y4, hy4⟩, hf4⟩ := HD.out.res 4 (by omega)
        obtain ⟨⟨y5, hy5⟩, hf5⟩ := HD.out.res 5 (by omega)
        obtain ⟨⟨y6, hy6⟩, hf6⟩ := HD.out.res 6 (by omega)
        have HE := hide (((((((HD.out.setR 0 z0).setR 1 z1).setR 2 z2).setR 3 z3).setR 4 z4).setR 5 z5).setR 6 z6)
        clear HD
        go_wp2_with fail
        refine bodyPost_ret (v := .agg #[.int .i64 z0, .int .i64 z1, .int .i64 z2, .int .i64 z3, .int .i64 z4, .int .i64 z5, .int .i64 z6]) (by simp [results, Try.results46, go_sem, hy0, hy1, hy2, hy3, hy4, hy5, hy6]) rfl ⟨z0, z1, z2, z3, z4, z5, z6, rfl, HE.out.cur, HE.out.kept⟩

end Go.Proofs.Ytedjnemijeaeoaa

namespace Go.Proofs.Ytedjnemijeaeoaa
open Go.RowKit

theorem info33 : ∃ i, Try.prog.info? 28 = some i ∧ i.zero = some (.agg #[.int .i64 0, .int .i64 0, .int .i64 0, .int .i64 0, .int .i64 0, .int .i64 0, .int .i64 0]) ∧ i.size = 7 ∧ i.bytes = 56 := ⟨_, rfl, rfl, rfl, rfl⟩

def lenOf : Value → Nat
  | .slice _ n _ => n
  | _ => 0
theorem lenOf_owns {B : Nat} {e : TypeId} {m : Nat} {v : Value} {n : Nat} {xs : List Value} {w : World} (h : w.ownsRow B e m v n xs) : ∃ a cap, v = .slice a n cap := by
  rcases h.2 with ⟨rfl, rfl⟩ | ⟨g, cap, cur, hv, _⟩
  · exact ⟨none, 0, rfl⟩
  · exact ⟨_, _, hv⟩

/-- what is known while a list of shapes is being drawn -/
structure DL (p : Nat) (a : Option Addr) (len cap : Nat) (w : World) (v : Value) (n : Nat) (L : List Int) (wr : World) : Prop where
  cur : Cur p a len cap wr
  kept : Kept p w wr
  own : wr.ownsRow w.heap.size 28 7 v n (ints L)
  lt : w.heap.size < wr.heap.size
  nn : ∃ g c, v = .slice (some ⟨g, 0, none⟩) n c
theorem DL.step {p : Nat} {a : Option Addr} {len cap : Nat} {w : World} {v : Value} {n : Nat} {L : List Int} {wr w' : World} (h : DL p a len cap w v n L wr) (hp : p < w.heap.size) (hc : Cur p a len cap w') (hk : Kept p wr w') : DL p a len cap w v n L w' :=
  ⟨hc, h.kept.trans hk, owns_kept h.own hk hp, Nat.lt_of_lt_of_le h.lt hk.size, h.nn⟩
theorem DL.grown {p : Nat} {a : Option Addr} {len cap : Nat} {w : World} {v v' : Value} {n n' : Nat} {L L' : List Int} {wr w' : World} (h : DL p a len cap w v n L wr) (hp : p < w.heap.size) (hab : len = 0 ∨ ∀ b off, a = some ⟨b, off, none⟩ → b < w.heap.size) (ho : w'.ownsRow w.heap.size 28 7 v' n' (ints L')) (hb : Below w.heap.size wr w') (hn' : 0 < n') : DL p a len cap w v' n' L' w' :=
  ⟨h.cur.belowB hb hp hab, h.kept.belowB hb (Nat.le_refl _), ho, Nat.lt_of_lt_of_le h.lt hb.size, by
    rcases ho.2 with ⟨_, h0⟩ | ⟨g, c, _, hv, _⟩
    · omega
    · exact ⟨g, c, hv⟩⟩

set_option maxRecDepth 20000 in
set_option maxHeartbeats 4000000 in
theorem drawShapes_any (p : Nat) (a : Option Addr) (len cap : Nat) (S : Int) (S1 : 1 ≤ S) (S2 : S ≤ 200) (w : World) (h : Cur p a len cap w) (hp : p < w.heap.size) (hab : len = 0 ∨ ∀ b off, a = some ⟨b, off, none⟩ → b < w.heap.size) :
    Calls Try.prog 17 #[.pointer (some ⟨p, 0, none⟩), .int .i64 S] w fun e w' => ∃ v n L, e = .returned v ∧ n ≤ 66 ∧ DL p a len cap w v n L w' := by
  obtain ⟨ti, hi1, hi2, hi3, hi4⟩ := info33
  have HI1 := hide hi1
  have HAB := hide hab
  have HD0 : Hid (DL p a len cap w (.slice (some ⟨w.heap.size, 0, none⟩) 0 0) 0 [] (w.alloc (.cells #[] 28))) :=
    ⟨h.below ((Below.refl _ _).alloc (Nat.le_refl _) _), Kept.of_below ((Below.refl _ _).alloc (Nat.le_refl _) _), World.ownsRow_lit w #[] 0 (Nat.le_refl _) (by unfold maxLen; omega) rfl, by simp, ⟨_, _, rfl⟩⟩
  have hd := below_any p a len cap _ HD0.out.cur 7 (by omega) (by omega)
  clear hi1 h hab
  go_enter Try.func17, Try.ntmps17
  go_wp2_with fail
  refine hd.mono ?_
  rintro e w1 ⟨m, rfl, m0, m1, hc, hk⟩
  have HD1 := hide (HD0.out.step hp hc hk)
  clear hd hc hk HD0
  go_wp2_with fail
  go_loopw [5, 6] (fun v i wr => ∃ (j n : Nat) (L : List Int), i = .int .i64 j ∧ n + j ≤ 6 ∧ DL p a len cap w v n L wr) (fun _ i _ => (intOf i).toNat)
  case atStart => exact ⟨m.toNat, 0, [], by congr 1; omega, by omega, HD1.out⟩
  case round =>
    obtain ⟨j, n, L, rfl, hn, hD⟩ := hrel
    have HD := hide hD
    clear hD HD1
    by_cases hj : j = 0
    · subst hj
      obtain ⟨b0, c0, hv⟩ := lenOf_owns HD.out.own
      subst hv
      have hd := once_any p a len cap _ HD.out.cur 60 (by omega) (by omega)
      go_wp2_with fail
      refine hd.mono ?_
      rintro e w2 ⟨q, rfl, hc, hk⟩
      have HD2 := hide (HD.out.step hp hc hk)
      clear hd hc hk HD
      cases q
      · go_wp2_with fail
        go_ret
        exact ⟨_, n, L, rfl, by omega, HD2.out⟩
      · go_wp2_with fail
        go_loopw [5] (fun v wr => ∃ (n : Nat) (L : List Int), n ≤ 65 ∧ DL p a len cap w v n L wr) (fun v _ => 66 - lenOf v)
        case atStart => exact ⟨n, L, by omega, HD2.out⟩
        case round =>
          obtain ⟨k, M, hk65, hD⟩ := hrel
          have HD := hide hD
          clear hD HD2
          obtain ⟨b1, c1, hv⟩ := lenOf_owns HD.out.own
          subst hv
          have hd := below_any p a len cap _ HD.out.cur 2 (by omega) (by omega)
          go_wp2_with fail
          refine hd.mono ?_
          rintro e w3 ⟨t, rfl, t0, t1, hc, hk⟩
          have HD3 := hide (HD.out.step hp hc hk)
          clear hd hc hk HD
          by_cases hlt : (k : Int) < 64 + t
          · have HS3 := hide (Nat.le_of_lt HD3.out.lt)
            go_wp2_with (refine grow _ rfl _ _ 24 rfl w.heap.size 28 ti (.agg #[.int .i64 0, .int .i64 0, .int .i64 0, .int .i64 0, .int .i64 0, .int .i64 0, .int .i64 0]) 7 56 Try.underlying24 HI1.out hi2 hi3 hi4 rfl (by omega) _ k M rfl _ HD3.out.own (Below.refl _ _) HS3.out [1, 0, 0, 1, 1, 0, 1] 1 1 rfl rfl (by unfold maxLen; omega) (by omega) ?_)
            intro v4 w4 ho hb hs
            have HD4 := hide (HD3.out.grown hp HAB.out ho hb (by omega))
            clear ho hb hs HD3 HS3
            obtain ⟨b4, c4, hv⟩ := lenOf_owns HD4.out.own
            subst hv
            go_wp2_with fail
            exact ⟨⟨k + 1, _, by omega, HD4.out⟩, by simp [lenOf]; omega⟩
          · go_wp2_with fail
            go_ret
            exact ⟨_, k, M, rfl, by omega, HD3.out⟩
    · have hd := drawShape_any p a len cap S S1 S2 _ HD.out.cur (Nat.lt_of_lt_of_le hp HD.out.kept.size) (HAB.out.imp id fun hh b off e => Nat.lt_of_lt_of_le (hh b off e) HD.out.kept.size)
      have hj' : (0 : Int) < j := by omega
      go_wp2_with fail
      refine hd.mono ?_
      rintro e w2 ⟨x0, x1, x2, x3, x4, x5, x6, rfl, hc, hk⟩
      have HD2 := hide (HD.out.step hp hc hk)
      have HS2 := hide (Nat.le_of_lt HD2.out.lt)
      clear hd hc hk HD
      go_wp2_with (refine grow _ rfl _ _ 24 rfl w.heap.size 28 ti (.agg #[.int .i64 0, .int .i64 0, .int .i64 0, .int .i64 0, .int .i64 0, .int .i64 0, .int .i64 0]) 7 56 Try.underlying24 HI1.out hi2 hi3 hi4 rfl (by omega) _ n L rfl _ HD2.out.own (Below.refl _ _) HS2.out [x0, x1, x2, x3, x4, x5, x6] 1 1 rfl rfl (by unfold maxLen; omega) (by omega) ?_)
      intro v4 w4 ho hb hs
      have HD4 := hide (HD2.out.grown hp HAB.out ho hb (by omega))
      clear ho hb hs HD2 HS2
      go_wp2_with fail
      exact ⟨⟨j - 1, n + 1, _, by congr 1; omega, by omega, HD4.out⟩, by simp [intOf]; omega⟩

end Go.Proofs.Ytedjnemijeaeoaa

namespace Go.Proofs.Ytedjnemijeaeoaa
open Go.RowKit

set_option maxRecDepth 20000 in
set_option maxHeartbeats 2000000 in
theorem drawPaint_any (a : Option Addr) (len cap : Nat) (w : World) (h : Bytes a len w) :
    Calls Try.prog 5 #[.slice a len cap] w fun e w' => ∃ (g c n : Nat) (L : List Int) (W H : Int), e = .returned (.tuple #[.slice (some ⟨g, 0, none⟩) n c, .int .i64 W, .int .i64 H]) ∧ n ≤ 66 ∧ w'.ownsRow (w.heap.size + 1) 28 7 (.slice (some ⟨g, 0, none⟩) n c) n (ints L) ∧ Below w.heap.size w w' ∧ w.heap.size + 1 < w'.heap.size := by
  have hn := new_any a len cap w h
  have hab : len = 0 ∨ ∀ b off, a = some ⟨b, off, none⟩ → b < w.heap.size + 1 := by
    by_cases h0 : len = 0
    · exact .inl h0
    · refine .inr fun b off e => ?_
      rcases h.2 with h1 | ⟨b', off', ha, hb⟩
      · exact absurd h1 h0
      · obtain ⟨z, _, _, hz⟩ := hb 0 (by omega)
        rw [e] at ha
        cases ha
        exact Nat.lt_succ_of_lt (World.block_lt_of_cell? w _ hz)
  have HC : ∀ x, Cur w.heap.size a len cap (w.alloc (.cells #[.slice a len cap, .int .i64 0, .int .i64 x] 73)) := fun x => cur_new a len cap w h x
  have HCC := hide HC
  clear h HC
  go_enter Try.func5, Try.ntmps5
  go_wp2_with fail
  refine hn.mono ?_
  rintro e w1 ⟨x, rfl, hw1⟩
  have hc1 := HCC.out x
  rw [← hw1] at hc1
  have hs1 : w1.heap.size = w.heap.size + 1 := by rw [hw1]; simp
  have HB1 : Hid (Below w.heap.size w w1) := by rw [hw1]; exact (Below.refl _ _).alloc (Nat.le_refl _) _
  rw [← hs1] at hab
  have hd := drawShapes_any w.heap.size a len cap 12 (by omega) (by omega) w1 hc1 (by omega) hab
  clear hn hw1 HCC hc1
  go_wp2_with fail
  refine hd.mono ?_
  rintro e w2 ⟨v, n, L, rfl, hn, hD⟩
  obtain ⟨g0, c0, hv⟩ := hD.nn
  subst hv
  have HD := hide hD
  clear hd hD
  have hd := below_any _ a len cap _ HD.out.cur 12 (by omega) (by omega)
  go_wp2_with fail
  refine hd.mono ?_
  rintro e w3 ⟨x3, rfl, l3, u3, hc, hk⟩
  have HD3 := hide (HD.out.step (by omega) hc hk)
  clear hd hc hk HD
  have hd := below_any _ a len cap _ HD3.out.cur 12 (by omega) (by omega)
  go_wp2_with fail
  refine hd.mono ?_
  rintro e w4 ⟨x4, rfl, l4, u4, hc, hk⟩
  have HD4 := hide (HD3.out.step (by omega) hc hk)
  clear hd hc hk HD3
  have hd := once_any _ a len cap _ HD4.out.cur 20 (by omega) (by omega)
  go_wp2_with fail
  refine hd.mono ?_
  rintro e w5 ⟨q, rfl, hc, hk⟩
  have HD5 := hide (HD4.out.step (by omega) hc hk)
  clear hd hc hk HD4
  have FIN : ∀ w', DL w.heap.size a len cap w1 (.slice (some ⟨g0, 0, none⟩) n c0) n L w' → w'.ownsRow (w.heap.size + 1) 28 7 (.slice (some ⟨g0, 0, none⟩) n c0) n (ints L) ∧ Below w.heap.size w w' ∧ w.heap.size + 1 < w'.heap.size := by
    intro w' hD
    have h1 := hD.own
    have h2 := hD.lt
    rw [hs1] at h1 h2
    exact ⟨h1, HB1.out.trans (hD.kept.below (Nat.le_refl _) (by omega)), h2⟩
  have HFIN := hide FIN
  clear FIN HB1
  cases q
  · go_wp2_with fail
    go_ret3
    exact ⟨g0, c0, n, L, _, _, rfl, hn, HFIN.out _ HD5.out⟩
  · have HL : Hid (DL w.heap.size a len cap w1 (.slice (some ⟨g0, 0, none⟩) n c0) n L (w5.alloc (.cells #[.int .i64 0, .int .i64 64, .int .i64 65, .int .i64 (-1)] 2))) := HD5.out.step (by omega) (HD5.out.cur.below ((Below.refl _ _).alloc (Nat.le_refl _) _)) (Kept.of_below ((Below.refl _ _).alloc (Nat.le_refl _) _))
    have hd := below_any _ a len cap _ HL.out.cur 4 (by omega) (by omega)
    have hlt5 : w.heap.size < w5.heap.size := by have := HD5.out.lt; omega
    go_wp2_with fail
    refine hd.mono ?_
    rintro e w6 ⟨y, rfl, y0, y1, hc, hk⟩
    obtain ⟨m, rfl⟩ : ∃ m : Nat, y = (m : Int) := ⟨y.toNat, by omega⟩
    have hm4 : m < 4 := by omega
    obtain ⟨z, hz⟩ : ∃ z : Int, (w5.alloc (.cells #[.int .i64 0, .int .i64 64, .int .i64 65, .int .i64 (-1)] 2)).cell? ⟨w5.heap.size, m, none⟩ = some (.int .i64 z) := by
      clear y0 y1
      match m, hm4 with
      | 0, _ => exact ⟨_, by simp [go_sem]; rfl⟩
      | 1, _ => exact ⟨_, by simp [go_sem]; rfl⟩
      | 2, _ => exact ⟨_, by simp [go_sem]; rfl⟩
      | 3, _ => exact ⟨_, by simp [go_sem]; rfl⟩
    have hz6 := hk.cell (a := ⟨w5.heap.size, m, none⟩) (by show w5.heap.size ≠ w.heap.size; omega) hz
    have HD6 := hide (HL.out.step (by omega) hc hk)
    clear hd hc hk HL HD5 hz
    go_wp2_with fail
    go_ret3
    exact ⟨g0, c0, n, L, _, _, rfl, hn, HFIN.out _ HD6.out⟩

end Go.Proofs.Ytedjnemijeaeoaa

/- Draws of turns. -/
import Derived.Test.YtggiegfkmkaaeaaDoorLawTurns
import Derived.Test.YtggiegfkmkaaeaaDoorDpg
import Derived.Test.YtggiegfkmkaaeaaDoorTru
import Derived.Deep.RegionHeld3
namespace Go.Proofs.YtggiegfkmkaaeaaDoor
open Go.RowKit

theorem tbA_in (q : Nat) : -2 ≤ tbA.getD q 0 ∧ tbA.getD q 0 ≤ 2 := by
  by_cases h : q < 48
  · have : ∀ q, q < 48 → -2 ≤ tbA.getD q 0 ∧ tbA.getD q 0 ≤ 2 := by decide +kernel
    exact this q h
  · have hl : tbA.length ≤ q := Nat.le_of_not_lt h
    rw [List.getD_eq_getElem?_getD, List.getElem?_eq_none hl]
    decide

/-- the cursor, and what is kept: where a new block is written -/
def CK (p : Nat) (a : Option Addr) (len cap : Nat) (w wr : World) : Prop := Cur p a len cap wr ∧ Kept p w wr
theorem CK.set {p : Nat} {a : Option Addr} {len cap : Nat} {w wr : World} (h : CK p a len cap w wr) (hp : p < w.heap.size) (hab : len = 0 ∨ ∀ b off, a = some ⟨b, off, none⟩ → b < w.heap.size) {q : Addr} (hq : w.heap.size ≤ q.block) (v : Value) : CK p a len cap w (wr.setCell q v) := by
  have hb : Below w.heap.size wr (wr.setCell q v) := (Below.refl _ _).setCell hq _
  exact ⟨h.1.belowB hb hp hab, h.2.belowB hb (Nat.le_refl _)⟩
theorem CK.set4 {p : Nat} {a : Option Addr} {len cap : Nat} {w wr : World} (h : CK p a len cap w wr) (hp : p < w.heap.size) (hab : len = 0 ∨ ∀ b off, a = some ⟨b, off, none⟩ → b < w.heap.size) {q : Nat} (hq : w.heap.size ≤ q) (v0 v1 v2 v3 : Value) :
    CK p a len cap w ((((wr.setCell ⟨q, 0, none⟩ v0).setCell ⟨q, 1, none⟩ v1).setCell ⟨q, 2, none⟩ v2).setCell ⟨q, 3, none⟩ v3) :=
  (((h.set hp hab (q := ⟨q, 0, none⟩) hq v0).set hp hab (q := ⟨q, 1, none⟩) hq v1).set hp hab (q := ⟨q, 2, none⟩) hq v2).set hp hab (q := ⟨q, 3, none⟩) hq v3

/-- a turn is drawn -/
def DrT (lo hi : Int) (p : Nat) (a : Option Addr) (len cap : Nat) (w : World) (e : Ending) (w' : World) : Prop :=
  ∃ x0 x1 x2 x3 : Int, e = .returned (tv x0 x1 x2 x3) ∧ (-2 ≤ x0 ∧ x0 ≤ 2) ∧ (lo ≤ x1 ∧ x1 ≤ hi) ∧ (-2 ≤ x2 ∧ x2 ≤ 2) ∧ (-2 ≤ x3 ∧ x3 ≤ 2) ∧ CK p a len cap w w'

set_option maxRecDepth 100000 in
set_option maxHeartbeats 2000000 in
theorem l10Draw_any (p : Nat) (a : Option Addr) (len cap : Nat) (w : World) (h : Cur p a len cap w) (hp : p < w.heap.size) (hab : len = 0 ∨ ∀ b off, a = some ⟨b, off, none⟩ → b < w.heap.size) :
    Calls Tryd.prog 42 #[.pointer (some ⟨p, 0, none⟩)] w (DrT (-2) 2 p a len cap w) := by
  have hb0 := bnew w (cTurn 0 0 0 0 30)
  have HX0 : Hid (Bx w.heap.size [.int .i64 0, .int .i64 0, .int .i64 0, .int .i64 0] (w.alloc (cTurn 0 0 0 0 30))) := Bx.new [.int .i64 0, .int .i64 0, .int .i64 0, .int .i64 0] 30 w
  have HK0 := hide (Kept.of_below (p := p) hb0)
  have HC0 := hide (h.below hb0)
  have hne : w.heap.size ≠ p := by omega
  have HZ0 : Hid (w.heap.size < (w.alloc (cTurn 0 0 0 0 30)).heap.size) := by show _ < _; simp
  have c1 := (specTurns_any (w.alloc (cTurn 0 0 0 0 30))).mono (fun e u hu => hu.row)
  have HF : Hid (∃ f : Nat → Int, f = (fun k => tbA.getD k 0) ∧ ∀ q, -2 ≤ f q ∧ f q ≤ 2) := ⟨_, rfl, tbA_in⟩
  obtain ⟨f, hf, hfb⟩ := HF.out
  rw [← hf] at c1
  have HF := hide hfb
  have HAB := hide hab
  clear hf hfb h hb0 hab
  go_enter Tryd.func42, Tryd.ntmps42
  go_wp2_with fail
  refine c1.mono ?_
  rintro e w1 ⟨b, cp, rfl, hg, hr, hb⟩
  have HX1 := hide (HX0.out.below hb HZ0.out)
  have HK1 := hide (HK0.out.trans (Kept.of_below hb))
  have HC1 := hide (HC0.out.below hb)
  have HR1 := hide hr
  have HZ1 : Hid (w.heap.size < w1.heap.size ∧ w.heap.size < b ∧ b < w1.heap.size) := ⟨Nat.lt_of_lt_of_le HZ0.out hb.size, Nat.lt_of_lt_of_le HZ0.out hg, World.block_lt_of_cell? _ _ (hr 0 (by omega)).1⟩
  have c2 := below_any p a len cap w1 HC1.out 12 (by omega) (by omega)
  clear c1 hb hr hg HX0 HK0 HC0 HZ0
  go_wp2_with fail
  refine c2.mono ?_
  rintro e w2 ⟨x, rfl, x0, x1, hc, hk⟩
  obtain ⟨K, rfl⟩ : ∃ K : Nat, x = K := ⟨x.toNat, by omega⟩
  have hbp : b ≠ p := by have := HZ1.out; omega
  have hr2 : Row b (12 * 4) f w2 := fun j hj => ⟨hk.cell (a := ⟨b, j, none⟩) hbp (HR1.out j hj).1, (hk.frozen (a := ⟨b, j, none⟩) hbp (HR1.out j hj).1).trans (HR1.out j hj).2⟩
  have HX2 := hide (HX1.out.kept hk hne)
  have HK2 := hide (HK1.out.trans hk)
  have HC2 := hide hc
  have HZ2 : Hid (w.heap.size < w2.heap.size) := Nat.lt_of_lt_of_le HZ1.out.1 hk.size
  have r0 := (hr2 (K * 4) (by omega)).1
  have r1 := (hr2 (K * 4 + 1) (by omega)).1
  have r2 := (hr2 (K * 4 + 2) (by omega)).1
  have r3 := (hr2 (K * 4 + 3) (by omega)).1
  have b0 := HF.out (K * 4)
  have b1 := HF.out (K * 4 + 1)
  have b2 := HF.out (K * 4 + 2)
  have b3 := HF.out (K * 4 + 3)
  generalize f (K * 4) = y0 at *
  generalize f (K * 4 + 1) = y1 at *
  generalize f (K * 4 + 2) = y2 at *
  generalize f (K * 4 + 3) = y3 at *
  clear c2 hc hk hr2 HR1 HX1 HK1 HC1 HF HZ1
  go_upto_region 2 with fail
  have HX3 := hide (HX2.out.below (bnew w2 (cTurn y0 y1 y2 y3 30)) HZ2.out)
  have HY3 : Hid (Bx w2.heap.size [.int .i64 y0, .int .i64 y1, .int .i64 y2, .int .i64 y3] (w2.alloc (cTurn y0 y1 y2 y3 30))) := Bx.new [.int .i64 y0, .int .i64 y1, .int .i64 y2, .int .i64 y3] 30 w2
  have HK3 := hide (HK2.out.trans (Kept.of_below (bnew w2 (cTurn y0 y1 y2 y3 30))))
  have HC3 := hide (HC2.out.below (bnew w2 (cTurn y0 y1 y2 y3 30)))
  have HZ3 : Hid (w.heap.size < w2.heap.size ∧ w2.heap.size < (w2.alloc (cTurn y0 y1 y2 y3 30)).heap.size) := ⟨HZ2.out, by simp⟩
  clear HX2 HK2 HC2 HZ2 r0 r1 r2 r3
  generalize hw3 : w2.alloc (cTurn y0 y1 y2 y3 30) = w3 at *
  clear hw3
  generalize w2.heap.size = X at *
  have c3 := once_any p a len cap w3 HC3.out 2 (by omega) (by omega)
  go_wp2_with fail
  refine c3.mono ?_
  rintro e w4 ⟨q, rfl, hc, hk⟩
  have hXp : X ≠ p := by have := HZ3.out; omega
  have HX4 := hide (HX3.out.kept hk hne)
  have HY4 := hide (HY3.out.kept hk hXp)
  have HK4 := hide (HK3.out.trans hk)
  have HC4 := hide hc
  have HZ4 := hide HZ3.out.1
  clear c3 hc hk HX3 HY3 HK3 HC3 HZ3
  have y0' := HY4.out 0 _ rfl
  have y1' := HY4.out 1 _ rfl
  have y2' := HY4.out 2 _ rfl
  have y3' := HY4.out 3 _ rfl
  obtain ⟨a0, c0⟩ := y0'
  obtain ⟨a1, c1⟩ := y1'
  obtain ⟨a2, c2⟩ := y2'
  obtain ⟨a3, c3⟩ := y3'
  have x0' := HX4.out 0 _ rfl
  have x1' := HX4.out 1 _ rfl
  have x2' := HX4.out 2 _ rfl
  have x3' := HX4.out 3 _ rfl
  obtain ⟨g0, d0⟩ := x0'
  obtain ⟨g1, d1⟩ := x1'
  obtain ⟨g2, d2⟩ := x2'
  obtain ⟨g3, d3⟩ := x3'
  have hXR : X ≠ w.heap.size := by have := HZ4.out; omega
  have hRX : w.heap.size ≠ X := hXR.symm
  cases q
  · go_wp2_with fail
    refine bodyPost_ret (v := tv y0 y1 y2 y3) (by simp [results, Tryd.results42, go_sem, g0, g1, g2, g3]) rfl ⟨y0, y1, y2, y3, rfl, b0, b1, b2, b3, CK.set4 ⟨HC4.out, HK4.out⟩ hp HAB.out (Nat.le_refl _) _ _ _ _⟩
  · have n0 : IntKind.i64.wrap (-y0) = -y0 := by rw [IntKind.wrap_i64]; omega
    have n1 : IntKind.i64.wrap (-y1) = -y1 := by rw [IntKind.wrap_i64]; omega
    have n2 : IntKind.i64.wrap (-y2) = -y2 := by rw [IntKind.wrap_i64]; omega
    have n3 : IntKind.i64.wrap (-y3) = -y3 := by rw [IntKind.wrap_i64]; omega
    go_wp2_with fail
    exact bodyPost_ret (v := tv (-y0) (-y1) (-y2) (-y3)) (by simp [results, Tryd.results42, go_sem, g0, g1, g2, g3]) rfl ⟨-y0, -y1, -y2, -y3, rfl, by omega, by omega, by omega, by omega, (CK.set4 ⟨HC4.out, HK4.out⟩ hp HAB.out (Nat.le_of_lt HZ4.out) _ _ _ _).set4 hp HAB.out (Nat.le_refl _) _ _ _ _⟩

set_option maxRecDepth 100000 in
set_option maxHeartbeats 2000000 in
theorem l10DrawAny_any (p : Nat) (a : Option Addr) (len cap : Nat) (w : World) (h : Cur p a len cap w) (hp : p < w.heap.size) (hab : len = 0 ∨ ∀ b off, a = some ⟨b, off, none⟩ → b < w.heap.size) :
    Calls Tryd.prog 25 #[.pointer (some ⟨p, 0, none⟩)] w (DrT (-9223372036854775808) 9223372036854775807 p a len cap w) := by
  have hb0 := bnew w (cTurn 0 0 0 0 30)
  have HX0 : Hid (Bx w.heap.size [.int .i64 0, .int .i64 0, .int .i64 0, .int .i64 0] (w.alloc (cTurn 0 0 0 0 30))) := Bx.new [.int .i64 0, .int .i64 0, .int .i64 0, .int .i64 0] 30 w
  have HK0 := hide (Kept.of_below (p := p) hb0)
  have hne : w.heap.size ≠ p := by omega
  have HZ0 : Hid (w.heap.size < (w.alloc (cTurn 0 0 0 0 30)).heap.size) := by show _ < _; simp
  have c1 := l10Draw_any p a len cap (w.alloc (cTurn 0 0 0 0 30)) (h.below hb0) (Nat.lt_trans hp HZ0.out) (hab.imp id fun h b off e => Nat.lt_trans (h b off e) HZ0.out)
  have HAB := hide hab
  clear h hb0 hab
  go_enter Tryd.func25, Tryd.ntmps25
  go_wp2_with fail
  refine c1.mono ?_
  rintro e w2 ⟨y0, y1, y2, y3, rfl, b0, b1, b2, b3, hc, hk⟩
  have HX2 := hide (HX0.out.kept hk hne)
  have HK2 := hide (HK0.out.trans hk)
  have HC2 := hide hc
  have HZ2 : Hid (w.heap.size < w2.heap.size) := Nat.lt_of_lt_of_le HZ0.out hk.size
  clear c1 hc hk HX0 HK0 HZ0
  go_upto_region 2 with fail
  have HX3 := hide (HX2.out.below (bnew w2 (cTurn y0 y1 y2 y3 30)) HZ2.out)
  have HY3 : Hid (Bx w2.heap.size [.int .i64 y0, .int .i64 y1, .int .i64 y2, .int .i64 y3] (w2.alloc (cTurn y0 y1 y2 y3 30))) := Bx.new [.int .i64 y0, .int .i64 y1, .int .i64 y2, .int .i64 y3] 30 w2
  have HK3 := hide (HK2.out.trans (Kept.of_below (bnew w2 (cTurn y0 y1 y2 y3 30))))
  have HC3 := hide (HC2.out.below (bnew w2 (cTurn y0 y1 y2 y3 30)))
  have HZ3 : Hid (w.heap.size < w2.heap.size ∧ w2.heap.size < (w2.alloc (cTurn y0 y1 y2 y3 30)).heap.size) := ⟨HZ2.out, by simp⟩
  clear HX2 HK2 HC2 HZ2
  generalize hw3 : w2.alloc (cTurn y0 y1 y2 y3 30) = w3 at *
  clear hw3
  generalize w2.heap.size = X at *
  have c3 := once_any p a len cap w3 HC3.out 12 (by omega) (by omega)
  go_wp2_with fail
  refine c3.mono ?_
  rintro e w4 ⟨q, rfl, hc, hk⟩
  have hXp : X ≠ p := by have := HZ3.out; omega
  have HX4 := hide (HX3.out.kept hk hne)
  have HY4 := hide (HY3.out.kept hk hXp)
  have HK4 := hide (HK3.out.trans hk)
  have HC4 := hide hc
  have HZ4 : Hid (w.heap.size < X ∧ X < w4.heap.size) := ⟨HZ3.out.1, Nat.lt_of_lt_of_le HZ3.out.2 hk.size⟩
  clear c3 hc hk HX3 HY3 HK3 HC3 HZ3
  have hXR : X ≠ w.heap.size := by have := HZ4.out; omega
  have hRX : w.heap.size ≠ X := hXR.symm
  cases q
  · obtain ⟨a0, c0⟩ := HY4.out 0 _ rfl
    obtain ⟨a1, c1⟩ := HY4.out 1 _ rfl
    obtain ⟨a2, c2⟩ := HY4.out 2 _ rfl
    obtain ⟨a3, c3⟩ := HY4.out 3 _ rfl
    obtain ⟨g0, d0⟩ := HX4.out 0 _ rfl
    obtain ⟨g1, d1⟩ := HX4.out 1 _ rfl
    obtain ⟨g2, d2⟩ := HX4.out 2 _ rfl
    obtain ⟨g3, d3⟩ := HX4.out 3 _ rfl
    go_wp2_with fail
    exact bodyPost_ret (v := tv y0 y1 y2 y3) (by simp [results, Tryd.results25, go_sem, g0, g1, g2, g3]) rfl ⟨y0, y1, y2, y3, rfl, b0, by omega, b2, b3, CK.set4 ⟨HC4.out, HK4.out⟩ hp HAB.out (Nat.le_refl _) _ _ _ _⟩
  · have hb5 := bnew w4 (.cells #[.int .i64 0, .int .i64 1, .int .i64 2, .int .i64 (-2), .int .i64 3, .int .i64 4611686018427387904, .int .i64 (-9223372036854775808)] 2)
    have HT5 : Hid (Bx w4.heap.size [.int .i64 0, .int .i64 1, .int .i64 2, .int .i64 (-2), .int .i64 3, .int .i64 4611686018427387904, .int .i64 (-9223372036854775808)] (w4.alloc (.cells #[.int .i64 0, .int .i64 1, .int .i64 2, .int .i64 (-2), .int .i64 3, .int .i64 4611686018427387904, .int .i64 (-9223372036854775808)] 2))) := Bx.new _ 2 w4
    have c5 := below_any p a len cap _ (HC4.out.below hb5) 7 (by omega) (by omega)
    have HB5 := hide hb5
    clear hb5
    go_wp2_with fail
    refine c5.mono ?_
    rintro e w6 ⟨y, rfl, y5, y6, hc, hk⟩
    obtain ⟨Y, rfl⟩ : ∃ Y : Nat, y = Y := ⟨y.toNat, by omega⟩
    have hTp : w4.heap.size ≠ p := by have := HZ4.out; omega
    have HT6 := hide (HT5.out.kept hk hTp)
    have HX6 := hide ((HX4.out.below HB5.out (Nat.lt_trans HZ4.out.1 HZ4.out.2)).kept hk hne)
    have HY6 := hide ((HY4.out.below HB5.out HZ4.out.2).kept hk hXp)
    have HK6 := hide ((HK4.out.trans (Kept.of_below HB5.out)).trans hk)
    have HC6 := hide hc
    clear c5 hc hk HT5 HX4 HY4 HK4 HC4 HB5
    obtain ⟨z, hz, hzb⟩ : ∃ z : Int, w6.cell? ⟨w4.heap.size, Y, none⟩ = some (.int .i64 z) ∧ (-9223372036854775808 ≤ z ∧ z ≤ 9223372036854775807) := by
      have hY : Y = 0 ∨ Y = 1 ∨ Y = 2 ∨ Y = 3 ∨ Y = 4 ∨ Y = 5 ∨ Y = 6 := by omega
      rcases hY with rfl | rfl | rfl | rfl | rfl | rfl | rfl
      · exact ⟨_, (HT6.out 0 _ rfl).1, by omega⟩
      · exact ⟨_, (HT6.out 1 _ rfl).1, by omega⟩
      · exact ⟨_, (HT6.out 2 _ rfl).1, by omega⟩
      · exact ⟨_, (HT6.out 3 _ rfl).1, by omega⟩
      · exact ⟨_, (HT6.out 4 _ rfl).1, by omega⟩
      · exact ⟨_, (HT6.out 5 _ rfl).1, by omega⟩
      · exact ⟨_, (HT6.out 6 _ rfl).1, by omega⟩
    have hYl : Y < 7 := by omega
    have hTX : X ≠ w4.heap.size := by have := HZ4.out; omega
    clear HT6
    obtain ⟨a0, c0⟩ := HY6.out 0 _ rfl
    obtain ⟨a1, c1⟩ := HY6.out 1 _ rfl
    obtain ⟨a2, c2⟩ := HY6.out 2 _ rfl
    obtain ⟨a3, c3⟩ := HY6.out 3 _ rfl
    obtain ⟨g0, d0⟩ := HX6.out 0 _ rfl
    obtain ⟨g1, d1⟩ := HX6.out 1 _ rfl
    obtain ⟨g2, d2⟩ := HX6.out 2 _ rfl
    obtain ⟨g3, d3⟩ := HX6.out 3 _ rfl
    go_wp2_with fail
    exact bodyPost_ret (v := tv y0 z y2 y3) (by simp [results, Tryd.results25, go_sem, g0, g1, g2, g3]) rfl ⟨y0, z, y2, y3, rfl, b0, hzb, b2, b3, ((CK.set ⟨HC6.out, HK6.out⟩ hp HAB.out (q := ⟨X, 1, none⟩) (Nat.le_of_lt HZ4.out.1) _).set4 hp HAB.out (Nat.le_refl _) _ _ _ _)⟩

end Go.Proofs.YtggiegfkmkaaeaaDoor

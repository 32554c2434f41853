/- Draws of two at once. -/
import Derived.Test.YtkgkdhocmglklaaDoorDrw
import Derived.Test.YtkgkdhocmglklaaDoorHom
import Derived.Test.YtkgkdhocmglklaaDoorTni
import Derived.Test.YtkgkdhocmglklaaDoorTru
import Derived.Deep.RegionHeld3
import Derived.Test.YtkgkdhocmglklaaDoorRgi
import Derived.Deep.DeepCutAuto
namespace Go.Proofs.YtkgkdhocmglklaaDoor
open Go.RowKit

/-- a draw gives some number -/
def DrawnI (p : Nat) (a : Option Addr) (len cap : Nat) (w : World) (e : Ending) (w' : World) : Prop :=
  ∃ x : Int, e = .returned (.int .i64 x) ∧ Cur p a len cap w' ∧ Kept p w w'

set_option maxRecDepth 100000 in
theorem belowG (p : Nat) (a : Option Addr) (len cap : Nat) (w : World) (h : Cur p a len cap w) (n : Int) :
    Calls Tryd.prog 36 #[.pointer (some ⟨p, 0, none⟩), .int .i64 n] w (DrawnI p a len cap w) := by
  by_cases h0 : n ≤ 0
  · have HC := hide h
    clear h
    go_enter Tryd.func36, Tryd.ntmps36
    go_wp2_with fail
    go_ret
    exact ⟨_, rfl, HC.out, Kept.refl _ _⟩
  by_cases h1 : n ≤ 256
  · exact (below_any p a len cap w h n (by omega) h1).mono fun e w' ⟨x, he, _, _, hc, hk⟩ => ⟨x, he, hc, hk⟩
  have hn0 : (n == 0) = false := by simp; omega
  have hn1 : ¬ n = 0 := by omega
  have hd := byte_any p a len cap w h
  clear h
  go_enter Tryd.func36, Tryd.ntmps36
  go_wp2_with fail
  refine hd.mono ?_
  rintro e w1 ⟨x1, rfl, l1, u1, hc, hk⟩
  have HK1 := hide hk
  clear hd hk
  have hd := byte_any p a len cap w1 hc
  clear hc
  go_wp2_with fail
  refine hd.mono ?_
  rintro e w2 ⟨x2, rfl, l2, u2, hc, hk⟩
  have HK2 := hide (HK1.out.trans hk)
  clear hd hk HK1
  have hd := byte_any p a len cap w2 hc
  clear hc
  go_wp2_with fail
  refine hd.mono ?_
  rintro e w3 ⟨x3, rfl, l3, u3, hc, hk⟩
  have HK3 := hide (HK2.out.trans hk)
  clear hd hk HK2
  have hd := byte_any p a len cap w3 hc
  clear hc
  go_wp2_with fail
  refine hd.mono ?_
  rintro e w4 ⟨x4, rfl, l4, u4, hc, hk⟩
  have HK4 := hide (HK3.out.trans hk)
  have HC := hide hc
  clear hd hk HK3 hc
  go_wp2_with fail
  go_ret
  exact ⟨_, rfl, HC.out, HK4.out⟩

theorem fromG (p : Nat) (a : Option Addr) (len cap : Nat) (w : World) (h : Cur p a len cap w) (lo hi : Int) :
    Calls Tryd.prog 38 #[.pointer (some ⟨p, 0, none⟩), .int .i64 lo, .int .i64 hi] w (DrawnI p a len cap w) := by
  have hb := fun n => belowG p a len cap w h n
  clear h
  go_enter Tryd.func38, Tryd.ntmps38
  go_wp2_with fail
  refine (hb _).mono ?_
  rintro e w' ⟨x, rfl, hc, hk⟩
  clear hb
  go_wp2_with fail
  go_ret
  exact ⟨_, rfl, hc, hk⟩

theorem Cur.belowB {p : Nat} {a : Option Addr} {len cap B : Nat} {w w' : World} (h : Cur p a len cap w) (hb : Below B w w') (hp : p < B) (hab : len = 0 ∨ ∀ b off, a = some ⟨b, off, none⟩ → b < B) : Cur p a len cap w' := by
  obtain ⟨h0, ⟨i, hi, h1⟩, ⟨y, h2⟩, f1, f2, hs, hby⟩ := h
  refine ⟨(hb.cell (p := ⟨p, 0, none⟩) hp).trans h0, ⟨i, hi, (hb.cell (p := ⟨p, 1, none⟩) hp).trans h1⟩, ⟨y, (hb.cell (p := ⟨p, 2, none⟩) hp).trans h2⟩, (hb.frozen (p := ⟨p, 1, none⟩) hp).trans f1, (hb.frozen (p := ⟨p, 2, none⟩) hp).trans f2, hs, ?_⟩
  rcases hab with h0 | hab
  · exact .inl h0
  rcases hby with hby | ⟨b, off, ha, hne, hby⟩
  · exact .inl hby
  · refine .inr ⟨b, off, ha, hne, fun k hk => ?_⟩
    obtain ⟨z, z0, z1, hz⟩ := hby k hk
    exact ⟨z, z0, z1, (hb.cell (p := ⟨b, off + k, none⟩) (hab b off ha)).trans hz⟩
theorem Kept.belowB {p B : Nat} {w wr w' : World} (h : Kept p w wr) (hb : Below B wr w') (hB : w.heap.size ≤ B) : Kept p w w' :=
  ⟨hb.os.trans h.os, hb.tape.trans h.tape, hb.output.trans h.output, Nat.le_trans h.size hb.size, fun k hk hkp => (hb.block k (by omega)).trans (h.block k hk hkp)⟩
theorem owns_kept {B p : Nat} {e : TypeId} {m : Nat} {v : Value} {n : Nat} {xs : List Value} {w w' : World} (h : w.ownsRow B e m v n xs) (hk : Kept p w w') (hp : p < B) : w'.ownsRow B e m v n xs := by
  refine ⟨h.1, ?_⟩
  rcases h.2 with hn | ⟨g, cap, cur, hv, hB, hg, rest⟩
  · exact .inl hn
  · refine .inr ⟨g, cap, cur, hv, hB, ?_, rest⟩
    have hlt : g < w.heap.size := by
      rcases Nat.lt_or_ge g w.heap.size with h | h
      · exact h
      · rw [Array.getElem?_eq_none (by omega)] at hg; cases hg
    rw [hk.block g hlt (by omega)]; exact hg

end Go.Proofs.YtkgkdhocmglklaaDoor

namespace Go.Proofs.YtkgkdhocmglklaaDoor
open Go.RowKit

theorem own_row {w : World} {B n m : Nat} {e : TypeId} {v : Value} {L : List Int} (h : w.ownsRow B e m v n (ints L)) (hn : n ≠ 0) :
    ∃ b cp, v = .slice (some ⟨b, 0, none⟩) n cp ∧ B ≤ b ∧ Row b (n * m) (fun k => L.getD k 0) w := by
  have hl : L.length = n * m := by have := h.1; rw [ints_length] at this; exact this
  have h0 := h
  obtain ⟨hlen, hv | ⟨b, cp, cur, hv, hg, hcur, _, hm2, _, _⟩⟩ := h
  · exact absurd hv.2 hn
  · subst hv
    refine ⟨b, cp, rfl, hg, fun k hk => ⟨?_, h0.frozenAt k⟩⟩
    rw [h0.cellAt k hk, ints_at _ _ (by omega)]

theorem TwR.row {w w' : World} {e : Ending} (h : TwR w e w') : ∃ b cp, e = .returned (.slice (some ⟨b, 0, none⟩) 12 cp) ∧ w.heap.size ≤ b ∧ Row b (12 * 4) (fun k => tbA.getD k 0) w' ∧ Below w.heap.size w w' := by
  obtain ⟨v, rfl, ho, hb⟩ := h
  obtain ⟨b, cp, rfl, hB, hr⟩ := own_row ho (by omega)
  exact ⟨b, cp, rfl, hB, hr, hb⟩

end Go.Proofs.YtkgkdhocmglklaaDoor

namespace Go.Proofs.YtkgkdhocmglklaaDoor
open Go.RowKit

theorem tbA_in (q : Nat) : -2 ≤ tbA.getD q 0 ∧ tbA.getD q 0 ≤ 2 := by
  by_cases h : q < 48
  · have : ∀ q, q < 48 → -2 ≤ tbA.getD q 0 ∧ tbA.getD q 0 ≤ 2 := by decide +kernel
    exact this q h
  · have hl : tbA.length ≤ q := Nat.le_of_not_lt h
    rw [List.getD_eq_getElem?_getD, List.getElem?_eq_none hl]
    decide

/-- the cursor, and what is kept: where a new block is written -/
def CK (p : Nat) (a : Option Addr) (len cap : Nat) (w wr : World) : Prop := Cur p a len cap wr ∧ Kept p w wr
theorem CK.set {p : Nat} {a : Option Addr} {len cap : Nat} {w wr : World} (h : CK p a len cap w wr) (hp : p < w.heap.size) (hab : len = 0 ∨ ∀ b off, a = some ⟨b, off, none⟩ → b < w.heap.size) {q : Addr} (hq : w.heap.size ≤ q.block) (v : Value) : CK p a len cap w (wr.setCell q v) := by
  have hb : Below w.heap.size wr (wr.setCell q v) := (Below.refl _ _).setCell hq _
  exact ⟨h.1.belowB hb hp hab, h.2.belowB hb (Nat.le_refl _)⟩
theorem CK.set4 {p : Nat} {a : Option Addr} {len cap : Nat} {w wr : World} (h : CK p a len cap w wr) (hp : p < w.heap.size) (hab : len = 0 ∨ ∀ b off, a = some ⟨b, off, none⟩ → b < w.heap.size) {q : Nat} (hq : w.heap.size ≤ q) (v0 v1 v2 v3 : Value) :
    CK p a len cap w ((((wr.setCell ⟨q, 0, none⟩ v0).setCell ⟨q, 1, none⟩ v1).setCell ⟨q, 2, none⟩ v2).setCell ⟨q, 3, none⟩ v3) :=
  (((h.set hp hab (q := ⟨q, 0, none⟩) hq v0).set hp hab (q := ⟨q, 1, none⟩) hq v1).set hp hab (q := ⟨q, 2, none⟩) hq v2).set hp hab (q := ⟨q, 3, none⟩) hq v3

/-- a turn is drawn -/
def DrT (lo hi : Int) (p : Nat) (a : Option Addr) (len cap : Nat) (w : World) (e : Ending) (w' : World) : Prop :=
  ∃ x0 x1 x2 x3 : Int, e = .returned (tv x0 x1 x2 x3) ∧ (-2 ≤ x0 ∧ x0 ≤ 2) ∧ (lo ≤ x1 ∧ x1 ≤ hi) ∧ (-2 ≤ x2 ∧ x2 ≤ 2) ∧ (-2 ≤ x3 ∧ x3 ≤ 2) ∧ CK p a len cap w w'

set_option maxRecDepth 100000 in
set_option maxHeartbeats 2000000 in
theorem l10Draw_any (p : Nat) (a : Option Addr) (len cap : Nat) (w : World) (h : Cur p a len cap w) (hp : p < w.heap.size) (hab : len = 0 ∨ ∀ b off, a = some ⟨b, off, none⟩ → b < w.heap.size) :
    Calls Tryd.prog 47 #[.pointer (some ⟨p, 0, none⟩)] w (DrT (-2) 2 p a len cap w) := by
  have hb0 := bnew w (cTurn 0 0 0 0 28)
  have HX0 : Hid (Bx w.heap.size [.int .i64 0, .int .i64 0, .int .i64 0, .int .i64 0] (w.alloc (cTurn 0 0 0 0 28))) := Bx.new [.int .i64 0, .int .i64 0, .int .i64 0, .int .i64 0] 28 w
  have HK0 := hide (Kept.of_below (p := p) hb0)
  have HC0 := hide (h.below hb0)
  have hne : w.heap.size ≠ p := by omega
  have HZ0 : Hid (w.heap.size < (w.alloc (cTurn 0 0 0 0 28)).heap.size) := by show _ < _; simp
  have c1 := (specTurns_any (w.alloc (cTurn 0 0 0 0 28))).mono (fun e u hu => hu.row)
  have HF : Hid (∃ f : Nat → Int, f = (fun k => tbA.getD k 0) ∧ ∀ q, -2 ≤ f q ∧ f q ≤ 2) := ⟨_, rfl, tbA_in⟩
  obtain ⟨f, hf, hfb⟩ := HF.out
  rw [← hf] at c1
  have HF := hide hfb
  have HAB := hide hab
  clear hf hfb h hb0 hab
  go_enter Tryd.func47, Tryd.ntmps47
  go_wp2_with fail
  refine c1.mono ?_
  rintro e w1 ⟨b, cp, rfl, hg, hr, hb⟩
  have HX1 := hide (HX0.out.below hb HZ0.out)
  have HK1 := hide (HK0.out.trans (Kept.of_below hb))
  have HC1 := hide (HC0.out.below hb)
  have HR1 := hide hr
  have HZ1 : Hid (w.heap.size < w1.heap.size ∧ w.heap.size < b ∧ b < w1.heap.size) := ⟨Nat.lt_of_lt_of_le HZ0.out hb.size, Nat.lt_of_lt_of_le HZ0.out hg, World.block_lt_of_cell? _ _ (hr 0 (by omega)).1⟩
  have c2 := below_any p a len cap w1 HC1.out 12 (by omega) (by omega)
  clear c1 hb hr hg HX0 HK0 HC0 HZ0
  go_wp2_with fail
  refine c2.mono ?_
  rintro e w2 ⟨x, rfl, x0, x1, hc, hk⟩
  obtain ⟨K, rfl⟩ : ∃ K : Nat, x = K := ⟨x.toNat, by omega⟩
  have hbp : b ≠ p := by have := HZ1.out; omega
  have hr2 : Row b (12 * 4) f w2 := fun j hj => ⟨hk.cell (a := ⟨b, j, none⟩) hbp (HR1.out j hj).1, (hk.frozen (a := ⟨b, j, none⟩) hbp (HR1.out j hj).1).trans (HR1.out j hj).2⟩
  have HX2 := hide (HX1.out.kept hk hne)
  have HK2 := hide (HK1.out.trans hk)
  have HC2 := hide hc
  have HZ2 : Hid (w.heap.size < w2.heap.size) := Nat.lt_of_lt_of_le HZ1.out.1 hk.size
  have r0 := (hr2 (K * 4) (by omega)).1
  have r1 := (hr2 (K * 4 + 1) (by omega)).1
  have r2 := (hr2 (K * 4 + 2) (by omega)).1
  have r3 := (hr2 (K * 4 + 3) (by omega)).1
  have b0 := HF.out (K * 4)
  have b1 := HF.out (K * 4 + 1)
  have b2 := HF.out (K * 4 + 2)
  have b3 := HF.out (K * 4 + 3)
  generalize f (K * 4) = y0 at *
  generalize f (K * 4 + 1) = y1 at *
  generalize f (K * 4 + 2) = y2 at *
  generalize f (K * 4 + 3) = y3 at *
  clear c2 hc hk hr2 HR1 HX1 HK1 HC1 HF HZ1
  go_upto_region 2 with fail
  have HX3 := hide (HX2.out.below (bnew w2 (cTurn y0 y1 y2 y3 28)) HZ2.out)
  have HY3 : Hid (Bx w2.heap.size [.int .i64 y0, .int .i64 y1, .int .i64 y2, .int .i64 y3] (w2.alloc (cTurn y0 y1 y2 y3 28))) := Bx.new [.int .i64 y0, .int .i64 y1, .int .i64 y2, .int .i64 y3] 28 w2
  have HK3 := hide (HK2.out.trans (Kept.of_below (bnew w2 (cTurn y0 y1 y2 y3 28))))
  have HC3 := hide (HC2.out.below (bnew w2 (cTurn y0 y1 y2 y3 28)))
  have HZ3 : Hid (w.heap.size < w2.heap.size ∧ w2.heap.size < (w2.alloc (cTurn y0 y1 y2 y3 28)).heap.size) := ⟨HZ2.out, by simp⟩
  clear HX2 HK2 HC2 HZ2 r0 r1 r2 r3
  generalize hw3 : w2.alloc (cTurn y0 y1 y2 y3 28) = w3 at *
  clear hw3
  generalize w2.heap.size = X at *
  have c3 := once_any p a len cap w3 HC3.out 2 (by omega) (by omega)
  go_wp2_with fail
  refine c3.mono ?_
  rintro e w4 ⟨q, rfl, hc, hk⟩
  have hXp : X ≠ p := by have := HZ3.out; omega
  have HX4 := hide (HX3.out.kept hk hne)
  have HY4 := hide (HY3.out.kept hk hXp)
  have HK4 := hide (HK3.out.trans hk)
  have HC4 := hide hc
  have HZ4 := hide HZ3.out.1
  clear c3 hc hk HX3 HY3 HK3 HC3 HZ3
  have y0' := HY4.out 0 _ rfl
  have y1' := HY4.out 1 _ rfl
  have y2' := HY4.out 2 _ rfl
  have y3' := HY4.out 3 _ rfl
  obtain ⟨a0, c0⟩ := y0'
  obtain ⟨a1, c1⟩ := y1'
  obtain ⟨a2, c2⟩ := y2'
  obtain ⟨a3, c3⟩ := y3'
  have x0' := HX4.out 0 _ rfl
  have x1' := HX4.out 1 _ rfl
  have x2' := HX4.out 2 _ rfl
  have x3' := HX4.out 3 _ rfl
  obtain ⟨g0, d0⟩ := x0'
  obtain ⟨g1, d1⟩ := x1'
  obtain ⟨g2, d2⟩ := x2'
  obtain ⟨g3, d3⟩ := x3'
  have hXR : X ≠ w.heap.size := by have := HZ4.out; omega
  have hRX : w.heap.size ≠ X := hXR.symm
  cases q
  · go_wp2_with fail
    refine bodyPost_ret (v := tv y0 y1 y2 y3) (by simp [results, Tryd.results47, go_sem, g0, g1, g2, g3]) rfl ⟨y0, y1, y2, y3, rfl, b0, b1, b2, b3, CK.set4 ⟨HC4.out, HK4.out⟩ hp HAB.out (Nat.le_refl _) _ _ _ _⟩
  · have n0 : IntKind.i64.wrap (-y0) = -y0 := by rw [IntKind.wrap_i64]; omega
    have n1 : IntKind.i64.wrap (-y1) = -y1 := by rw [IntKind.wrap_i64]; omega
    have n2 : IntKind.i64.wrap (-y2) = -y2 := by rw [IntKind.wrap_i64]; omega
    have n3 : IntKind.i64.wrap (-y3) = -y3 := by rw [IntKind.wrap_i64]; omega
    go_wp2_with fail
    exact bodyPost_ret (v := tv (-y0) (-y1) (-y2) (-y3)) (by simp [results, Tryd.results47, go_sem, g0, g1, g2, g3]) rfl ⟨-y0, -y1, -y2, -y3, rfl, by omega, by omega, by omega, by omega, (CK.set4 ⟨HC4.out, HK4.out⟩ hp HAB.out (Nat.le_of_lt HZ4.out) _ _ _ _).set4 hp HAB.out (Nat.le_refl _) _ _ _ _⟩

set_option maxRecDepth 100000 in
set_option maxHeartbeats 2000000 in
theorem l10DrawAny_any (p : Nat) (a : Option Addr) (len cap : Nat) (w : World) (h : Cur p a len cap w) (hp : p < w.heap.size) (hab : len = 0 ∨ ∀ b off, a = some ⟨b, off, none⟩ → b < w.heap.size) :
    Calls Tryd.prog 19 #[.pointer (some ⟨p, 0, none⟩)] w (DrT (-9223372036854775808) 9223372036854775807 p a len cap w) := by
  have hb0 := bnew w (cTurn 0 0 0 0 28)
  have HX0 : Hid (Bx w.heap.size [.int .i64 0, .int .i64 0, .int .i64 0, .int .i64 0] (w.alloc (cTurn 0 0 0 0 28))) := Bx.new [.int .i64 0, .int .i64 0, .int .i64 0, .int .i64 0] 28 w
  have HK0 := hide (Kept.of_below (p := p) hb0)
  have hne : w.heap.size ≠ p := by omega
  have HZ0 : Hid (w.heap.size < (w.alloc (cTurn 0 0 0 0 28)).heap.size) := by show _ < _; simp
  have c1 := l10Draw_any p a len cap (w.alloc (cTurn 0 0 0 0 28)) (h.below hb0) (Nat.lt_trans hp HZ0.out) (hab.imp id fun h b off e => Nat.lt_trans (h b off e) HZ0.out)
  have HAB := hide hab
  clear h hb0 hab
  go_enter Tryd.func19, Tryd.ntmps19
  go_wp2_with fail
  refine c1.mono ?_
  rintro e w2 ⟨y0, y1, y2, y3, rfl, b0, b1, b2, b3, hc, hk⟩
  have HX2 := hide (HX0.out.kept hk hne)
  have HK2 := hide (HK0.out.trans hk)
  have HC2 := hide hc
  have HZ2 : Hid (w.heap.size < w2.heap.size) := Nat.lt_of_lt_of_le HZ0.out hk.size
  clear c1 hc hk HX0 HK0 HZ0
  go_upto_region 2 with fail
  have HX3 := hide (HX2.out.below (bnew w2 (cTurn y0 y1 y2 y3 28)) HZ2.out)
  have HY3 : Hid (Bx w2.heap.size [.int .i64 y0, .int .i64 y1, .int .i64 y2, .int .i64 y3] (w2.alloc (cTurn y0 y1 y2 y3 28))) := Bx.new [.int .i64 y0, .int .i64 y1, .int .i64 y2, .int .i64 y3] 28 w2
  have HK3 := hide (HK2.out.trans (Kept.of_below (bnew w2 (cTurn y0 y1 y2 y3 28))))
  have HC3 := hide (HC2.out.below (bnew w2 (cTurn y0 y1 y2 y3 28)))
  have HZ3 : Hid (w.heap.size < w2.heap.size ∧ w2.heap.size < (w2.alloc (cTurn y0 y1 y2 y3 28)).heap.size) := ⟨HZ2.out, by simp⟩
  clear HX2 HK2 HC2 HZ2
  generalize hw3 : w2.alloc (cTurn y0 y1 y2 y3 28) = w3 at *
  clear hw3
  generalize w2.heap.size = X at *
  have c3 := once_any p a len cap w3 HC3.out 12 (by omega) (by omega)
  go_wp2_with fail
  refine c3.mono ?_
  rintro e w4 ⟨q, rfl, hc, hk⟩
  have hXp : X ≠ p := by have := HZ3.out; omega
  have HX4 := hide (HX3.out.kept hk hne)
  have HY4 := hide (HY3.out.kept hk hXp)
  have HK4 := hide (HK3.out.trans hk)
  have HC4 := hide hc
  have HZ4 : Hid (w.heap.size < X ∧ X < w4.heap.size) := ⟨HZ3.out.1, Nat.lt_of_lt_of_le HZ3.out.2 hk.size⟩
  clear c3 hc hk HX3 HY3 HK3 HC3 HZ3
  have hXR : X ≠ w.heap.size := by have := HZ4.out; omega
  have hRX : w.heap.size ≠ X := hXR.symm
  cases q
  · obtain ⟨a0, c0⟩ := HY4.out 0 _ rfl
    obtain ⟨a1, c1⟩ := HY4.out 1 _ rfl
    obtain ⟨a2, c2⟩ := HY4.out 2 _ rfl
    obtain ⟨a3, c3⟩ := HY4.out 3 _ rfl
    obtain ⟨g0, d0⟩ := HX4.out 0 _ rfl
    obtain ⟨g1, d1⟩ := HX4.out 1 _ rfl
    obtain ⟨g2, d2⟩ := HX4.out 2 _ rfl
    obtain ⟨g3, d3⟩ := HX4.out 3 _ rfl
    go_wp2_with fail
    exact bodyPost_ret (v := tv y0 y1 y2 y3) (by simp [results, Tryd.results19, go_sem, g0, g1, g2, g3]) rfl ⟨y0, y1, y2, y3, rfl, b0, by omega, b2, b3, CK.set4 ⟨HC4.out, HK4.out⟩ hp HAB.out (Nat.le_refl _) _ _ _ _⟩
  · have hb5 := bnew w4 (.cells #[.int .i64 0, .int .i64 1, .int .i64 2, .int .i64 (-2), .int .i64 3, .int .i64 4611686018427387904, .int .i64 (-9223372036854775808)] 2)
    have HT5 : Hid (Bx w4.heap.size [.int .i64 0, .int .i64 1, .int .i64 2, .int .i64 (-2), .int .i64 3, .int .i64 4611686018427387904, .int .i64 (-9223372036854775808)] (w4.alloc (.cells #[.int .i64 0, .int .i64 1, .int .i64 2, .int .i64 (-2), .int .i64 3, .int .i64 4611686018427387904, .int .i64 (-9223372036854775808)] 2))) := Bx.new _ 2 w4
    have c5 := below_any p a len cap _ (HC4.out.below hb5) 7 (by omega) (by omega)
    have HB5 := hide hb5
    clear hb5
    go_wp2_with fail
    refine c5.mono ?_
    rintro e w6 ⟨y, rfl, y5, y6, hc, hk⟩
    obtain ⟨Y, rfl⟩ : ∃ Y : Nat, y = Y := ⟨y.toNat, by omega⟩
    have hTp : w4.heap.size ≠ p := by have := HZ4.out; omega
    have HT6 := hide (HT5.out.kept hk hTp)
    have HX6 := hide ((HX4.out.below HB5.out (Nat.lt_trans HZ4.out.1 HZ4.out.2)).kept hk hne)
    have HY6 := hide ((HY4.out.below HB5.out HZ4.out.2).kept hk hXp)
    have HK6 := hide ((HK4.out.trans (Kept.of_below HB5.out)).trans hk)
    have HC6 := hide hc
    clear c5 hc hk HT5 HX4 HY4 HK4 HC4 HB5
    obtain ⟨z, hz, hzb⟩ : ∃ z : Int, w6.cell? ⟨w4.heap.size, Y, none⟩ = some (.int .i64 z) ∧ (-9223372036854775808 ≤ z ∧ z ≤ 9223372036854775807) := by
      have hY : Y = 0 ∨ Y = 1 ∨ Y = 2 ∨ Y = 3 ∨ Y = 4 ∨ Y = 5 ∨ Y = 6 := by omega
      rcases hY with rfl | rfl | rfl | rfl | rfl | rfl | rfl
      · exact ⟨_, (HT6.out 0 _ rfl).1, by omega⟩
      · exact ⟨_, (HT6.out 1 _ rfl).1, by omega⟩
      · exact ⟨_, (HT6.out 2 _ rfl).1, by omega⟩
      · exact ⟨_, (HT6.out 3 _ rfl).1, by omega⟩
      · exact ⟨_, (HT6.out 4 _ rfl).1, by omega⟩
      · exact ⟨_, (HT6.out 5 _ rfl).1, by omega⟩
      · exact ⟨_, (HT6.out 6 _ rfl).1, by omega⟩
    have hYl : Y < 7 := by omega
    have hTX : X ≠ w4.heap.size := by have := HZ4.out; omega
    clear HT6
    obtain ⟨a0, c0⟩ := HY6.out 0 _ rfl
    obtain ⟨a1, c1⟩ := HY6.out 1 _ rfl
    obtain ⟨a2, c2⟩ := HY6.out 2 _ rfl
    obtain ⟨a3, c3⟩ := HY6.out 3 _ rfl
    obtain ⟨g0, d0⟩ := HX6.out 0 _ rfl
    obtain ⟨g1, d1⟩ := HX6.out 1 _ rfl
    obtain ⟨g2, d2⟩ := HX6.out 2 _ rfl
    obtain ⟨g3, d3⟩ := HX6.out 3 _ rfl
    go_wp2_with fail
    exact bodyPost_ret (v := tv y0 z y2 y3) (by simp [results, Tryd.results19, go_sem, g0, g1, g2, g3]) rfl ⟨y0, z, y2, y3, rfl, b0, hzb, b2, b3, ((CK.set ⟨HC6.out, HK6.out⟩ hp HAB.out (q := ⟨X, 1, none⟩) (Nat.le_of_lt HZ4.out.1) _).set4 hp HAB.out (Nat.le_refl _) _ _ _ _)⟩

end Go.Proofs.YtkgkdhocmglklaaDoor

namespace Go.Proofs.YtkgkdhocmglklaaDoor
open Go.RowKit

/-- numbers of 64 bits -/
def I4 (z0 z1 z2 z3 : Int) : Prop := I64 z0 ∧ I64 z1 ∧ I64 z2 ∧ I64 z3
/-- what each operation leaves: a box's four values are told, a turn is drawn, both are stored -/
def dpF (p R1 R2 : Nat) (v0 v1 v2 v3 : Value) (j : Nat) (u : Nat → Value) (w : World) : Prop :=
  match j with
  | 0 => u 0 = .agg #[v0, v1, v2, v3]
  | 1 => u 1 = .pointer (some ⟨p, 0, none⟩)
  | 2 => ∃ z0 z1 z2 z3, u 2 = tv z0 z1 z2 z3 ∧ I4 z0 z1 z2 z3
  | 3 => Bx R1 [v0, v1, v2, v3] w
  | 4 => ∃ z0 z1 z2 z3, u 2 = tv z0 z1 z2 z3 ∧ I4 z0 z1 z2 z3 ∧ Bx R2 [.int .i64 z0, .int .i64 z1, .int .i64 z2, .int .i64 z3] w
  | _ => True
/-- what stays throughout -/
structure dpR (w0 : World) (p : Nat) (a : Option Addr) (len cap R1 R2 X : Nat) (v0 v1 v2 v3 : Value) (w : World) : Prop where
  cur : Cur p a len cap w
  below : Below w0.heap.size w0 w
  x : Bx X [v0, v1, v2, v3] w
  r1 : ∃ y0 y1 y2 y3, Bx R1 [y0, y1, y2, y3] w
  r2 : ∃ y0 y1 y2 y3, Bx R2 [y0, y1, y2, y3] w
  sz : w0.heap.size + 4 ≤ w.heap.size
/-- the blocks, apart from one another -/
structure dpB (w0 : World) (p : Nat) (a : Option Addr) (len R1 R2 X : Nat) : Prop where
  r1 : R1 = w0.heap.size
  r2 : R2 = w0.heap.size + 1
  hp : p = w0.heap.size + 2
  x : w0.heap.size + 2 < X
  hab : len = 0 ∨ ∀ b off, a = some ⟨b, off, none⟩ → b < w0.heap.size
theorem dpF_stab {p R1 R2 : Nat} {v0 v1 v2 v3 : Value} {w w' : World} (u : Nat → Value) (i : Nat) (v : Value) (j : Nat) (hj : j ≠ i) (h4 : j = 4 → i ≠ 2) (k1 : ∀ vs, j = 3 → Bx R1 vs w → Bx R1 vs w') (k2 : ∀ vs, j = 4 → Bx R2 vs w → Bx R2 vs w') (h : dpF p R1 R2 v0 v1 v2 v3 j u w) : dpF p R1 R2 v0 v1 v2 v3 j (upU u i v) w' := by
  match j, hj, h, h4, k1, k2 with
  | 0, hj, h, _, _, _ => exact (upU_other u v hj).trans h
  | 1, hj, h, _, _, _ => exact (upU_other u v hj).trans h
  | 2, hj, h, _, _, _ => obtain ⟨z0, z1, z2, z3, h1, h2⟩ := h; exact ⟨z0, z1, z2, z3, (upU_other u v hj).trans h1, h2⟩
  | 3, hj, h, _, k1, _ => exact k1 _ rfl h
  | 4, hj, h, h4, _, k2 => obtain ⟨z0, z1, z2, z3, h1, h2, h3⟩ := h; exact ⟨z0, z1, z2, z3, (upU_other u v (Ne.symm (h4 rfl))).trans h1, h2, k2 _ rfl h3⟩
  | _ + 5, _, _, _, _, _ => trivial
/-- four cells of a box are written -/
abbrev set4 (w : World) (b : Nat) (x0 x1 x2 x3 : Value) : World := (((w.setCell ⟨b, 0, none⟩ x0).setCell ⟨b, 1, none⟩ x1).setCell ⟨b, 2, none⟩ x2).setCell ⟨b, 3, none⟩ x3
theorem Bx.far4 {b c : Nat} {vs : List Value} {w : World} (h : Bx b vs w) (hq : c ≠ b) (x0 x1 x2 x3 : Value) : Bx b vs (set4 w c x0 x1 x2 x3) := by
  have far : ∀ {w : World} {k : Nat} {v : Value}, Bx b vs w → Bx b vs (w.setCell ⟨c, k, none⟩ v) := fun {w k v} h j u hu => by
    have := h j u hu
    refine ⟨?_, by simpa using this.2⟩
    rw [World.cell?_setCell_other _ _ _ _ (by intro e; exact hq (congrArg Addr.block e))]
    exact this.1
  exact far (far (far (far h)))
theorem Bx.to4 {b : Nat} {y0 y1 y2 y3 : Value} {w : World} (h : Bx b [y0, y1, y2, y3] w) (x0 x1 x2 x3 : Value) : Bx b [x0, x1, x2, x3] (set4 w b x0 x1 x2 x3) := by
  have h0 := h 0 _ rfl
  have h1 := h 1 _ rfl
  have h2 := h 2 _ rfl
  have h3 := h 3 _ rfl
  intro j v hv
  match j, hv with
  | 0, hv =>
    cases hv
    refine ⟨?_, by simpa using h0.2⟩
    rw [World.cell?_setCell_other _ _ _ _ (by simp), World.cell?_setCell_other _ _ _ _ (by simp), World.cell?_setCell_other _ _ _ _ (by simp)]
    exact World.cell?_setCell_same _ _ _ h0.1
  | 1, hv =>
    cases hv
    refine ⟨?_, by simpa using h1.2⟩
    rw [World.cell?_setCell_other _ _ _ _ (by simp), World.cell?_setCell_other _ _ _ _ (by simp)]
    exact World.cell?_setCell_same _ _ _ (by rw [World.cell?_setCell_other _ _ _ _ (by simp)]; exact h1.1)
  | 2, hv =>
    cases hv
    refine ⟨?_, by simpa using h2.2⟩
    rw [World.cell?_setCell_other _ _ _ _ (by simp)]
    exact World.cell?_setCell_same _ _ _ (by rw [World.cell?_setCell_other _ _ _ _ (by simp), World.cell?_setCell_other _ _ _ _ (by simp)]; exact h2.1)
  | 3, hv =>
    cases hv
    refine ⟨?_, by simpa using h3.2⟩
    exact World.cell?_setCell_same _ _ _ (by rw [World.cell?_setCell_other _ _ _ _ (by simp), World.cell?_setCell_other _ _ _ _ (by simp), World.cell?_setCell_other _ _ _ _ (by simp)]; exact h3.1)
theorem below_set4 {B : Nat} {w0 w : World} (h : Below B w0 w) {b : Nat} (hb : B ≤ b) (x0 x1 x2 x3 : Value) : Below B w0 (set4 w b x0 x1 x2 x3) :=
  (((h.setCell (p := ⟨b, 0, none⟩) hb x0).setCell (p := ⟨b, 1, none⟩) hb x1).setCell (p := ⟨b, 2, none⟩) hb x2).setCell (p := ⟨b, 3, none⟩) hb x3
theorem Cur.box4 {p : Nat} {a : Option Addr} {len cap : Nat} {w : World} (h : Cur p a len cap w) {b : Nat} (hb : b ≠ p) (hab : len = 0 ∨ ∀ b' off, a = some ⟨b', off, none⟩ → b' ≠ b) (x0 x1 x2 x3 : Value) : Cur p a len cap (set4 w b x0 x1 x2 x3) := by
  have one : ∀ {w : World} {k : Nat} {v : Value}, Cur p a len cap w → Cur p a len cap (w.setCell ⟨b, k, none⟩ v) := fun {w k v} h => by
    obtain ⟨h0, ⟨i, hi, h1⟩, ⟨y, h2⟩, f1, f2, hs, hby⟩ := h
    have f : ∀ (q : Addr) (u : Value), q.block ≠ b → w.cell? q = some u → (w.setCell ⟨b, k, none⟩ v).cell? q = some u := fun q u hq hu => by
      rw [World.cell?_setCell_other _ _ _ _ (by intro e; exact hq (by rw [← e]))]; exact hu
    refine ⟨f _ _ (Ne.symm hb) h0, ⟨i, hi, f _ _ (Ne.symm hb) h1⟩, ⟨y, f _ _ (Ne.symm hb) h2⟩, by simpa using f1, by simpa using f2, hs, ?_⟩
    rcases hby with hby | ⟨b', off, ha, hne, hby⟩
    · exact .inl hby
    · rcases hab with h0 | hab
      · exact .inl h0
      · refine .inr ⟨b', off, ha, hne, fun k hk => ?_⟩
        obtain ⟨z, z0, z1, hz⟩ := hby k hk
        exact ⟨z, z0, z1, f _ _ (hab b' off ha) hz⟩
  exact one (one (one (one h)))

theorem dpR.set {w0 : World} {p : Nat} {a : Option Addr} {len cap R1 R2 X : Nat} {v0 v1 v2 v3 : Value} {w : World} (h : dpR w0 p a len cap R1 R2 X v0 v1 v2 v3 w) (hB : dpB w0 p a len R1 R2 X) {R : Nat} (hR : R = R1 ∨ R = R2) (x0 x1 x2 x3 : Value) : dpR w0 p a len cap R1 R2 X v0 v1 v2 v3 (set4 w R x0 x1 x2 x3) := by
  obtain ⟨e1, e2, e3, e4, e5⟩ := hB
  have hR0 : w0.heap.size ≤ R ∧ R ≠ p ∧ R ≠ X := by rcases hR with rfl | rfl <;> omega
  refine ⟨h.cur.box4 hR0.2.1 (e5.imp id fun h b off e => by have := h b off e; omega) _ _ _ _, below_set4 h.below hR0.1 _ _ _ _, h.x.far4 hR0.2.2 _ _ _ _, ?_, ?_, by simpa using h.sz⟩
  · obtain ⟨y0, y1, y2, y3, hy⟩ := h.r1
    by_cases e : R = R1
    · subst e; exact ⟨_, _, _, _, hy.to4 x0 x1 x2 x3⟩
    · exact ⟨_, _, _, _, hy.far4 e x0 x1 x2 x3⟩
  · obtain ⟨y0, y1, y2, y3, hy⟩ := h.r2
    by_cases e : R = R2
    · subst e; exact ⟨_, _, _, _, hy.to4 x0 x1 x2 x3⟩
    · exact ⟨_, _, _, _, hy.far4 e x0 x1 x2 x3⟩
theorem dpR.drew {w0 : World} {p : Nat} {a : Option Addr} {len cap R1 R2 X : Nat} {v0 v1 v2 v3 : Value} {w : World} (h : dpR w0 p a len cap R1 R2 X v0 v1 v2 v3 w) : dpR w0 p a len cap R1 R2 X v0 v1 v2 v3 w.drew :=
  ⟨h.cur.drewN 1, h.below.drew, h.x, h.r1, h.r2, h.sz⟩
theorem dpR.step {w0 : World} {p : Nat} {a : Option Addr} {len cap R1 R2 X : Nat} {v0 v1 v2 v3 : Value} {w w' : World} (h : dpR w0 p a len cap R1 R2 X v0 v1 v2 v3 w) (hB : dpB w0 p a len R1 R2 X) (hc : Cur p a len cap w') (hk : Kept p w w') : dpR w0 p a len cap R1 R2 X v0 v1 v2 v3 w' := by
  obtain ⟨e1, e2, e3, e4, e5⟩ := hB
  have hs := h.below.size
  refine ⟨hc, h.below.trans (hk.below (by omega) hs), h.x.kept hk (by omega), ?_, ?_, Nat.le_trans h.sz hk.size⟩
  · obtain ⟨y0, y1, y2, y3, hy⟩ := h.r1; exact ⟨_, _, _, _, hy.kept hk (by omega)⟩
  · obtain ⟨y0, y1, y2, y3, hy⟩ := h.r2; exact ⟨_, _, _, _, hy.kept hk (by omega)⟩

theorem bytes_lt {a : Option Addr} {len : Nat} {w : World} (h : Bytes a len w) {B : Nat} (hB : w.heap.size ≤ B) : len = 0 ∨ ∀ b off, a = some ⟨b, off, none⟩ → b < B := by
  by_cases h0 : len = 0
  · exact .inl h0
  · refine .inr fun b off e => ?_
    rcases h.2 with h1 | ⟨b', off', ha, hb⟩
    · exact absurd h1 h0
    · obtain ⟨z, _, _, hz⟩ := hb 0 (by omega)
      rw [e] at ha
      cases ha
      exact Nat.lt_of_lt_of_le (World.block_lt_of_cell? w _ hz) hB

/-- two turns are drawn -/
def DrM (w : World) (e : Ending) (w' : World) : Prop :=
  ∃ x0 x1 x2 x3 y0 y1 y2 y3 : Int, e = .returned (.tuple #[tv x0 x1 x2 x3, tv y0 y1 y2 y3]) ∧ I4 x0 x1 x2 x3 ∧ I4 y0 y1 y2 y3 ∧ Below w.heap.size w w'

theorem I4.of {z0 z1 z2 z3 : Int} (h0 : -2 ≤ z0 ∧ z0 ≤ 2) (h1 : -9223372036854775808 ≤ z1 ∧ z1 ≤ 9223372036854775807) (h2 : -2 ≤ z2 ∧ z2 ≤ 2) (h3 : -2 ≤ z3 ∧ z3 ≤ 2) : I4 z0 z1 z2 z3 := by
  unfold I4 I64; omega

end Go.Proofs.YtkgkdhocmglklaaDoor

/- The draw of an image and of sensitivities. -/
import Derived.Test.YtpeocbhnnpppjaaDsp
import Derived.Test.YtpeocbhnnpppjaaDrg
import Derived.Deep.DeepCutAuto
import Derived.Deep.CutBlock
namespace Go.Proofs.Ytpeocbhnnpppjaa
open Go.RowKit

theorem bytes_lt {a : Option Addr} {len : Nat} {w : World} (h : Bytes a len w) {B : Nat} (hB : w.heap.size ≤ B) : len = 0 ∨ ∀ b off, a = some ⟨b, off, none⟩ → b < B := by
  by_cases h0 : len = 0
  · exact .inl h0
  · refine .inr fun b off e => ?_
    rcases h.2 with h1 | ⟨b', off', ha, hb⟩
    · exact absurd h1 h0
    · obtain ⟨z, _, _, hz⟩ := hb 0 (by omega)
      rw [e] at ha
      cases ha
      exact Nat.lt_of_lt_of_le (World.block_lt_of_cell? w _ hz) hB
/-- two images are drawn -/
def DFR (w : World) (e : Ending) (w' : World) : Prop := ∃ (W H : Int) (x : Option Addr) (n c : Nat) (f : Nat → Int) (W2 H2 : Int) (x2 : Option Addr) (m c2 : Nat) (g : Nat → Int), e = .returned (.tuple #[im W H x n c, im W2 H2 x2 m c2]) ∧ n ≤ 64 ∧ m ≤ 65 ∧ Px x n f w' ∧ Px x2 m g w' ∧ Below w.heap.size w w'
/-- what is known while two images are drawn: the boxes of the answers -/
structure DT (p : Nat) (a : Option Addr) (len cap : Nat) (w wr : World) : Prop where
  cur : Cur p a len cap wr
  below : Below w.heap.size w wr
  r0 : Bx w.heap.size [.int .i64 0, .int .i64 0, .slice none 0 0] wr
  r1 : Bx (w.heap.size + 1) [.int .i64 0, .int .i64 0, .slice none 0 0] wr
  eq : p = w.heap.size + 2
  lt : p < wr.heap.size
theorem DT.step {p : Nat} {a : Option Addr} {len cap : Nat} {w wr w' : World} (h : DT p a len cap w wr) (hc : Cur p a len cap w') (hk : Kept p wr w') : DT p a len cap w w' :=
  ⟨hc, h.below.trans (hk.below (by have := h.eq; omega) h.below.size), h.r0.kept hk (by have := h.eq; omega), h.r1.kept hk (by have := h.eq; omega), h.eq, Nat.lt_of_lt_of_le h.lt hk.size⟩
/-- what stays in the last region -/
structure fR (w0 : World) (R0 R1 I J : Nat) (W H : Int) (x : Option Addr) (b m c : Nat) (f : Nat → Int) (W2 H2 : Int) (x2 : Option Addr) (b2 m2 c2 : Nat) (f2 : Nat → Int) (u : Nat → Value) (w : World) : Prop where
  below : Below w0.heap.size w0 w
  ow : Ow x b m f w
  ow2 : Ow x2 b2 m2 f2 w
  src : Bx I [.int .i64 W, .int .i64 H, .slice x m c] w
  src2 : Bx J [.int .i64 W2, .int .i64 H2, .slice x2 m2 c2] w
  res : ∃ v0 v1 v2, Bx R0 [v0, v1, v2] w ∧ (u 2 ≠ undef → v0 = .int .i64 W ∧ v1 = .int .i64 H ∧ v2 = .slice x m c)
  res2 : ∃ v0 v1 v2, Bx R1 [v0, v1, v2] w ∧ (u 3 ≠ undef → v0 = .int .i64 W2 ∧ v1 = .int .i64 H2 ∧ v2 = .slice x2 m2 c2)
/-- what each operation leaves -/
def fF (W H : Int) (x : Option Addr) (m c : Nat) (W2 H2 : Int) (x2 : Option Addr) (m2 c2 : Nat) (j : Nat) (u : Nat → Value) (_ : World) : Prop :=
  (j = 0 → u 0 = im W H x m c) ∧ (j = 1 → u 1 = im W2 H2 x2 m2 c2) ∧ (j = 2 → u 2 ≠ undef) ∧ (j = 3 → u 3 ≠ undef)
section
variable {R0 R1 I J m c b m2 c2 b2 : Nat} {w0 w w' : World} {W H W2 H2 : Int} {x x2 : Option Addr} {f f2 : Nat → Int} {u : Nat → Value}
theorem fR_up (h : fR w0 R0 R1 I J W H x b m c f W2 H2 x2 b2 m2 c2 f2 u w) (i : Nat) (hi : 2 ≠ i ∧ 3 ≠ i) (v : Value) : fR w0 R0 R1 I J W H x b m c f W2 H2 x2 b2 m2 c2 f2 (upU u i v) w := by
  obtain ⟨v0, v1, v2, h1, h2⟩ := h.res
  obtain ⟨z0, z1, z2, k1, k2⟩ := h.res2
  exact ⟨h.below, h.ow, h.ow2, h.src, h.src2, ⟨v0, v1, v2, h1, fun e => h2 (by rwa [upU_other u v hi.1] at e)⟩, ⟨z0, z1, z2, k1, fun e => k2 (by rwa [upU_other u v hi.2] at e)⟩⟩
theorem fR_set0 (h : fR w0 R0 R1 I J W H x b m c f W2 H2 x2 b2 m2 c2 f2 u w) (hR : w0.heap.size ≤ R0) (h1 : R1 ≠ R0) (hI : I ≠ R0) (hJ : J ≠ R0) (hb : m = 0 ∨ b ≠ R0) (hb2 : m2 = 0 ∨ b2 ≠ R0) :
    fR w0 R0 R1 I J W H x b m c f W2 H2 x2 b2 m2 c2 f2 (upU u 2 (.bool true)) (((w.setCell ⟨R0, 0, none⟩ (.int .i64 W)).setCell ⟨R0, 1, none⟩ (.int .i64 H)).setCell ⟨R0, 2, none⟩ (.slice x m c)) := by
  obtain ⟨v0, v1, v2, hx, -⟩ := h.res
  obtain ⟨z0, z1, z2, k1, k2⟩ := h.res2
  have hk : Kept R0 w (((w.setCell ⟨R0, 0, none⟩ (.int .i64 W)).setCell ⟨R0, 1, none⟩ (.int .i64 H)).setCell ⟨R0, 2, none⟩ (.slice x m c)) := (((Kept.refl R0 w).setCell (a := ⟨R0, 0, none⟩) rfl _).setCell (a := ⟨R0, 1, none⟩) rfl _).setCell (a := ⟨R0, 2, none⟩) rfl _
  exact ⟨h.below.trans (hk.below hR h.below.size), OwV.keptO (x := (x, b, m, fun k => .int .i64 (f k))) h.ow.v hk (fun h0 => hb.resolve_left h0), OwV.keptO (x := (x2, b2, m2, fun k => .int .i64 (f2 k))) h.ow2.v hk (fun h0 => hb2.resolve_left h0), h.src.kept hk hI, h.src2.kept hk hJ, ⟨_, _, _, ((hx.set 0 (.int .i64 W)).set 1 (.int .i64 H)).set 2 (.slice x m c), fun _ => ⟨rfl, rfl, rfl⟩⟩, ⟨z0, z1, z2, k1.kept hk h1, fun e => k2 (by rwa [upU_other u _ (show (3 : Nat) ≠ 2 by omega)] at e)⟩⟩
theorem fR_set1 (h : fR w0 R0 R1 I J W H x b m c f W2 H2 x2 b2 m2 c2 f2 u w) (hR : w0.heap.size ≤ R1) (h1 : R0 ≠ R1) (hI : I ≠ R1) (hJ : J ≠ R1) (hb : m = 0 ∨ b ≠ R1) (hb2 : m2 = 0 ∨ b2 ≠ R1) :
    fR w0 R0 R1 I J W H x b m c f W2 H2 x2 b2 m2 c2 f2 (upU u 3 (.bool true)) (((w.setCell ⟨R1, 0, none⟩ (.int .i64 W2)).setCell ⟨R1, 1, none⟩ (.int .i64 H2)).setCell ⟨R1, 2, none⟩ (.slice x2 m2 c2)) := by
  obtain ⟨v0, v1, v2, hx, -⟩ := h.res2
  obtain ⟨z0, z1, z2, k1, k2⟩ := h.res
  have hk : Kept R1 w (((w.setCell ⟨R1, 0, none⟩ (.int .i64 W2)).setCell ⟨R1, 1, none⟩ (.int .i64 H2)).setCell ⟨R1, 2, none⟩ (.slice x2 m2 c2)) := (((Kept.refl R1 w).setCell (a := ⟨R1, 0, none⟩) rfl _).setCell (a := ⟨R1, 1, none⟩) rfl _).setCell (a := ⟨R1, 2, none⟩) rfl _
  exact ⟨h.below.trans (hk.below hR h.below.size), OwV.keptO (x := (x, b, m, fun k => .int .i64 (f k))) h.ow.v hk (fun h0 => hb.resolve_left h0), OwV.keptO (x := (x2, b2, m2, fun k => .int .i64 (f2 k))) h.ow2.v hk (fun h0 => hb2.resolve_left h0), h.src.kept hk hI, h.src2.kept hk hJ, ⟨z0, z1, z2, k1.kept hk h1, fun e => k2 (by rwa [upU_other u _ (show (2 : Nat) ≠ 3 by omega)] at e)⟩, ⟨_, _, _, ((hx.set 0 (.int .i64 W2)).set 1 (.int .i64 H2)).set 2 (.slice x2 m2 c2), fun _ => ⟨rfl, rfl, rfl⟩⟩⟩
theorem fF_up (i : Nat) (v : Value) (j : Nat) (hj : j ≠ i) (hf : fF W H x m c W2 H2 x2 m2 c2 j u w) : fF W H x m c W2 H2 x2 m2 c2 j (upU u i v) w' := by
  obtain ⟨h0, h1, h2, h3⟩ := hf
  have up : ∀ k, j = k → upU u i v k = u k := fun k e => upU_other u v (by rw [← e]; exact hj)
  exact ⟨fun e => (up 0 e).trans (h0 e), fun e => (up 1 e).trans (h1 e), fun e => by rw [up 2 e]; exact h2 e, fun e => by rw [up 3 e]; exact h3 e⟩
end

set_option maxRecDepth 100000 in
set_option maxHeartbeats 4000000 in
theorem drawFold_any (a : Option Addr) (len cap : Nat) (w : World) (h : Bytes a len w) :
    Calls Try.prog 5 #[.slice a len cap] w (DFR w) := by
  have hB0 := bnew w (.cells #[.int .i64 0, .int .i64 0, .slice none 0 0] 26)
  have hB1 := bnext hB0 (Nat.le_refl _) (bnew _ (.cells #[.int .i64 0, .int .i64 0, .slice none 0 0] 26))
  have hX0 := (Bx.new [.int .i64 0, .int .i64 0, .slice none 0 0] 26 w).below (bnew _ (.cells #[.int .i64 0, .int .i64 0, .slice none 0 0] 26)) (by simp)
  have hX1 := Bx.new [.int .i64 0, .int .i64 0, .slice none 0 0] 26 (w.alloc (.cells #[.int .i64 0, .int .i64 0, .slice none 0 0] 26))
  have hz0 : (w.alloc (.cells #[.int .i64 0, .int .i64 0, .slice none 0 0] 26)).heap.size = w.heap.size + 1 := by simp
  rw [hz0] at hX1
  have HX0 := hide hX0
  have HX1 := hide hX1
  have HB := hide hB1
  have HBY0 := hide h
  have h1 := h.below hB1
  have HBY := hide h1
  have hz : ((w.alloc (.cells #[.int .i64 0, .int .i64 0, .slice none 0 0] 26)).alloc (.cells #[.int .i64 0, .int .i64 0, .slice none 0 0] 26)).heap.size = w.heap.size + 2 := by simp
  have HZ := hide hz
  clear h hB0 hB1 hX0 hX1 h1 hz
  go_enter Try.func5, Try.ntmps5
  go_upto_region 1 with fail
  try rw [hz0]
  clear hz0
  generalize hw1 : (w.alloc (.cells #[.int .i64 0, .int .i64 0, .slice none 0 0] 26)).alloc (.cells #[.int .i64 0, .int .i64 0, .slice none 0 0] 26) = w1 at *
  clear hw1
  have hn := new_any a len cap w1 HBY.out
  go_wp2_with fail
  refine hn.mono ?_
  rintro e w2 ⟨x, rfl, rfl⟩
  have hbc := bnew w1 (.cells #[.slice a len cap, .int .i64 0, .int .i64 x] 48)
  have hs1 := HZ.out
  have HD : Hid (DT (w.heap.size + 2) a len cap w (w1.alloc (.cells #[.slice a len cap, .int .i64 0, .int .i64 x] 48))) := by
    have hc := cur_new a len cap w1 HBY.out x
    rw [hs1] at hc
    exact ⟨hc, bnext HB.out (by omega) hbc, HX0.out.below hbc (by omega), HX1.out.below hbc (by omega), rfl, by simp; omega⟩
  have HAB : Hid (∀ wz, DT (w.heap.size + 2) a len cap w wz → len = 0 ∨ ∀ b off, a = some ⟨b, off, none⟩ → b < wz.heap.size) := fun wz hz => (bytes_lt HBY0.out (Nat.le_refl _)).imp id fun h b off e => by have := h b off e; have := hz.lt; omega
  try rw [hs1]
  clear hn hbc hs1 HX0 HX1 HB HBY HBY0
  obtain ⟨p, hp⟩ : ∃ p, p = w.heap.size + 2 := ⟨_, rfl⟩
  rw [← hp] at HD HAB ⊢
  have HP := hide hp
  clear hp
  go_upto_region 2 with fail
  generalize hw2 : w1.alloc (.cells #[.slice a len cap, .int .i64 0, .int .i64 x] 48) = w2 at *
  clear hw2 HZ
  have hd := below_any p a len cap _ HD.out.cur 5 (by omega) (by omega)
  go_wp2_with fail
  refine hd.mono ?_
  rintro e w3 ⟨y1, rfl, l1, u1, hc, hk⟩
  have HD3 := hide (HD.out.step hc hk)
  have e1 : IntKind.i64.wrap (1 + y1) = 1 + y1 := by rw [IntKind.wrap_i64]; omega
  clear hd hc hk HD
  have hd := below_any p a len cap _ HD3.out.cur 4 (by omega) (by omega)
  go_wp2_with fail
  refine hd.mono ?_
  rintro e w4 ⟨y2, rfl, l2, u2, hc, hk⟩
  have HD4 := hide (HD3.out.step hc hk)
  have e2 : IntKind.i64.wrap (1 + y2) = 1 + y2 := by rw [IntKind.wrap_i64]; omega
  have e3 : IntKind.i64.wrap (2 * (1 + y2)) = 2 * (1 + y2) := by rw [IntKind.wrap_i64]; omega
  have e4 : IntKind.i64.wrap (2 * (1 + y2) + 1) = 2 * (1 + y2) + 1 := by rw [IntKind.wrap_i64]; omega
  have HY : Hid (0 ≤ y1 ∧ y1 ≤ 4 ∧ 0 ≤ y2 ∧ y2 ≤ 3) := by show _ ∧ _; omega
  clear hd hc hk HD3 l1 u1 l2 u2
  have hd := once_any p a len cap _ HD4.out.cur 12 (by omega) (by omega)
  go_wp2_with fail
  refine hd.mono ?_
  rintro e w5 ⟨q, rfl, hc, hk⟩
  have HD5 := hide (HD4.out.step hc hk)
  clear hd hc hk HD4
  go_upto_if 19 with fail
  go_cut [6] (fun s wc => ∃ H : Int, s = .int .i64 H ∧ 1 ≤ H ∧ H ≤ 9 ∧ DT p a len cap w wc)
  case first =>
    cases q
    · go_wp2_with fail
      go_meet
      exact ⟨_, rfl, by have := HY.out; omega, by have := HY.out; omega, HD5.out⟩
    · go_wp2_with fail
      go_meet
      exact ⟨_, rfl, by have := HY.out; omega, by have := HY.out; omega, HD5.out⟩
  case rest =>
  obtain ⟨H, rfl, lH, uH, hD⟩ := hcut
  have HD6 := hide hD
  clear hD HD5 e2 e3 e4
  obtain ⟨n, hn, hn1, hn2⟩ : ∃ n : Nat, (1 + y1) * H = (n : Int) ∧ 0 < n ∧ n ≤ 64 := by
    have hy := HY.out
    have h1 : 0 < (1 + y1) * H := Int.mul_pos (by omega) (by omega)
    have h2 : (1 + y1) * H ≤ 5 * 9 := Int.mul_le_mul (by omega) (by omega) (by omega) (by omega)
    exact ⟨((1 + y1) * H).toNat, by omega, by omega, by omega⟩
  generalize 1 + y1 = W at *
  clear HY lH uH
  have hcI := fun lo hi wz (hz : DT p a len cap w wz) => drawImage_any p a len cap W H lo hi n hn (by omega) wz hz.cur hz.lt (HAB.out wz hz)
  have HCI := hide hcI
  clear hcI hn
  have hd := HCI.out (-9) 20000 wc HD6.out
  go_wp2_with fail
  refine hd.mono ?_
  rintro e w7 ⟨o, f, rfl, hr, ho, hc, hk⟩
  have HD7 := hide (HD6.out.step hc hk)
  have hol : o < w7.heap.size := World.block_lt_of_cell? w7 _ (hr 0 hn1).1
  have hb8 := bnew w7 (.cells #[.int .i64 W, .int .i64 H, .slice (some ⟨o, 0, none⟩) n n] 26)
  have HI8 : Hid (Bx w7.heap.size [.int .i64 W, .int .i64 H, .slice (some ⟨o, 0, none⟩) n n] (w7.alloc (.cells #[.int .i64 W, .int .i64 H, .slice (some ⟨o, 0, none⟩) n n] 26))) := Bx.new [.int .i64 W, .int .i64 H, .slice (some ⟨o, 0, none⟩) n n] _ _
  have HD8 := hide (HD7.out.step (HD7.out.cur.below hb8) (Kept.of_below hb8))
  have HR8 := hide (hr.below hb8 hol)
  have HN8 : Hid (p < o ∧ o < w7.heap.size ∧ w7.heap.size < (w7.alloc (.cells #[.int .i64 W, .int .i64 H, .slice (some ⟨o, 0, none⟩) n n] 26)).heap.size) := ⟨by have := HD6.out.lt; omega, hol, by simp⟩
  clear hd hc hk hr ho hol hb8 HD6 HD7
  go_upto_region 7 with fail
  generalize hw8 : w7.alloc (.cells #[.int .i64 W, .int .i64 H, .slice (some ⟨o, 0, none⟩) n n] 26) = w8 at *
  clear hw8
  generalize w7.heap.size = I at *
  have hd := HCI.out (-9) 300 w8 HD8.out
  go_wp2_with fail
  refine hd.mono ?_
  rintro e w9 ⟨o2, f2, rfl, hr, ho, hc, hk⟩
  have hs9 := hk.size
  have hpI := HN8.out
  have HD9 := hide (HD8.out.step hc hk)
  have hol : o2 < w9.heap.size := World.block_lt_of_cell? w9 _ (hr 0 hn1).1
  have hb8 := bnew w9 (.cells #[.int .i64 W, .int .i64 H, .slice (some ⟨o2, 0, none⟩) n n] 26)
  have HJA : Hid (Bx w9.heap.size [.int .i64 W, .int .i64 H, .slice (some ⟨o2, 0, none⟩) n n] (w9.alloc (.cells #[.int .i64 W, .int .i64 H, .slice (some ⟨o2, 0, none⟩) n n] 26))) := Bx.new [.int .i64 W, .int .i64 H, .slice (some ⟨o2, 0, none⟩) n n] _ _
  have HDA := hide (HD9.out.step (HD9.out.cur.below hb8) (Kept.of_below hb8))
  have HSA := hide (hr.below hb8 hol)
  have HIA := hide ((HI8.out.kept hk (by omega)).below hb8 (by omega))
  have HRA := hide ((HR8.out.kept hk (by omega)).below hb8 (by omega))
  have HNA : Hid (p < o ∧ o < I ∧ I < o2 ∧ o2 < w9.heap.size ∧ w9.heap.size < (w9.alloc (.cells #[.int .i64 W, .int .i64 H, .slice (some ⟨o2, 0, none⟩) n n] 26)).heap.size) := ⟨hpI.1, hpI.2.1, by omega, hol, by simp⟩
  clear hd hc hk hr ho hol hb8 HD8 HD9 HI8 HR8 HN8 hs9 hpI HCI
  go_upto_region 8 with fail
  generalize hwA : w9.alloc (.cells #[.int .i64 W, .int .i64 H, .slice (some ⟨o2, 0, none⟩) n n] 26) = wA at *
  clear hwA
  generalize w9.heap.size = J at *
  have hd := once_any p a len cap _ HDA.out.cur 12 (by omega) (by omega)
  go_wp2_with fail
  refine hd.mono ?_
  rintro e wB ⟨q2, rfl, hc, hk⟩
  have hnA := HNA.out
  have HDB := hide (HDA.out.step hc hk)
  have HJB := hide (HJA.out.kept hk (by omega))
  have HIB := hide (HIA.out.kept hk (by omega))
  have HRB := hide (HRA.out.kept hk (by omega))
  have HSB := hide (HSA.out.kept hk (by omega))
  have HNB : Hid (p < o ∧ o < I ∧ I < o2 ∧ o2 < J ∧ J < wB.heap.size) := ⟨hnA.1, hnA.2.1, hnA.2.2.1, hnA.2.2.2.1, Nat.lt_of_lt_of_le hnA.2.2.2.2 hk.size⟩
  clear hd hc hk HDA HJA HIA HRA HSA HNA hnA
  go_upto_if 31 with fail
  go_cut [] (fun wc => ∃ (W' H' : Int) (x' : Option Addr) (b' m' c' : Nat) (f' : Nat → Int), m' ≤ 65 ∧ fR w (w.heap.size) (w.heap.size + 1) I J W H (some ⟨o, 0, none⟩) o n n f W' H' x' b' m' c' f' (fun _ => undef) wc ∧ (m' = 0 ∨ p < b'))
  case first =>
    have hnB := HNB.out
    cases q2
    · have HF : Hid (fR w (w.heap.size) (w.heap.size + 1) I J W H (some ⟨o, 0, none⟩) o n n f W H (some ⟨o2, 0, none⟩) o2 n n f2 (fun _ => undef) wB) :=
        ⟨HDB.out.below, .inr ⟨rfl, HRB.out⟩, .inr ⟨rfl, HSB.out⟩, HIB.out, HJB.out, ⟨_, _, _, HDB.out.r0, fun h => absurd rfl h⟩, ⟨_, _, _, HDB.out.r1, fun h => absurd rfl h⟩⟩
      go_wp2_with fail
      go_meet
      exact ⟨W, H, _, o2, n, n, f2, by omega, HF.out, .inr (by omega)⟩
    · have cS := spoil_any p a len cap W H o2 n n f2 (by omega) hn1 wB HDB.out.cur HDB.out.lt (HAB.out _ HDB.out) HSB.out (by omega)
      obtain ⟨b0, p0⟩ := HJB.out 0 _ rfl
      obtain ⟨b1, p1⟩ := HJB.out 1 _ rfl
      obtain ⟨b2, p2⟩ := HJB.out 2 _ rfl
      go_wp2_with fail
      refine cS.mono ?_
      rintro e wC ⟨W', H', x', b', m', c', f', rfl, hm', ho', hb', hc, hk⟩
      have hX : m' = 0 ∨ (p < b' ∧ b' ≠ J) := by
        rcases hb' with h | ⟨h | h, h2⟩
        · exact .inl h
        · exact .inr ⟨by omega, by omega⟩
        · exact .inr ⟨by have := HDB.out.lt; omega, by omega⟩
      have hDC := HDB.out.step hc hk
      have hJC := HJB.out.kept hk (by omega)
      have HJC := hide hJC
      have hkJ : Kept J wC (((wC.setCell ⟨J, 0, none⟩ (.int .i64 W')).setCell ⟨J, 1, none⟩ (.int .i64 H')).setCell ⟨J, 2, none⟩ (.slice x' m' c')) := (((Kept.refl J wC).setCell (a := ⟨J, 0, none⟩) rfl _).setCell (a := ⟨J, 1, none⟩) rfl _).setCell (a := ⟨J, 2, none⟩) rfl _
      have hpq := HP.out
      have HF : Hid (fR w (w.heap.size) (w.heap.size + 1) I J W H (some ⟨o, 0, none⟩) o n n f W' H' x' b' m' c' f' (fun _ => undef) (((wC.setCell ⟨J, 0, none⟩ (.int .i64 W')).setCell ⟨J, 1, none⟩ (.int .i64 H')).setCell ⟨J, 2, none⟩ (.slice x' m' c'))) :=
        ⟨hDC.below.trans (hkJ.below (by omega) hDC.below.size), .inr ⟨rfl, (HRB.out.kept hk (by omega)).kept hkJ (by omega)⟩, OwV.keptO (x := (x', b', m', fun k => .int .i64 (f' k))) ho'.v hkJ (fun h0 => (hX.resolve_left h0).2), (HIB.out.kept hk (by omega)).kept hkJ (by omega), ((hJC.set 0 (.int .i64 W')).set 1 (.int .i64 H')).set 2 (.slice x' m' c'), ⟨_, _, _, hDC.r0.kept hkJ (by omega), fun h => absurd rfl h⟩, ⟨_, _, _, hDC.r1.kept hkJ (by omega), fun h => absurd rfl h⟩⟩
      have HX := hide hX
      have HM : Hid (m' ≤ 65) := by show _ ≤ _; omega
      clear cS hc hk b0 p0 b1 p1 b2 p2 hX ho' hDC hJC hkJ hpq hnB hm' hb'
      obtain ⟨b0, p0⟩ := HJC.out 0 _ rfl
      obtain ⟨b1, p1⟩ := HJC.out 1 _ rfl
      obtain ⟨b2, p2⟩ := HJC.out 2 _ rfl
      go_wp2_with fail
      go_meet
      exact ⟨W', H', x', b', m', c', f', HM.out, HF.out, HX.out.imp id fun h => h.1⟩
  case rest =>
  obtain ⟨W', H', x', b', m', c', f', hm', hF', hX'⟩ := hcut
  have HF' := hide hF'
  have HM : Hid (m' ≤ 65 ∧ n ≤ 64) := ⟨hm', hn2⟩
  have HQ : Hid (∀ R, R ≤ w.heap.size + 1 → I ≠ R ∧ J ≠ R ∧ (n = 0 ∨ o ≠ R) ∧ (m' = 0 ∨ b' ≠ R)) := fun R hR => by
    have h1 := HNB.out
    have h2 := HP.out
    refine ⟨by omega, by omega, .inr (by omega), hX'.imp id fun h => by omega⟩
  clear hF' hm' hX' HDB HJB HIB HRB HSB HNB HP hn1 hn2
  go_upto_region 10 with fail
  obtain ⟨R0, hR0⟩ : ∃ R, R = w.heap.size := ⟨_, rfl⟩
  obtain ⟨R1, hR1⟩ : ∃ R, R = w.heap.size + 1 := ⟨_, rfl⟩
  rw [← hR1, ← hR0] at HF'
  have hI0 : I ≠ R0 := (HQ.out R0 (by omega)).1
  have hI1 : I ≠ R1 := (HQ.out R1 (by omega)).1
  have hJ0 : J ≠ R0 := (HQ.out R0 (by omega)).2.1
  have hJ1 : J ≠ R1 := (HQ.out R1 (by omega)).2.1
  have HS0 : Hid ((n = 0 ∨ o ≠ R0) ∧ (m' = 0 ∨ b' ≠ R0) ∧ w.heap.size ≤ R0 ∧ R1 ≠ R0) := ⟨(HQ.out R0 (by omega)).2.2.1, (HQ.out R0 (by omega)).2.2.2, by omega, by omega⟩
  have HS1 : Hid ((n = 0 ∨ o ≠ R1) ∧ (m' = 0 ∨ b' ≠ R1) ∧ w.heap.size ≤ R1 ∧ R0 ≠ R1) := ⟨(HQ.out R1 (by omega)).2.2.1, (HQ.out R1 (by omega)).2.2.2, by omega, by omega⟩
  rw [← hR1, ← hR0]
  clear HQ hR0 hR1
  refine region_opsV (fR w R0 R1 I J W H (some ⟨o, 0, none⟩) o n n f W' H' x' b' m' c' f') (fF W H (some ⟨o, 0, none⟩) n n W' H' x' m' c') (by kernel_rfl) (by kernel_rfl) (by kernel_rfl) (by kernel_rfl) ?_ ?_ ?_
  · have h := HF'.out
    obtain ⟨v0, v1, v2, h1, -⟩ := h.res
    obtain ⟨z0, z1, z2, h2, -⟩ := h.res2
    have hk := (Kept.refl w.heap.size wc).drewN 1
    exact ⟨h.below.drew, h.ow.below' (Below.refl _ _).drew, h.ow2.below' (Below.refl _ _).drew, h.src.below (Below.refl _ _).drew (Nat.lt_succ_self _), h.src2, ⟨v0, v1, v2, h1, fun h => absurd (by kernel_rfl) h⟩, ⟨z0, z1, z2, h2, fun h => absurd (by kernel_rfl) h⟩⟩
  · refine ⟨?_, ?_, ?_, ?_, trivial⟩
    · intro u w21 au hsl hel hu hF hp' K hK
      have t7 : au.tmps[7]?.getD undef = .pointer (some ⟨I, 0, none⟩) := (hel.out 7 (by kernel_rfl)).trans (by kernel_rfl)
      obtain ⟨i0, -⟩ := hF.src 0 _ rfl
      obtain ⟨i1, -⟩ := hF.src 1 _ rfl
      obtain ⟨i2, -⟩ := hF.src 2 _ rfl
      refine step_plain rfl ?_
      go_simp
      exact hK.out (im W H (some ⟨o, 0, none⟩) n n) _ (fR_up hF 0 (by omega) _) ⟨fun _ => upU_same _ _ _, fun e => absurd e (by omega), fun e => absurd e (by omega), fun e => absurd e (by omega)⟩ (fun j hj hf h => fF_up 0 _ j hj h)
    · intro u w21 au hsl hel hu hF hp' K hK
      have t8 : au.tmps[8]?.getD undef = .pointer (some ⟨J, 0, none⟩) := (hel.out 8 (by kernel_rfl)).trans (by kernel_rfl)
      obtain ⟨i0, -⟩ := hF.src2 0 _ rfl
      obtain ⟨i1, -⟩ := hF.src2 1 _ rfl
      obtain ⟨i2, -⟩ := hF.src2 2 _ rfl
      refine step_plain rfl ?_
      go_simp
      exact hK.out (im W' H' x' m' c') _ (fR_up hF 1 (by omega) _) ⟨fun e => absurd e (by omega), fun _ => upU_same _ _ _, fun e => absurd e (by omega), fun e => absurd e (by omega)⟩ (fun j hj hf h => fF_up 1 _ j hj h)
    · intro u w21 au hsl hel hu hF hp' K hK
      have h0 : u 0 = im W H (some ⟨o, 0, none⟩) n n := (PreF.get hp' 0 (by kernel_rfl)).1 rfl
      have t35 : au.tmps[35]?.getD undef = u 0 := hsl.out 0 35 (by kernel_rfl)
      rw [h0] at t35
      have t2 : au.tmps[2]?.getD undef = .pointer (some ⟨R0, 0, none⟩) := (hel.out 2 (by kernel_rfl)).trans (by kernel_rfl)
      obtain ⟨v0, v1, v2, hx, -⟩ := hF.res
      obtain ⟨r0, s0⟩ := hx 0 _ rfl
      obtain ⟨r1, s1⟩ := hx 1 _ rfl
      obtain ⟨r2, s2⟩ := hx 2 _ rfl
      have HS := hide (fR_set0 hF HS0.out.2.2.1 HS0.out.2.2.2 hI0 hJ0 HS0.out.1 HS0.out.2.1)
      clear hx
      refine step_plain rfl ?_
      go_simp
      exact hK.out (.bool true) _ HS.out ⟨fun e => absurd e (by omega), fun e => absurd e (by omega), fun _ => by rw [upU_same]; simp [undef], fun e => absurd e (by omega)⟩ (fun j hj hf h => fF_up 2 _ j hj h)
    · intro u w21 au hsl hel hu hF hp' K hK
      have h0 : u 1 = im W' H' x' m' c' := (PreF.get hp' 1 (by kernel_rfl)).2.1 rfl
      have t36 : au.tmps[36]?.getD undef = u 1 := hsl.out 1 36 (by kernel_rfl)
      rw [h0] at t36
      have t3 : au.tmps[3]?.getD undef = .pointer (some ⟨R1, 0, none⟩) := (hel.out 3 (by kernel_rfl)).trans (by kernel_rfl)
      obtain ⟨v0, v1, v2, hx, -⟩ := hF.res2
      obtain ⟨r0, s0⟩ := hx 0 _ rfl
      obtain ⟨r1, s1⟩ := hx 1 _ rfl
      obtain ⟨r2, s2⟩ := hx 2 _ rfl
      have HS := hide (fR_set1 hF HS1.out.2.2.1 HS1.out.2.2.2 hI1 hJ1 HS1.out.1 HS1.out.2.1)
      clear hx
      refine step_plain rfl ?_
      go_simp
      exact hK.out (.bool true) _ HS.out ⟨fun e => absurd e (by omega), fun e => absurd e (by omega), fun e => absurd e (by omega), fun _ => by rw [upU_same]; simp [undef]⟩ (fun j hj hf h => fF_up 3 _ j hj h)
  · intro u w30 hF hall
    obtain ⟨v0, v1, v2, hx, hv⟩ := hF.res
    obtain ⟨rfl, rfl, rfl⟩ := hv ((hall 2 (by decide)).2.2.1 rfl)
    obtain ⟨z0, z1, z2, hy, hz⟩ := hF.res2
    obtain ⟨rfl, rfl, rfl⟩ := hz ((hall 3 (by decide)).2.2.2 rfl)
    have HF : Hid (DFR w (.returned (.tuple #[im W H (some ⟨o, 0, none⟩) n n, im W' H' x' m' c'])) w30) := ⟨W, H, _, n, n, f, W', H', x', m', c', f', rfl, HM.out.2, HM.out.1, hF.ow.px, hF.ow2.px, hF.below⟩
    obtain ⟨q0, -⟩ := hx 0 _ rfl
    obtain ⟨q1, -⟩ := hx 1 _ rfl
    obtain ⟨q2, -⟩ := hx 2 _ rfl
    obtain ⟨q3, -⟩ := hy 0 _ rfl
    obtain ⟨q4, -⟩ := hy 1 _ rfl
    obtain ⟨q5, -⟩ := hy 2 _ rfl
    clear hall hF hx hy hv hz HF' HS0 HS1
    simp only [rgPut, Act.put]
    go_simp
    go_wp2_with fail
    exact bodyPost_ret (v := .tuple #[im W H (some ⟨o, 0, none⟩) n n, im W' H' x' m' c']) (by simp [results, Try.results5, go_sem, q0, q1, q2, q3, q4, q5]) rfl HF.out

end Go.Proofs.Ytpeocbhnnpppjaa

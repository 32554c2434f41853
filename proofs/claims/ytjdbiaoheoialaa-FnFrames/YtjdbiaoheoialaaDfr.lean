/- Two frames are drawn. -/
import Derived.Test.YtjdbiaoheoialaaDfq
namespace Go.Proofs.Ytjdbiaoheoialaa
open Go.RowKit

/-- two frames are drawn -/
def DCR (w : World) (e : Ending) (w' : World) : Prop :=
  ∃ (D : Int) (x0 : Option Addr) (n0 c0 : Nat) (M : Nat → Int) (x1 : Option Addr) (n1 c1 : Nat) (T : Nat → Int) (E : Int) (y0 : Option Addr) (m0 d0 : Nat) (L : Nat → Int) (y1 : Option Addr) (m1 d1 : Nat) (S : Nat → Int), e = .returned (.tuple #[vFrame D x0 n0 c0 x1 n1 c1, vFrame E y0 m0 d0 y1 m1 d1]) ∧ (n0 ≤ 9 ∧ n1 ≤ 9 ∧ m0 ≤ 9 ∧ m1 ≤ 9) ∧ Px x0 n0 M w' ∧ Px x1 n1 T w' ∧ Px y0 m0 L w' ∧ Px y1 m1 S w' ∧ Below w.heap.size w w'
/-- what holds of the lists -/
def Q4w (wB : World) (x0 : Option Addr) (n0 q0 : Nat) (M : Nat → Int) (x1 : Option Addr) (n1 q1 : Nat) (T : Nat → Int) (y0 : Option Addr) (m0 r0 : Nat) (L : Nat → Int) (y1 : Option Addr) (m1 r1 : Nat) (S : Nat → Int) (w : World) : Prop :=
  (Ow x0 q0 n0 M w ∧ Ow x1 q1 n1 T w ∧ Ow y0 r0 m0 L w ∧ Ow y1 r1 m1 S w) ∧ ((n0 = 0 ∨ wB.heap.size ≤ q0) ∧ (n1 = 0 ∨ wB.heap.size ≤ q1) ∧ (m0 = 0 ∨ wB.heap.size ≤ r0) ∧ (m1 = 0 ∨ wB.heap.size ≤ r1))
theorem Q4w.far {wB : World} {x0 : Option Addr} {n0 q0 : Nat} {M : Nat → Int} {x1 : Option Addr} {n1 q1 : Nat} {T : Nat → Int} {y0 : Option Addr} {m0 r0 : Nat} {L : Nat → Int} {y1 : Option Addr} {m1 r1 : Nat} {S : Nat → Int} {w : World} (h : Q4w wB x0 n0 q0 M x1 n1 q1 T y0 m0 r0 L y1 m1 r1 S w) {R : Nat} (hR : R < wB.heap.size) (u0 u1 u2 : Value) : Q4w wB x0 n0 q0 M x1 n1 q1 T y0 m0 r0 L y1 m1 r1 S (((w.setCell ⟨R, 0, none⟩ u0).setCell ⟨R, 1, none⟩ u1).setCell ⟨R, 2, none⟩ u2) := by
  obtain ⟨⟨a, b, c, d⟩, ⟨e, f, g, i⟩⟩ := h
  exact ⟨⟨a.setF (e.imp id fun h => by omega) _ _ _, b.setF (f.imp id fun h => by omega) _ _ _, c.setF (g.imp id fun h => by omega) _ _ _, d.setF (i.imp id fun h => by omega) _ _ _⟩, ⟨e, f, g, i⟩⟩
theorem Q4w.px {wB : World} {x0 : Option Addr} {n0 q0 : Nat} {M : Nat → Int} {x1 : Option Addr} {n1 q1 : Nat} {T : Nat → Int} {y0 : Option Addr} {m0 r0 : Nat} {L : Nat → Int} {y1 : Option Addr} {m1 r1 : Nat} {S : Nat → Int} {w : World} (h : Q4w wB x0 n0 q0 M x1 n1 q1 T y0 m0 r0 L y1 m1 r1 S w) : Px x0 n0 M w ∧ Px x1 n1 T w ∧ Px y0 m0 L w ∧ Px y1 m1 S w := ⟨h.1.1.px, h.1.2.1.px, h.1.2.2.1.px, h.1.2.2.2.px⟩
/-- two values are put into the boxes of the results, in either order: what stays -/
def eR (w0 : World) (R1 : Nat) (v5 v6 : List Value) (X Y : Nat) (Q : World → Prop) (_ : Nat → Value) (w : World) : Prop :=
  Below w0.heap.size w0 w ∧ Q w ∧ Bx X v5 w ∧ Bx Y v6 w ∧ (∃ q0 q1 q2, Bx w0.heap.size [q0, q1, q2] w) ∧ (∃ q0 q1 q2, Bx R1 [q0, q1, q2] w)
/-- what each operation leaves -/
def eF (w0 : World) (R1 : Nat) (v5 v6 : List Value) (V5 V6 : Value) (j : Nat) (u : Nat → Value) (w : World) : Prop :=
  (j = 0 → u 0 = V5) ∧ (j = 1 → u 1 = V6) ∧ (j = 2 → Bx w0.heap.size v5 w) ∧ (j = 3 → Bx R1 v6 w)
theorem eF_up {w0 : World} {R1 : Nat} {v5 v6 : List Value} {V5 V6 : Value} {u : Nat → Value} {w : World} (i : Nat) (v : Value) (j : Nat) (hj : j ≠ i) (h : eF w0 R1 v5 v6 V5 V6 j u w) : eF w0 R1 v5 v6 V5 V6 j (upU u i v) w := by
  obtain ⟨h1, h2, h3, h4⟩ := h
  refine ⟨fun e => ?_, fun e => ?_, h3, h4⟩
  · rw [upU_other u v (by omega)]; exact h1 e
  · rw [upU_other u v (by omega)]; exact h2 e
theorem eF_st {w0 : World} {R1 : Nat} {v5 v6 : List Value} {V5 V6 : Value} {u : Nat → Value} {w : World} {R : Nat} (i : Nat) (v : Value) (j : Nat) (hj : j ≠ i) (h2 : j = 2 → w0.heap.size ≠ R) (h3 : j = 3 → R1 ≠ R) (u0 u1 u2 : Value) (h : eF w0 R1 v5 v6 V5 V6 j u w) : eF w0 R1 v5 v6 V5 V6 j (upU u i v) (((w.setCell ⟨R, 0, none⟩ u0).setCell ⟨R, 1, none⟩ u1).setCell ⟨R, 2, none⟩ u2) := by
  obtain ⟨g1, g2, g3, g4⟩ := h
  refine ⟨fun e => ?_, fun e => ?_, fun e => (g3 e).farF (h2 e) _ _ _, fun e => (g4 e).farF (h3 e) _ _ _⟩
  · rw [upU_other u v (by omega)]; exact g1 e
  · rw [upU_other u v (by omega)]; exact g2 e
theorem bytes_ltF {a : Option Addr} {len : Nat} {w : World} (h : Bytes a len w) {B : Nat} (hB : w.heap.size ≤ B) : len = 0 ∨ ∀ b off, a = some ⟨b, off, none⟩ → b < B := by
  by_cases h0 : len = 0
  · exact .inl h0
  · refine .inr fun b off e => ?_
    rcases h.2 with h1 | ⟨b', off', ha, hb⟩
    · exact absurd h1 h0
    · obtain ⟨z, _, _, hz⟩ := hb 0 (by omega)
      rw [e] at ha
      cases ha
      exact Nat.lt_of_lt_of_le (World.block_lt_of_cell? w _ hz) hB
/-- both frames in their boxes -/
def JCf (w wp : World) (X Y : Nat) (wc : World) : Prop :=
  ∃ (D : Int) (x0 : Option Addr) (n0 c0 q0 : Nat) (M : Nat → Int) (x1 : Option Addr) (n1 c1 q1 : Nat) (T : Nat → Int) (E : Int) (y0 : Option Addr) (m0 d0 r0 : Nat) (L : Nat → Int) (y1 : Option Addr) (m1 d1 r1 : Nat) (S : Nat → Int), (n0 ≤ 9 ∧ n1 ≤ 9 ∧ m0 ≤ 9 ∧ m1 ≤ 9) ∧ Q4w wp x0 n0 q0 M x1 n1 q1 T y0 m0 r0 L y1 m1 r1 S wc ∧ Bx X [.slice x0 n0 c0, .slice x1 n1 c1, .int .i64 D] wc ∧ Bx Y [.slice y0 m0 d0, .slice y1 m1 d1, .int .i64 E] wc ∧ Bx w.heap.size [.slice none 0 0, .slice none 0 0, .int .i64 0] wc ∧ Bx (w.heap.size + 1) [.slice none 0 0, .slice none 0 0, .int .i64 0] wc ∧ Below w.heap.size w wc

set_option maxRecDepth 100000 in
set_option maxHeartbeats 8000000 in
theorem drawCompose_any (a : Option Addr) (len cap : Nat) (w : World) (h : Bytes a len w) :
    Calls Try.prog 5 #[.slice a len cap] w (DCR w) := by
  have hsz1 : (w.alloc (.cells #[.slice none 0 0, .slice none 0 0, .int .i64 0] 26)).heap.size = w.heap.size + 1 := by simp
  have hb := bnext (bnew w (.cells #[.slice none 0 0, .slice none 0 0, .int .i64 0] 26)) (Nat.le_refl _) (bnew _ (.cells #[.slice none 0 0, .slice none 0 0, .int .i64 0] 26))
  have HX : Hid (Bx w.heap.size [.slice none 0 0, .slice none 0 0, .int .i64 0] ((w.alloc (.cells #[.slice none 0 0, .slice none 0 0, .int .i64 0] 26)).alloc (.cells #[.slice none 0 0, .slice none 0 0, .int .i64 0] 26))) := (Bx.new [.slice none 0 0, .slice none 0 0, .int .i64 0] 26 w).below (bnew _ _) (by rw [hsz1]; omega)
  have HX' : Hid (Bx (w.heap.size + 1) [.slice none 0 0, .slice none 0 0, .int .i64 0] ((w.alloc (.cells #[.slice none 0 0, .slice none 0 0, .int .i64 0] 26)).alloc (.cells #[.slice none 0 0, .slice none 0 0, .int .i64 0] 26))) := by
    have h := Bx.new [.slice none 0 0, .slice none 0 0, .int .i64 0] 26 (w.alloc (.cells #[.slice none 0 0, .slice none 0 0, .int .i64 0] 26))
    rw [hsz1] at h
    exact h
  have hz : ((w.alloc (.cells #[.slice none 0 0, .slice none 0 0, .int .i64 0] 26)).alloc (.cells #[.slice none 0 0, .slice none 0 0, .int .i64 0] 26)).heap.size = w.heap.size + 2 := by simp
  have HB := hide hb
  have HBY := hide (h.below hb)
  clear h hb hsz1
  have hn := new_any a len cap _ HBY.out
  go_enter Try.func5, Try.ntmps5
  go_upto_region 1 with fail
  generalize hw1 : (w.alloc (.cells #[.slice none 0 0, .slice none 0 0, .int .i64 0] 26)).alloc (.cells #[.slice none 0 0, .slice none 0 0, .int .i64 0] 26) = w1 at *
  clear hw1
  go_wp2_with fail
  refine hn.mono ?_
  rintro e w2 ⟨xx, rfl, rfl⟩
  have HC := hide (cur_new a len cap w1 HBY.out xx)
  have HB2 := hide (bnew w1 (.cells #[.slice a len cap, .int .i64 0, .int .i64 xx] 63))
  have hz2 : (w1.alloc (.cells #[.slice a len cap, .int .i64 0, .int .i64 xx] 63)).heap.size = w1.heap.size + 1 := by simp
  have HAB1 : Hid (len = 0 ∨ ∀ b off, a = some ⟨b, off, none⟩ → b < (w1.alloc (.cells #[.slice a len cap, .int .i64 0, .int .i64 xx] 63)).heap.size) := bytes_ltF HBY.out (by omega)
  have HX2 := hide (HX.out.below HB2.out (by omega))
  have HX2' := hide (HX'.out.below HB2.out (by omega))
  have HP1 : Hid (w1.heap.size < (w1.alloc (.cells #[.slice a len cap, .int .i64 0, .int .i64 xx] 63)).heap.size) := by show _ < _; omega
  have HBW : Hid (Below w.heap.size w (w1.alloc (.cells #[.slice a len cap, .int .i64 0, .int .i64 xx] 63))) := HB.out.trans (HB2.out.mono (by omega))
  have HR : Hid (w.heap.size + 2 = w1.heap.size) := hz.symm
  clear hn HX HX' HBY HB HB2 hz2 hz
  go_upto_region 2 with fail
  generalize w1.alloc (.cells #[.slice a len cap, .int .i64 0, .int .i64 xx] 63) = wp at *
  generalize w1.heap.size = p at *
  have hG := l7DrawAny_any p a len cap wp HC.out HP1.out HAB1.out
  go_wp2_with fail
  refine hG.mono ?_
  rintro e w3 ⟨D, x0, n0, c0, q0, M, x1, n1, c1, q1, T, rfl, k0, k1, o0, o1, f0, f1, hc, hk⟩
  have HW := hide (bnew w3 (.cells #[.slice x0 n0 c0, .slice x1 n1 c1, .int .i64 D] 26))
  have HBx := hide (Bx.new [.slice x0 n0 c0, .slice x1 n1 c1, .int .i64 D] 26 w3)
  have HC4 := hide (hc.below HW.out)
  have HK4 := hide (hk.trans (Kept.of_below HW.out))
  have HO0 := hide (o0.below' HW.out)
  have HO1 := hide (o1.below' HW.out)
  have HN := hide (And.intro k0 (And.intro k1 (And.intro f0 f1)))
  have HXL : Hid (wp.heap.size ≤ w3.heap.size ∧ w3.heap.size < (w3.alloc (.cells #[.slice x0 n0 c0, .slice x1 n1 c1, .int .i64 D] 26)).heap.size) := ⟨hk.size, by simp⟩
  clear hG hc hk o0 o1 k0 k1 f0 f1 HC
  go_upto_region 3 with fail
  generalize w3.alloc (.cells #[.slice x0 n0 c0, .slice x1 n1 c1, .int .i64 D] 26) = w4 at *
  generalize w3.heap.size = X at *
  have HBx' : Hid (Bx X [.slice x0 n0 c0, .slice x1 n1 c1, .int .i64 D] w4) := HBx.out
  clear HBx HW
  have hs4 := HK4.out.size
  have HZ0 : Hid (n0 = 0 ∨ q0 < w4.heap.size) := HO0.out.ltF
  have HZ1 : Hid (n1 = 0 ∨ q1 < w4.heap.size) := HO1.out.ltF
  have hG := l7DrawAny_any p a len cap w4 HC4.out (by have := HP1.out; omega) (HAB1.out.imp id fun h b off e => by have := h b off e; omega)
  clear hs4
  go_wp2_with fail
  refine hG.mono ?_
  rintro e w5 ⟨E, y0, m0, d0, r0, L, y1, m1, d1, r1, S, rfl, k0, k1, o0, o1, f0, f1, hc, hk⟩
  have hpp := HP1.out
  have hxl := HXL.out
  have hnn := HN.out
  have HW := hide (bnew w5 (.cells #[.slice y0 m0 d0, .slice y1 m1 d1, .int .i64 E] 26))
  have HBy := hide (Bx.new [.slice y0 m0 d0, .slice y1 m1 d1, .int .i64 E] 26 w5)
  have HC6 := hide (hc.below HW.out)
  have HK6 := hide ((HK4.out.trans hk).trans (Kept.of_below HW.out))
  have HQ6 : Hid (Q4w wp x0 n0 q0 M x1 n1 q1 T y0 m0 r0 L y1 m1 r1 S (w5.alloc (.cells #[.slice y0 m0 d0, .slice y1 m1 d1, .int .i64 E] 26))) :=
    ⟨⟨(HO0.out.keptF hk (hnn.2.2.1.imp id fun h => by omega)).below' HW.out, (HO1.out.keptF hk (hnn.2.2.2.imp id fun h => by omega)).below' HW.out, o0.below' HW.out, o1.below' HW.out⟩, ⟨hnn.2.2.1, hnn.2.2.2, f0.imp id fun h => by have := HK4.out.size; omega, f1.imp id fun h => by have := HK4.out.size; omega⟩⟩
  have HBX6 := hide ((HBx'.out.kept hk (by omega)).below HW.out (by have := hk.size; omega))
  have HNN : Hid (n0 ≤ 9 ∧ n1 ≤ 9 ∧ m0 ≤ 9 ∧ m1 ≤ 9) := ⟨hnn.1, hnn.2.1, k0, k1⟩
  have HYQ0 : Hid (n0 = 0 ∨ w5.heap.size ≠ q0) := HZ0.out.imp id fun h => by have := hk.size; omega
  have HYQ1 : Hid (n1 = 0 ∨ w5.heap.size ≠ q1) := HZ1.out.imp id fun h => by have := hk.size; omega
  have HYL : Hid (X < w5.heap.size ∧ w5.heap.size < (w5.alloc (.cells #[.slice y0 m0 d0, .slice y1 m1 d1, .int .i64 E] 26)).heap.size) := ⟨by have := hk.size; omega, by simp⟩
  clear hG hc hk o0 o1 k0 k1 f0 f1 HC4 HK4 HO0 HO1 hpp hxl hnn HBx' HN HZ0 HZ1
  go_upto_region 4 with fail
  generalize w5.alloc (.cells #[.slice y0 m0 d0, .slice y1 m1 d1, .int .i64 E] 26) = w6 at *
  generalize w5.heap.size = Y at *
  have HBY6 : Hid (Bx Y [.slice y0 m0 d0, .slice y1 m1 d1, .int .i64 E] w6) := HBy.out
  clear HBy HW
  have hd := once_any p a len cap _ HC6.out 6 (by omega) (by omega)
  go_wp2_with fail
  refine hd.mono ?_
  rintro e w7 ⟨q, rfl, hc, hk⟩
  have hpp := HP1.out
  have hxl := HXL.out
  have hyl := HYL.out
  have hrr := HR.out
  have HK7 := hide (HK6.out.trans hk)
  have hq := HQ6.out
  have HQ7 : Hid (Q4w wp x0 n0 q0 M x1 n1 q1 T y0 m0 r0 L y1 m1 r1 S w7) := ⟨⟨hq.1.1.keptF hk (hq.2.1.imp id fun h => by omega), hq.1.2.1.keptF hk (hq.2.2.1.imp id fun h => by omega), hq.1.2.2.1.keptF hk (hq.2.2.2.1.imp id fun h => by omega), hq.1.2.2.2.keptF hk (hq.2.2.2.2.imp id fun h => by omega)⟩, hq.2⟩
  have HBX7 := hide (HBX6.out.kept hk (by omega))
  have HBY7 := hide (HBY6.out.kept hk (by omega))
  have HR07 := hide (HX2.out.kept HK7.out (by omega))
  have HR17 := hide (HX2'.out.kept HK7.out (by omega))
  have HB7 := hide (HBW.out.trans (HK7.out.below (B := w.heap.size) (by omega) (by have := HBW.out.size; omega)))
  have HL7 : Hid (X < w7.heap.size ∧ Y < w7.heap.size ∧ X ≠ Y ∧ wp.heap.size ≤ X ∧ wp.heap.size ≤ Y ∧ w.heap.size + 1 < wp.heap.size ∧ wp.heap.size ≤ w7.heap.size) := ⟨by have := hk.size; omega, by have := hk.size; omega, by omega, by omega, by omega, by omega, HK7.out.size⟩
  clear hd hc hk HC6 HK6 HQ6 HBX6 HBY6 hpp hxl hyl hrr hq HX2 HX2' HBW HXL HYL HK7 HR HP1 HAB1
  go_upto_if 16 with fail
  go_cut [] (fun wc => JCf w wp X Y wc)
  case first =>
    cases q
    · go_wp2_with fail
      go_meet
      exact ⟨D, x0, n0, c0, q0, M, x1, n1, c1, q1, T, E, y0, m0, d0, r0, L, y1, m1, d1, r1, S, HNN.out, HQ7.out, HBX7.out, HBY7.out, HR07.out, HR17.out, HB7.out⟩
    · have hnn := HNN.out
      have cI := specInvert_any D x0 n0 c0 M (by omega) x1 n1 c1 T (by omega) w7 HQ7.out.px.1 HQ7.out.px.2.1
      obtain ⟨i0, j0⟩ := HBX7.out 0 _ rfl
      obtain ⟨i1, j1⟩ := HBX7.out 1 _ rfl
      obtain ⟨i2, j2⟩ := HBX7.out 2 _ rfl
      clear hnn
      go_wp2_with fail
      refine cI.mono ?_
      clear cI
      unfold FrX
      rintro e w8 (⟨-, b0, e0, b1, e1, rfl, g0, g1, g2, s0, s1, hb⟩ | ⟨-, rfl, hb⟩)
      · have hl := HL7.out
        have hq := HQ7.out
        have l0 := s0.lt7 (by omega)
        have l1 := s1.lt7 (by omega)
        have HW := hide (hb.trans ((bnew w8 (.cells #[.slice (some ⟨b0, 0, none⟩) 9 e0, .slice (some ⟨b1, 0, none⟩) 3 e1, .int .i64 (ivD D M T)] 26)).mono hb.size))
        have HBZ := hide (Bx.new [.slice (some ⟨b0, 0, none⟩) 9 e0, .slice (some ⟨b1, 0, none⟩) 3 e1, .int .i64 (ivD D M T)] 26 w8)
        have HS0 := hide (s0.below (bnew w8 (.cells #[.slice (some ⟨b0, 0, none⟩) 9 e0, .slice (some ⟨b1, 0, none⟩) 3 e1, .int .i64 (ivD D M T)] 26)) l0)
        have HS1 := hide (s1.below (bnew w8 (.cells #[.slice (some ⟨b0, 0, none⟩) 9 e0, .slice (some ⟨b1, 0, none⟩) 3 e1, .int .i64 (ivD D M T)] 26)) l1)
        have HGG : Hid (w7.heap.size ≤ b0 ∧ w7.heap.size ≤ b1 ∧ w7.heap.size ≤ w8.heap.size) := ⟨g0, g1, hb.size⟩
        clear s0 s1 g0 g1 g2 l0 l1 hb hl hq i0 j0 i1 j1 i2 j2
        go_upto_region 6 with fail
        generalize w8.alloc (.cells #[.slice (some ⟨b0, 0, none⟩) 9 e0, .slice (some ⟨b1, 0, none⟩) 3 e1, .int .i64 (ivD D M T)] 26) = w9 at *
        generalize w8.heap.size = Z at *
        have HBZ' : Hid (Bx Z [.slice (some ⟨b0, 0, none⟩) 9 e0, .slice (some ⟨b1, 0, none⟩) 3 e1, .int .i64 (ivD D M T)] w9) := HBZ.out
        clear HBZ
        have hl := HL7.out
        have hg := HGG.out
        have hq := HQ7.out
        have hY9 := HBY7.out.below HW.out hl.2.1
        have hbl := below_set37 (B := w.heap.size) (Below.refl _ w9) (b := Y) (.slice (some ⟨b0, 0, none⟩) 9 e0) (.slice (some ⟨b1, 0, none⟩) 3 e1) (.int .i64 (ivD D M T)) (by omega)
        have HJ : Hid (JCf w wp X Y (((w9.setCell ⟨Y, 0, none⟩ (.slice (some ⟨b0, 0, none⟩) 9 e0)).setCell ⟨Y, 1, none⟩ (.slice (some ⟨b1, 0, none⟩) 3 e1)).setCell ⟨Y, 2, none⟩ (.int .i64 (ivD D M T)))) := by
          refine ⟨D, x0, n0, c0, q0, M, x1, n1, c1, q1, T, ivD D M T, _, 9, e0, b0, ivM D M T, _, 3, e1, b1, ivT D M T, ⟨HNN.out.1, HNN.out.2.1, by omega, by omega⟩, ⟨⟨(hq.1.1.below' HW.out).setF ?_ _ _ _, (hq.1.2.1.below' HW.out).setF ?_ _ _ _, Ow.setF (.inr ⟨rfl, HS0.out⟩) (.inr (by omega)) _ _ _, Ow.setF (.inr ⟨rfl, HS1.out⟩) (.inr (by omega)) _ _ _⟩, ⟨hq.2.1, hq.2.2.1, .inr (by omega), .inr (by omega)⟩⟩, (HBX7.out.below HW.out hl.1).farF hl.2.2.1 _ _ _, hY9.set3F _ _ _, (HR07.out.below HW.out (by omega)).farF (by omega) _ _ _, (HR17.out.below HW.out (by omega)).farF (by omega) _ _ _, (HB7.out.trans (HW.out.mono HB7.out.size)).trans hbl⟩
          · exact HYQ0.out
          · exact HYQ1.out
        obtain ⟨y0', z0'⟩ := hY9 0 _ rfl
        obtain ⟨y1', z1'⟩ := hY9 1 _ rfl
        obtain ⟨y2', z2'⟩ := hY9 2 _ rfl
        obtain ⟨i0, j0⟩ := HBZ'.out 0 _ rfl
        obtain ⟨i1, j1⟩ := HBZ'.out 1 _ rfl
        obtain ⟨i2, j2⟩ := HBZ'.out 2 _ rfl
        clear hl hg hq hY9 hbl HBZ' HW HS0 HS1 HGG
        go_wp2_with fail
        go_meet
        exact HJ.out
      · have HW := hide (hb.trans ((bnew w8 (.cells #[.slice none 0 0, .slice none 0 0, .int .i64 0] 26)).mono hb.size))
        clear hb i0 j0 i1 j1 i2 j2
        go_upto_region 6 with fail
        generalize w8.alloc (.cells #[.slice none 0 0, .slice none 0 0, .int .i64 0] 26) = w9 at *
        have hq := HQ7.out
        have hl := HL7.out
        have HJ : Hid (JCf w wp X Y w9) := ⟨D, x0, n0, c0, q0, M, x1, n1, c1, q1, T, E, y0, m0, d0, r0, L, y1, m1, d1, r1, S, HNN.out, ⟨⟨hq.1.1.below' HW.out, hq.1.2.1.below' HW.out, hq.1.2.2.1.below' HW.out, hq.1.2.2.2.below' HW.out⟩, hq.2⟩, HBX7.out.below HW.out hl.1, HBY7.out.below HW.out hl.2.1, HR07.out.below HW.out (by omega), HR17.out.below HW.out (by omega), HB7.out.trans (HW.out.mono HB7.out.size)⟩
        clear hq hl HW
        go_wp2_with fail
        go_meet
        exact HJ.out
  case rest =>
    obtain ⟨D, x0, n0, c0, q0, M, x1, n1, c1, q1, T, E, y0, m0, d0, r0, L, y1, m1, d1, r1, S, hN, hQ, hX, hY, hr0, hr1, hB⟩ := hcut
    have hl := HL7.out
    have HXY : Hid (w.heap.size + 1 < wp.heap.size ∧ wp.heap.size ≤ X ∧ wp.heap.size ≤ Y) := ⟨hl.2.2.2.2.2.1, hl.2.2.2.1, hl.2.2.2.2.1⟩
    have HM : Hid (n0 ≤ 9 ∧ n1 ≤ 9 ∧ m0 ≤ 9 ∧ m1 ≤ 9) := hN
    have HD : Hid (Q4w wp x0 n0 q0 M x1 n1 q1 T y0 m0 r0 L y1 m1 r1 S wc.drew) := ⟨⟨hQ.1.1.below' (Below.refl _ wc).drew, hQ.1.2.1.below' (Below.refl _ wc).drew, hQ.1.2.2.1.below' (Below.refl _ wc).drew, hQ.1.2.2.2.below' (Below.refl _ wc).drew⟩, hQ.2⟩
    have HE0 : Hid (∀ u0, eR w (w.heap.size + 1) [.slice x0 n0 c0, .slice x1 n1 c1, .int .i64 D] [.slice y0 m0 d0, .slice y1 m1 d1, .int .i64 E] X Y (Q4w wp x0 n0 q0 M x1 n1 q1 T y0 m0 r0 L y1 m1 r1 S) u0 wc.drew) := fun _ => ⟨hB.drew, HD.out, hX, hY, ⟨_, _, _, hr0⟩, ⟨_, _, _, hr1⟩⟩
    clear hN hQ hX hY hr0 hr1 hB hl HD HL7 HQ7 HBX7 HBY7 HR07 HR17 HB7 HYQ0 HYQ1 HNN
    go_upto_region 8 with fail
    refine region_opsV (eR w (w.heap.size + 1) [.slice x0 n0 c0, .slice x1 n1 c1, .int .i64 D] [.slice y0 m0 d0, .slice y1 m1 d1, .int .i64 E] X Y (Q4w wp x0 n0 q0 M x1 n1 q1 T y0 m0 r0 L y1 m1 r1 S)) (eF w (w.heap.size + 1) [.slice x0 n0 c0, .slice x1 n1 c1, .int .i64 D] [.slice y0 m0 d0, .slice y1 m1 d1, .int .i64 E] (vFrame D x0 n0 c0 x1 n1 c1) (vFrame E y0 m0 d0 y1 m1 d1)) (by kernel_rfl) (by kernel_rfl) (by kernel_rfl) (by kernel_rfl) (HE0.out _) ?_ ?_
    · refine ⟨?_, ?_, ?_, ?_, trivial⟩
      ·
        intro u w21 au hsl hel hu hF hp' K hK
        have HF := hide hF
        have tq : au.tmps[5]?.getD undef = .pointer (some ⟨X, 0, none⟩) := (hel.out 5 (by kernel_rfl)).trans (by kernel_rfl)
        obtain ⟨-, -, hbx, -, -, -⟩ := hF
        obtain ⟨b0, p0⟩ := hbx 0 _ rfl
        obtain ⟨b1, p1⟩ := hbx 1 _ rfl
        obtain ⟨b2, p2⟩ := hbx 2 _ rfl
        clear hbx
        refine step_plain rfl ?_
        go_simp
        exact hK.out (vFrame D x0 n0 c0 x1 n1 c1) _ HF.out ⟨fun _ => upU_same _ _ _, fun e => absurd e (by omega), fun e => absurd e (by omega), fun e => absurd e (by omega)⟩ (fun j hj _ h => eF_up 0 _ j hj h)
      ·
        intro u w21 au hsl hel hu hF hp' K hK
        have HF := hide hF
        have tq : au.tmps[6]?.getD undef = .pointer (some ⟨Y, 0, none⟩) := (hel.out 6 (by kernel_rfl)).trans (by kernel_rfl)
        obtain ⟨-, -, -, hbx, -, -⟩ := hF
        obtain ⟨b0, p0⟩ := hbx 0 _ rfl
        obtain ⟨b1, p1⟩ := hbx 1 _ rfl
        obtain ⟨b2, p2⟩ := hbx 2 _ rfl
        clear hbx
        refine step_plain rfl ?_
        go_simp
        exact hK.out (vFrame E y0 m0 d0 y1 m1 d1) _ HF.out ⟨fun e => absurd e (by omega), fun _ => upU_same _ _ _, fun e => absurd e (by omega), fun e => absurd e (by omega)⟩ (fun j hj _ h => eF_up 1 _ j hj h)
      ·
        intro u w21 au hsl hel hu hF hp' K hK
        have h0 : u 0 = (vFrame D x0 n0 c0 x1 n1 c1) := (PreF.get hp' 0 (by kernel_rfl)).1 rfl
        have tq : au.tmps[24]?.getD undef = u 0 := hsl.out 0 24 (by kernel_rfl)
        rw [h0] at tq
        have t2 : au.tmps[2]?.getD undef = .pointer (some ⟨w.heap.size, 0, none⟩) := (hel.out 2 (by kernel_rfl)).trans (by kernel_rfl)
        obtain ⟨hb, hQ, hx5, hx6, ⟨y0_, y1_, y2_, hq⟩, ⟨z0_, z1_, z2_, hr⟩⟩ := hF
        obtain ⟨q0_, e0_⟩ := hq 0 _ rfl
        obtain ⟨q1_, e1_⟩ := hq 1 _ rfl
        obtain ⟨q2_, e2_⟩ := hq 2 _ rfl
        have hXY := HXY.out
        have HF : Hid (eR w (w.heap.size + 1) [.slice x0 n0 c0, .slice x1 n1 c1, .int .i64 D] [.slice y0 m0 d0, .slice y1 m1 d1, .int .i64 E] X Y (Q4w wp x0 n0 q0 M x1 n1 q1 T y0 m0 r0 L y1 m1 r1 S) (fun _ => undef) (((w21.setCell ⟨w.heap.size, 0, none⟩ (.slice x0 n0 c0)).setCell ⟨w.heap.size, 1, none⟩ (.slice x1 n1 c1)).setCell ⟨w.heap.size, 2, none⟩ (.int .i64 D))) :=
          ⟨hb.trans (below_set37 (B := w.heap.size) (Below.refl _ w21) (b := w.heap.size) _ _ _ (by omega)), hQ.far (by omega) _ _ _, hx5.farF (by omega) _ _ _, hx6.farF (by omega) _ _ _, ⟨_, _, _, ((hq.set 0 (.slice x0 n0 c0)).set 1 (.slice x1 n1 c1)).set 2 (.int .i64 D)⟩, ⟨_, _, _, hr.farF (by omega) _ _ _⟩⟩
        have HG : Hid (Bx (w.heap.size) [.slice x0 n0 c0, .slice x1 n1 c1, .int .i64 D] (((w21.setCell ⟨w.heap.size, 0, none⟩ (.slice x0 n0 c0)).setCell ⟨w.heap.size, 1, none⟩ (.slice x1 n1 c1)).setCell ⟨w.heap.size, 2, none⟩ (.int .i64 D))) := ((hq.set 0 (.slice x0 n0 c0)).set 1 (.slice x1 n1 c1)).set 2 (.int .i64 D)
        clear hb hQ hx5 hx6 hq hr hXY h0
        refine step_plain rfl ?_
        go_simp
        exact hK.out (.bool true) _ HF.out ⟨fun e => absurd e (by omega), fun e => absurd e (by omega), fun _ => HG.out, fun e => absurd e (by omega)⟩ (fun j hj _ h => eF_st 2 _ j hj (fun e => absurd e hj) (fun _ => by omega) _ _ _ h)
      ·
        intro u w21 au hsl hel hu hF hp' K hK
        have h0 : u 1 = (vFrame E y0 m0 d0 y1 m1 d1) := (PreF.get hp' 1 (by kernel_rfl)).2.1 rfl
        have tq : au.tmps[25]?.getD undef = u 1 := hsl.out 1 25 (by kernel_rfl)
        rw [h0] at tq
        have t2 : au.tmps[3]?.getD undef = .pointer (some ⟨w.heap.size + 1, 0, none⟩) := (hel.out 3 (by kernel_rfl)).trans (by kernel_rfl)
        obtain ⟨hb, hQ, hx5, hx6, ⟨y0_, y1_, y2_, hq⟩, ⟨z0_, z1_, z2_, hr⟩⟩ := hF
        obtain ⟨q0_, e0_⟩ := hr 0 _ rfl
        obtain ⟨q1_, e1_⟩ := hr 1 _ rfl
        obtain ⟨q2_, e2_⟩ := hr 2 _ rfl
        have hXY := HXY.out
        have HF : Hid (eR w (w.heap.size + 1) [.slice x0 n0 c0, .slice x1 n1 c1, .int .i64 D] [.slice y0 m0 d0, .slice y1 m1 d1, .int .i64 E] X Y (Q4w wp x0 n0 q0 M x1 n1 q1 T y0 m0 r0 L y1 m1 r1 S) (fun _ => undef) (((w21.setCell ⟨w.heap.size + 1, 0, none⟩ (.slice y0 m0 d0)).setCell ⟨w.heap.size + 1, 1, none⟩ (.slice y1 m1 d1)).setCell ⟨w.heap.size + 1, 2, none⟩ (.int .i64 E))) :=
          ⟨hb.trans (below_set37 (B := w.heap.size) (Below.refl _ w21) (b := w.heap.size + 1) _ _ _ (by omega)), hQ.far (by omega) _ _ _, hx5.farF (by omega) _ _ _, hx6.farF (by omega) _ _ _, ⟨_, _, _, hq.farF (by omega) _ _ _⟩, ⟨_, _, _, ((hr.set 0 (.slice y0 m0 d0)).set 1 (.slice y1 m1 d1)).set 2 (.int .i64 E)⟩⟩
        have HG : Hid (Bx (w.heap.size + 1) [.slice y0 m0 d0, .slice y1 m1 d1, .int .i64 E] (((w21.setCell ⟨w.heap.size + 1, 0, none⟩ (.slice y0 m0 d0)).setCell ⟨w.heap.size + 1, 1, none⟩ (.slice y1 m1 d1)).setCell ⟨w.heap.size + 1, 2, none⟩ (.int .i64 E))) := ((hr.set 0 (.slice y0 m0 d0)).set 1 (.slice y1 m1 d1)).set 2 (.int .i64 E)
        clear hb hQ hx5 hx6 hq hr hXY h0
        refine step_plain rfl ?_
        go_simp
        exact hK.out (.bool true) _ HF.out ⟨fun e => absurd e (by omega), fun e => absurd e (by omega), fun e => absurd e (by omega), fun _ => HG.out⟩ (fun j hj _ h => eF_st 3 _ j hj (fun _ => by omega) (fun e => absurd e hj) _ _ _ h)
    · intro u w30 hF hall
      have hq := (hall 2 (by decide)).2.2.1 rfl
      have hr := (hall 3 (by decide)).2.2.2 rfl
      have HF : Hid (DCR w (.returned (.tuple #[vFrame D x0 n0 c0 x1 n1 c1, vFrame E y0 m0 d0 y1 m1 d1])) w30) := ⟨D, x0, n0, c0, M, x1, n1, c1, T, E, y0, m0, d0, L, y1, m1, d1, S, rfl, HM.out, hF.2.1.px.1, hF.2.1.px.2.1, hF.2.1.px.2.2.1, hF.2.1.px.2.2.2, hF.1⟩
      obtain ⟨q0_, e0_⟩ := hq 0 _ rfl
      obtain ⟨q1_, e1_⟩ := hq 1 _ rfl
      obtain ⟨q2_, e2_⟩ := hq 2 _ rfl
      obtain ⟨r0_, s0_⟩ := hr 0 _ rfl
      obtain ⟨r1_, s1_⟩ := hr 1 _ rfl
      obtain ⟨r2_, s2_⟩ := hr 2 _ rfl
      clear hall hF hq hr HE0 HXY
      simp only [rgPut, Act.put]
      go_simp
      go_wp2_with fail
      exact bodyPost_ret (v := .tuple #[vFrame D x0 n0 c0 x1 n1 c1, vFrame E y0 m0 d0 y1 m1 d1]) (by simp [results, vFrame, Try.results5, go_sem, q0_, q1_, q2_, r0_, r1_, r2_]) rfl HF.out

end Go.Proofs.Ytjdbiaoheoialaa

/- A frame is drawn, right or spoilt; two frames are drawn. -/
import Derived.Test.YtjdbiaoheoialaaDfn
import Derived.Test.YtjdbiaoheoialaaIvs
namespace Go.Proofs.Ytjdbiaoheoialaa
open Go.RowKit

theorem Ow.setF {x : Option Addr} {b m X : Nat} {f : Nat → Int} {w : World} (h : Ow x b m f w) (hb : m = 0 ∨ X ≠ b) (u0 u1 u2 : Value) : Ow x b m f (((w.setCell ⟨X, 0, none⟩ u0).setCell ⟨X, 1, none⟩ u1).setCell ⟨X, 2, none⟩ u2) := by
  rcases h with h | ⟨ha, h⟩
  · exact .inl h
  · rcases hb with hb | hb
    · exact .inl hb
    · exact .inr ⟨ha, ((h.set (p := ⟨X, 0, none⟩) hb _).set (p := ⟨X, 1, none⟩) hb _).set (p := ⟨X, 2, none⟩) hb _⟩
theorem Ow.keptF {x : Option Addr} {b m p : Nat} {f : Nat → Int} {w w' : World} (h : Ow x b m f w) (hk : Kept p w w') (hb : m = 0 ∨ b ≠ p) : Ow x b m f w' := by
  rcases h with h | ⟨ha, h⟩
  · exact .inl h
  · rcases hb with hb | hb
    · exact .inl hb
    · exact .inr ⟨ha, h.kept7 hk hb⟩
theorem Bx.heapF {b : Nat} {vs : List Value} {w w' : World} (h : Bx b vs w) (e : w'.heap[b]? = w.heap[b]?) : Bx b vs w' := fun j v hv =>
  ⟨(World.cell?_of_block (w := w) (w' := w') (a := ⟨b, j, none⟩) e).trans (h j v hv).1, (World.frozen?_of_block (w := w) (w' := w') (a := ⟨b, j, none⟩) e).trans (h j v hv).2⟩
theorem Bx.farF {X : Nat} {vs : List Value} {w : World} {R : Nat} (h : Bx X vs w) (hR : X ≠ R) (u0 u1 u2 : Value) : Bx X vs (((w.setCell ⟨R, 0, none⟩ u0).setCell ⟨R, 1, none⟩ u1).setCell ⟨R, 2, none⟩ u2) :=
  ((h.far (q := ⟨R, 0, none⟩) (Ne.symm hR) _).far (q := ⟨R, 1, none⟩) (Ne.symm hR) _).far (q := ⟨R, 2, none⟩) (Ne.symm hR) _
theorem Bx.set3F {X : Nat} {v0 v1 v2 : Value} {w : World} (h : Bx X [v0, v1, v2] w) (u0 u1 u2 : Value) : Bx X [u0, u1, u2] (((w.setCell ⟨X, 0, none⟩ u0).setCell ⟨X, 1, none⟩ u1).setCell ⟨X, 2, none⟩ u2) := ((h.set 0 u0).set 1 u1).set 2 u2
theorem Ow.ltF {x : Option Addr} {b m : Nat} {f : Nat → Int} {w : World} (h : Ow x b m f w) : m = 0 ∨ b < w.heap.size := by
  by_cases h0 : m = 0
  · exact .inl h0
  · exact .inr (h.v.lt h0)
/-- a frame in its box, its lists the call's own -/
def JDf (p : Nat) (a : Option Addr) (len cap : Nat) (w : World) (X : Nat) (wc : World) : Prop :=
  ∃ (D : Int) (x0 : Option Addr) (n0 c0 q0 : Nat) (G0 : Nat → Int) (x1 : Option Addr) (n1 c1 q1 : Nat) (G1 : Nat → Int), n0 ≤ 9 ∧ n1 ≤ 9 ∧ Cur p a len cap wc ∧ Kept p w wc ∧ Bx X [.slice x0 n0 c0, .slice x1 n1 c1, .int .i64 D] wc ∧ Bx w.heap.size [.slice none 0 0, .slice none 0 0, .int .i64 0] wc ∧ Ow x0 q0 n0 G0 wc ∧ Ow x1 q1 n1 G1 wc ∧ (n0 = 0 ∨ w.heap.size < q0) ∧ (n1 = 0 ∨ w.heap.size < q1)

set_option maxRecDepth 100000 in
set_option maxHeartbeats 4000000 in
theorem l7DrawAny_any (p : Nat) (a : Option Addr) (len cap : Nat) (w : World) (h : Cur p a len cap w) (hp : p < w.heap.size) (hab : len = 0 ∨ ∀ b off, a = some ⟨b, off, none⟩ → b < w.heap.size) :
    Calls Try.prog 16 #[.pointer (some ⟨p, 0, none⟩)] w (DrS p a len cap w) := by
  have hsA : (w.alloc (.cells #[.slice none 0 0, .slice none 0 0, .int .i64 0] 26)).heap.size = w.heap.size + 1 := by simp
  have cD := l7Draw_any p a len cap (w.alloc (.cells #[.slice none 0 0, .slice none 0 0, .int .i64 0] 26)) (h.below (bnew _ _)) (by omega) (hab.imp id fun h b off e => by have := h b off e; omega)
  have HRz := hide (Bx.new [.slice none 0 0, .slice none 0 0, .int .i64 0] 26 w)
  have HKA : Hid (Kept p w (w.alloc (.cells #[.slice none 0 0, .slice none 0 0, .int .i64 0] 26))) := Kept.of_below (bnew _ _)
  have HAB := hide hab
  have HP := hide hp
  have HSA := hide hsA
  clear h hab hsA
  go_enter Try.func16, Try.ntmps16
  go_upto_region 1 with fail
  generalize hwA : w.alloc (.cells #[.slice none 0 0, .slice none 0 0, .int .i64 0] 26) = wA at *
  have HRz' : Hid (Bx w.heap.size [.slice none 0 0, .slice none 0 0, .int .i64 0] wA) := by have := HRz.out; exact this
  clear hwA HRz
  go_wp2_with fail
  refine cD.mono ?_
  rintro e w2 ⟨D, b0, c0, F0, b1, c1, F1, rfl, g0, g1, g2, r0, r1, hc, hk, hcp⟩
  have hs2 := hk.size
  have l0 := r0.lt7 (by omega)
  have l1 := r1.lt7 (by omega)
  have HG : Hid (w.heap.size < b0 ∧ w.heap.size < b1 ∧ b0 ≠ b1 ∧ b0 < w2.heap.size ∧ b1 < w2.heap.size ∧ wA.heap.size ≤ w2.heap.size ∧ wA.heap.size ≤ b0 ∧ wA.heap.size ≤ b1) := ⟨by have := HSA.out; omega, by have := HSA.out; omega, g2, l0, l1, hs2, g0, g1⟩
  have HBx := hide (Bx.new [.slice (some ⟨b0, 0, none⟩) 9 c0, .slice (some ⟨b1, 0, none⟩) 3 c1, .int .i64 D] 26 w2)
  have HW := hide (bnew w2 (.cells #[.slice (some ⟨b0, 0, none⟩) 9 c0, .slice (some ⟨b1, 0, none⟩) 3 c1, .int .i64 D] 26))
  have HC := hide (hc.below HW.out)
  have HK := hide (hk.trans (Kept.of_below HW.out))
  have HR0 := hide (r0.below HW.out l0)
  have HR1 := hide (r1.below HW.out l1)
  have HRR := hide ((HRz'.out.kept hk (by have := HP.out; omega)).below HW.out (by have := HSA.out; omega))
  have HXL : Hid (w2.heap.size < (w2.alloc (.cells #[.slice (some ⟨b0, 0, none⟩) 9 c0, .slice (some ⟨b1, 0, none⟩) 3 c1, .int .i64 D] 26)).heap.size) := by show _ < _; simp
  have HCP := hide hcp
  clear cD g0 g1 g2 r0 r1 hc hk hcp l0 l1 hs2 HRz'
  go_upto_region 2 with fail
  generalize w2.alloc (.cells #[.slice (some ⟨b0, 0, none⟩) 9 c0, .slice (some ⟨b1, 0, none⟩) 3 c1, .int .i64 D] 26) = w3 at *
  generalize w2.heap.size = X at *
  have HBx' : Hid (Bx X [.slice (some ⟨b0, 0, none⟩) 9 c0, .slice (some ⟨b1, 0, none⟩) 3 c1, .int .i64 D] w3) := HBx.out
  clear HBx HW
  have hd := once_any p a len cap _ HC.out 14 (by omega) (by omega)
  go_wp2_with fail
  refine hd.mono ?_
  rintro e w4 ⟨q, rfl, hc, hk⟩
  have HC4 := hide hc
  have HK4 := hide (HK.out.trans hk)
  have hg := HG.out
  have hpp := HP.out
  have hsa := HSA.out
  have HR04 := hide (HR0.out.kept7 hk (by omega))
  have HR14 := hide (HR1.out.kept7 hk (by omega))
  have HRR4 := hide (HRR.out.kept hk (by omega))
  have HB4 := hide (HBx'.out.kept hk (by omega))
  have HX4 : Hid (X < w4.heap.size) := Nat.lt_of_lt_of_le HXL.out hk.size
  clear hd hc hk HC HK HR0 HR1 HRR HBx' HXL hg hpp hsa
  go_upto_if 7 with fail
  go_cut [] (fun wc => JDf p a len cap w X wc)
  case first =>
    cases q
    · go_wp2_with fail
      go_meet
      exact ⟨D, _, 9, c0, b0, F0, _, 3, c1, b1, F1, by omega, by omega, HC4.out, HKA.out.trans HK4.out, HB4.out, HRR4.out, .inr ⟨rfl, HR04.out⟩, .inr ⟨rfl, HR14.out⟩, .inr HG.out.1, .inr HG.out.2.1⟩
    · have cS := l7Spoil_any p a len cap wA (by have := HP.out; have := HSA.out; omega) (HAB.out.imp id fun h b off e => by have := h b off e; have := HSA.out; omega) D b0 c0 F0 b1 c1 F1 HCP.out w4 HC4.out HK4.out HG.out.2.2.2.2.2.2.1 HG.out.2.2.2.2.2.2.2 HG.out.2.2.1 HR04.out HR14.out
      obtain ⟨y0, z0⟩ := HB4.out 0 _ rfl
      obtain ⟨y1, z1⟩ := HB4.out 1 _ rfl
      obtain ⟨y2, z2⟩ := HB4.out 2 _ rfl
      go_wp2_with fail
      refine cS.mono ?_
      rintro e w5 ⟨D', x0, n0, c0', q0, G0, x1, n1, c1', q1, G1, rfl, k0, k1, o0, o1, f0, f1, hc, hk, hkx, t0, t1⟩
      have hg := HG.out
      have hpp := HP.out
      have hsa := HSA.out
      have hx4 := HX4.out
      have hw4 := HK4.out.size
      have HB5 := hide (HB4.out.heapF (hkx.2 X hx4 (by omega) (by omega) (by omega)))
      have HRR5 := hide (HRR4.out.heapF (hkx.2 w.heap.size (by omega) (by omega) (by omega) (by omega)))
      have hq0 : n0 = 0 ∨ (X ≠ q0 ∧ w.heap.size < q0) := by
        rcases t0 with h | h | h
        · exact .inl h
        · exact .inr ⟨by omega, by omega⟩
        · exact .inr ⟨by omega, by omega⟩
      have hq1 : n1 = 0 ∨ (X ≠ q1 ∧ w.heap.size < q1) := by
        rcases t1 with h | h | h
        · exact .inl h
        · exact .inr ⟨by omega, by omega⟩
        · exact .inr ⟨by omega, by omega⟩
      have hbl := below_set37 (B := w.heap.size + 1) (Below.refl _ w5) (b := X) (.slice x0 n0 c0') (.slice x1 n1 c1') (.int .i64 D') (by omega)
      have HJ : Hid (JDf p a len cap w X (((w5.setCell ⟨X, 0, none⟩ (.slice x0 n0 c0')).setCell ⟨X, 1, none⟩ (.slice x1 n1 c1')).setCell ⟨X, 2, none⟩ (.int .i64 D'))) :=
        ⟨D', x0, n0, c0', q0, G0, x1, n1, c1', q1, G1, k0, k1, hc.belowB (hbl.mono (by omega)) HP.out HAB.out, (HKA.out.trans hk).belowB (hbl.mono (by omega)) (Nat.le_refl _), HB5.out.set3F _ _ _, HRR5.out.farF (by omega) _ _ _, o0.setF (hq0.imp id fun h => h.1) _ _ _, o1.setF (hq1.imp id fun h => h.1) _ _ _, hq0.imp id fun h => h.2, hq1.imp id fun h => h.2⟩
      clear cS y0 z0 y1 z1 y2 z2 hc hk hkx t0 t1 o0 o1 f0 f1 k0 k1 hg hpp hsa hx4 hw4 hq0 hq1 hbl HRR5 HB4 HRR4
      obtain ⟨y0, z0⟩ := HB5.out 0 _ rfl
      obtain ⟨y1, z1⟩ := HB5.out 1 _ rfl
      obtain ⟨y2, z2⟩ := HB5.out 2 _ rfl
      clear HB5
      go_wp2_with fail
      go_meet
      exact HJ.out
  case rest =>
    obtain ⟨D', x0, n0, c0', q0, G0, x1, n1, c1', q1, G1, k0, k1, hc, hk, hb, hr, o0, o1, t0, t1⟩ := hcut
    have HF : Hid (DrS p a len cap w (.returned (vFrame D' x0 n0 c0' x1 n1 c1')) (((wc.setCell ⟨w.heap.size, 0, none⟩ (.slice x0 n0 c0')).setCell ⟨w.heap.size, 1, none⟩ (.slice x1 n1 c1')).setCell ⟨w.heap.size, 2, none⟩ (.int .i64 D'))) := by
      have hbl := below_set37 (B := w.heap.size) (Below.refl _ wc) (b := w.heap.size) (.slice x0 n0 c0') (.slice x1 n1 c1') (.int .i64 D') (Nat.le_refl _)
      exact ⟨D', x0, n0, c0', q0, G0, x1, n1, c1', q1, G1, rfl, k0, k1, o0.setF (t0.imp id fun h => by omega) _ _ _, o1.setF (t1.imp id fun h => by omega) _ _ _, t0.imp id fun h => by omega, t1.imp id fun h => by omega, hc.belowB hbl HP.out HAB.out, hk.belowB hbl (Nat.le_refl _)⟩
    obtain ⟨y0, z0⟩ := hb 0 _ rfl
    obtain ⟨y1, z1⟩ := hb 1 _ rfl
    obtain ⟨y2, z2⟩ := hb 2 _ rfl
    obtain ⟨u0, v0⟩ := hr 0 _ rfl
    obtain ⟨u1, v1⟩ := hr 1 _ rfl
    obtain ⟨u2, v2⟩ := hr 2 _ rfl
    clear hb hr o0 o1 k0 k1 hc hk t0 t1 HC4 HK4 HR04 HR14 HRR4 HB4
    go_wp2_with fail
    exact bodyPost_ret (v := vFrame D' x0 n0 c0' x1 n1 c1') (by simp [results, Try.results16, go_sem, u0, u1, u2]) rfl HF.out

end Go.Proofs.Ytjdbiaoheoialaa

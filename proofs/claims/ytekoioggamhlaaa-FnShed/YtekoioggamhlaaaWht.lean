/- A heap in memory: the foremost is taken. -/
import Derived.Test.YtekoioggamhlaaaWhs
import Derived.Test.YtekoioggamhlaaaHom
namespace Go.Proofs.Ytekoioggamhlaaa
open Go.RowKit

theorem own_cut3 {w : World} {B n b cap : Nat} {L : List I3} {z : I3} (h : w.ownsRow B 59 3 (.slice (some ⟨b, 0, none⟩) (n + 1) cap) (n + 1) (ints (hl (L ++ [z])))) (hn : L.length = n) : w.ownsRow B 59 3 (.slice (some ⟨b, 0, none⟩) n cap) n (ints (hl L)) := by
  obtain ⟨h1, h2⟩ := h
  have hlen := hl_len L
  refine ⟨by simp only [ints, List.length_map]; rw [hlen, hn], ?_⟩
  rcases h2 with ⟨hv, _⟩ | ⟨b', cap', cur, hv, hB, hh, hn', hc, hs, ht⟩
  · cases hv
  · cases hv
    refine .inr ⟨b, cap, cur, rfl, hB, hh, by omega, hc, hs, ?_⟩
    have h3 := congrArg (List.take (n * 3)) ht
    rw [List.take_take, Nat.min_eq_left (by omega)] at h3
    rw [h3, hl_app, ints_append, List.take_append_of_le_length (by simp only [ints, List.length_map]; omega), List.take_of_length_le (by simp only [ints, List.length_map]; omega)]
theorem KpS.newSet {S : Nat → Prop} {w w' : World} (h : KpS S w w') {p : Addr} (hp : w.heap.size ≤ p.block) (v : Value) : KpS S w (w'.setCell p v) := by
  have k : Kept p.block w' (w'.setCell p v) := (Kept.refl _ _).setCell rfl v
  exact ⟨k.os.trans h.os, k.tape.trans h.tape, k.output.trans h.output, Nat.le_trans h.size k.size, fun j hj hs => (k.block j (Nat.lt_of_lt_of_le hj h.size) (by omega)).trans (h.block j hj hs)⟩
/-- the items behind a taken one, before the last is let down -/
theorem tk_parts (L : List I3) (h0 : 0 < L.length) (hH : hpI L) : ∃ T z, L.set 0 (gI L (L.length - 1)) = T ++ [z] ∧ T.length = L.length - 1 ∧ dnI T 0 ∧ L.Perm (gI L 0 :: T) := by
  obtain ⟨x, t, rfl⟩ : ∃ x t, L = x :: t := by
    cases L with
    | nil => simp at h0
    | cons x t => exact ⟨x, t, rfl⟩
  rcases List.eq_nil_or_concat t with rfl | ⟨M, y, rfl⟩
  · exact ⟨[], x, rfl, rfl, ⟨fun i _ h => by simp at h, fun h => absurd h (Nat.lt_irrefl _)⟩, List.Perm.refl _⟩
  · rw [List.concat_eq_append] at *
    have hy : gI (x :: (M ++ [y])) ((x :: (M ++ [y])).length - 1) = y := by
      unfold gI
      rw [List.getD_eq_getElem?_getD]
      simp
    refine ⟨y :: M, y, ?_, by simp, dnI_start (x := x) (y := y) (M := M) hH rfl, ?_⟩
    · rw [hy]; rfl
    · show (x :: (M ++ [y])).Perm (x :: (y :: M))
      exact (List.perm_append_comm (l₁ := M) (l₂ := [y])).cons x

set_option maxRecDepth 100000 in
set_option maxHeartbeats 4000000 in
theorem take_any (bf off : Nat) (vs : List Value) (v : Value) (hv : vs[off]? = some v) (L : List I3) (B : Nat) (w : World) (hb : Bx bf vs w) (ho : w.ownsRow B 59 3 v L.length (ints (hl L)))
    (hbv : v.ownBlock ≠ some bf) (hL : L.length ≤ 5000) (h0 : 0 < L.length) (hH : hpI L) :
    Calls Try.prog 27 #[.pointer (some ⟨bf, off, none⟩)] w fun e w' => e = .returned (vW (gI L 0)) ∧ ∃ v' L', L.Perm (gI L 0 :: L') ∧ hpI L' ∧ Bx bf (vs.set off v') w' ∧
      w'.ownsRow B 59 3 v' L'.length (ints (hl L')) ∧ KpS (fun y => y = bf ∨ v.ownBlock = some y) w w' ∧ v'.ownBlock = v.ownBlock := by
  obtain ⟨gg, cap, rfl, hcap, hBg, hgw, hcell⟩ := own_itm ho h0
  obtain ⟨T, z, hT, hTl, hD, hPm⟩ := tk_parts L h0 hH
  obtain ⟨z0, z1⟩ := hb off _ hv
  have hbf : bf < w.heap.size := World.block_lt_of_cell? w _ z0
  obtain ⟨⟨a0, a1, a2⟩, fa0, fa1, fa2⟩ := hcell 0 h0
  obtain ⟨⟨b0, b1, b2⟩, -, -, -⟩ := hcell (L.length - 1) (by omega)
  have hgb : gg ≠ bf := fun e => hbv (by rw [e]; rfl)
  obtain ⟨m, hm⟩ : ∃ m, L.length = m + 1 := ⟨L.length - 1, by omega⟩
  rw [hm] at ho hT hcap hv hTl b0 b1 b2 z0 hbv hL ⊢
  rw [Nat.add_sub_cancel] at hTl b0 b1 b2 hT
  simp only [Nat.zero_mul, Nat.zero_add] at a0 a1 a2 fa0 fa1 fa2
  generalize hga : gI L 0 = X at *
  generalize hgp : gI L m = Y at *
  obtain ⟨X1, X2, X3⟩ := X
  obtain ⟨Y1, Y2, Y3⟩ := Y
  clear hga hgp hcell
  have HBX := hide hb
  have HV := hide hv
  have HO := hide ho
  have HT := hide hT
  have HL0 := hide h0
  have HD := hide hD
  have HPm := hide hPm
  have HTl := hide hTl
  have HGB := hide hgb
  have HLT := hide (And.intro hbf hgw)
  -- the answer's box
  have hc0 := bnew w (.cells #[.int .i64 0, .int .i64 0, .int .i64 0] 59)
  obtain ⟨w0, hw0⟩ : ∃ w0, w.alloc (.cells #[.int .i64 0, .int .i64 0, .int .i64 0] 59) = w0 := ⟨_, rfl⟩
  have HR0 : Hid (Bx w.heap.size [.int .i64 0, .int .i64 0, .int .i64 0] w0) := by
    show Bx _ _ _
    rw [← hw0]; exact Bx.new [.int .i64 0, .int .i64 0, .int .i64 0] 59 w
  rw [hw0] at hc0
  have hz0 : w.heap.size < w0.heap.size := by rw [← hw0]; simp
  have HZ0 := hide hz0
  have HC0 := hide hc0
  have up := fun (x : Addr) (y : Value) (h : w.cell? x = some y) => (hc0.cell (World.block_lt_of_cell? w x h)).trans h
  have z0 := up _ _ z0
  have a0 := up _ _ a0
  have a1 := up _ _ a1
  have a2 := up _ _ a2
  have up2 := fun (x : Addr) (y : Value) (h : w0.cell? x = some y) (o : Obj) => ((bnew w0 o).cell (World.block_lt_of_cell? w0 x h)).trans h
  have z0' := up2 _ _ z0
  have a0' := up2 _ _ a0
  have a1' := up2 _ _ a1
  have a2' := up2 _ _ a2
  clear up up2 hT h0 hb hv ho hD hPm hTl hgb hbf hH hbv
  go_enter Try.func27, Try.ntmps27
  go_upto_region 1 with fail
  have HQ : Hid (Bx w0.heap.size [.int .i64 X1, .int .i64 X2, .int .i64 X3] ((w0.alloc (.cells #[.int .i64 X1, .int .i64 X2, .int .i64 X3] 59)).drew)) := (Bx.new [.int .i64 X1, .int .i64 X2, .int .i64 X3] 59 w0).drewB
  have HB1 : Hid (Below w0.heap.size w0 ((w0.alloc (.cells #[.int .i64 X1, .int .i64 X2, .int .i64 X3] 59)).drew)) := (bnew _ _).drew
  go_region
  clear z0 a0 a1 a2 z0' a0' a1' a2'
  generalize (w0.alloc (.cells #[.int .i64 X1, .int .i64 X2, .int .i64 X3] 59)).drew = w1 at *
  have HBw1 := hide (HC0.out.trans (HB1.out.mono (Nat.le_of_lt HZ0.out)))
  have HR1 := hide (HR0.out.below HB1.out HZ0.out)
  generalize w0.heap.size = Q at *
  have HX1 := hide (HBX.out.below HBw1.out HLT.out.1)
  have HO1 := hide (ownsRow_below' HO.out HBw1.out)
  have HK1 : Hid (KpS (fun y => y = bf ∨ (Value.slice (some ⟨gg, 0, none⟩) (m + 1) cap).ownBlock = some y) w w1) := KpS.of_below HBw1.out
  have z0 := (HX1.out off _ HV.out).1
  have b0 := (HBw1.out.cell (p := ⟨gg, m * 3, none⟩) HLT.out.2).trans b0
  have b1 := (HBw1.out.cell (p := ⟨gg, m * 3 + 1, none⟩) HLT.out.2).trans b1
  have b2 := (HBw1.out.cell (p := ⟨gg, m * 3 + 2, none⟩) HLT.out.2).trans b2
  have hc9 := own_itm (L := L) (v := .slice (some ⟨gg, 0, none⟩) (m + 1) cap) (by rw [hm]; exact HO1.out) HL0.out
  obtain ⟨bx, cx, e, -, -, hgw1, hcell⟩ := hc9
  have e9 : gg = bx := Option.some.inj (congrArg Value.ownBlock e)
  subst e9
  obtain ⟨⟨a0, a1, a2⟩, fa0, fa1, fa2⟩ := hcell 0 HL0.out
  simp only [Nat.zero_mul, Nat.zero_add] at a0 a1 a2 fa0 fa1 fa2
  clear e hcell
  have HO3 : Hid (((((w1.setCell ⟨gg, 0, none⟩ (.int .i64 Y1)).setCell ⟨gg, 1, none⟩ (.int .i64 Y2)).setCell ⟨gg, 2, none⟩ (.int .i64 Y3)).drew).ownsRow B 59 3 (.slice (some ⟨gg, 0, none⟩) (m + 1) cap) (m + 1) (ints (hl (T ++ [z])))) := by
    have h := own_set3 HO1.out (k := 0) HL0.out (Y1, Y2, Y3)
    rw [HT.out] at h
    exact ownsRow_below' h (Below.refl _ _).drew
  have HX3 : Hid (Bx bf vs ((((w1.setCell ⟨gg, 0, none⟩ (.int .i64 Y1)).setCell ⟨gg, 1, none⟩ (.int .i64 Y2)).setCell ⟨gg, 2, none⟩ (.int .i64 Y3)).drew)) := (((HX1.out.other (p := ⟨gg, 0, none⟩) HGB.out.symm (.int .i64 Y1)).other (p := ⟨gg, 1, none⟩) HGB.out.symm (.int .i64 Y2)).other (p := ⟨gg, 2, none⟩) HGB.out.symm (.int .i64 Y3)).drewB
  have hgR : w.heap.size ≠ gg := by have := HLT.out.2; omega
  have hgQ : Q ≠ gg := by have := HLT.out.2; have := HZ0.out; omega
  have HR3 : Hid (Bx w.heap.size [.int .i64 0, .int .i64 0, .int .i64 0] ((((w1.setCell ⟨gg, 0, none⟩ (.int .i64 Y1)).setCell ⟨gg, 1, none⟩ (.int .i64 Y2)).setCell ⟨gg, 2, none⟩ (.int .i64 Y3)).drew)) := (((HR1.out.other (p := ⟨gg, 0, none⟩) hgR (.int .i64 Y1)).other (p := ⟨gg, 1, none⟩) hgR (.int .i64 Y2)).other (p := ⟨gg, 2, none⟩) hgR (.int .i64 Y3)).drewB
  have HQ3 : Hid (Bx Q [.int .i64 X1, .int .i64 X2, .int .i64 X3] ((((w1.setCell ⟨gg, 0, none⟩ (.int .i64 Y1)).setCell ⟨gg, 1, none⟩ (.int .i64 Y2)).setCell ⟨gg, 2, none⟩ (.int .i64 Y3)).drew)) := (((HQ.out.other (p := ⟨gg, 0, none⟩) hgQ (.int .i64 Y1)).other (p := ⟨gg, 1, none⟩) hgQ (.int .i64 Y2)).other (p := ⟨gg, 2, none⟩) hgQ (.int .i64 Y3)).drewB
  have HK3 : Hid (KpS (fun y => y = bf ∨ (Value.slice (some ⟨gg, 0, none⟩) (m + 1) cap).ownBlock = some y) w ((((w1.setCell ⟨gg, 0, none⟩ (.int .i64 Y1)).setCell ⟨gg, 1, none⟩ (.int .i64 Y2)).setCell ⟨gg, 2, none⟩ (.int .i64 Y3)).drew)) := (HK1.out.set3 (b := gg) (.inr rfl) 0 1 2 (.int .i64 Y1) (.int .i64 Y2) (.int .i64 Y3)).drew
  have hm5 : (m : Int) < ((m + 1 : Nat) : Int) := by omega
  go_upto_region 2 with fail
  go_region
  clear z0 b0 b1 b2 a0 a1 a2 fa0 fa1 fa2 HX1 HO1 HR1 HQ HK1 HBw1 HB1 HR0 HC0
  generalize (((w1.setCell ⟨gg, 0, none⟩ (.int .i64 Y1)).setCell ⟨gg, 1, none⟩ (.int .i64 Y2)).setCell ⟨gg, 2, none⟩ (.int .i64 Y3)).drew = w2 at *
  obtain ⟨z0, z1⟩ := HX3.out off _ HV.out
  have hcp : m ≤ cap := by omega
  have hcp0 : cap ≠ 0 := by omega
  have hR9 : w.heap.size ≠ bf := by have := HLT.out.1; omega
  have hQ9 : Q ≠ bf := by have := HLT.out.1; have := HZ0.out; omega
  obtain ⟨w3, hw3⟩ : ∃ w3, w2.setCell ⟨bf, off, none⟩ (.slice (some ⟨gg, 0, none⟩) m cap) = w3 := ⟨_, rfl⟩
  have HX4 : Hid (Bx bf (vs.set off (.slice (some ⟨gg, 0, none⟩) m cap)) w3) := by show Bx _ _ _; rw [← hw3]; exact HX3.out.set off _
  have HR4 : Hid (Bx w.heap.size [.int .i64 0, .int .i64 0, .int .i64 0] w3) := by show Bx _ _ _; rw [← hw3]; exact HR3.out.other (p := ⟨bf, off, none⟩) hR9 _
  have HQ4 : Hid (Bx Q [.int .i64 X1, .int .i64 X2, .int .i64 X3] w3) := by show Bx _ _ _; rw [← hw3]; exact HQ3.out.other (p := ⟨bf, off, none⟩) hQ9 _
  have HO4 : Hid (w3.ownsRow B 59 3 (.slice (some ⟨gg, 0, none⟩) m cap) m (ints (hl T))) := by
    show World.ownsRow _ _ _ _ _ _ _
    rw [← hw3]
    exact ownsRow_setCell_other (own_cut3 HO3.out HTl.out) (a := ⟨bf, off, none⟩) (fun h => HGB.out (by cases h; rfl)) _
  have HK4 : Hid (KpS (fun y => y = bf ∨ (Value.slice (some ⟨gg, 0, none⟩) (m + 1) cap).ownBlock = some y) w w3) := by
    show KpS _ _ _
    rw [← hw3]; exact HK3.out.setCell (a := ⟨bf, off, none⟩) (.inl rfl) _
  have cS := sink_any bf off (vs.set off (.slice (some ⟨gg, 0, none⟩) m cap)) gg m cap (by rw [List.getElem?_set_self ((List.getElem?_eq_some_iff.1 HV.out).1)]) T B w3 HX4.out HTl.out HO4.out HGB.out (by omega) HD.out
  clear HX3 HR3 HQ3 HO3 HK3
  go_wp2_with fail
  refine cS.mono ?_
  rintro e w5 ⟨rfl, L', hp, hh, hx5, ho5, hk5⟩
  have hl5 : L'.length = m := by rw [hp.length_eq]; exact HTl.out
  have HQ5 := hide (HQ4.out.kps hk5 hgQ (by simp))
  have HR5 := hide (HR4.out.kps hk5 hgR (by simp))
  have HX5 := hide hx5
  have HO5 := hide ho5
  have HK5 : Hid (KpS (fun y => y = bf ∨ (Value.slice (some ⟨gg, 0, none⟩) (m + 1) cap).ownBlock = some y) w w5) := ⟨hk5.os.trans HK4.out.os, hk5.tape.trans HK4.out.tape, hk5.output.trans HK4.out.output, Nat.le_trans HK4.out.size hk5.size, fun b hb hs => (hk5.block b (Nat.lt_of_lt_of_le hb HK4.out.size) (fun h => hs (.inr (by rw [h]; rfl)))).trans (HK4.out.block b hb hs)⟩
  have HPm5 := hide (HPm.out.trans ((hp.symm).cons (X1, X2, X3)))
  have HH := hide hh
  have HL5 := hide hl5
  clear hp hh hx5 ho5 hk5 hl5 cS hw3 z0 z1 HX4 HR4 HQ4 HO4 HK4
  obtain ⟨q0, -⟩ := HQ5.out 0 _ rfl
  obtain ⟨q1, -⟩ := HQ5.out 1 _ rfl
  obtain ⟨q2, -⟩ := HQ5.out 2 _ rfl
  obtain ⟨r0, g0⟩ := HR5.out 0 _ rfl
  obtain ⟨r1, g1⟩ := HR5.out 1 _ rfl
  obtain ⟨r2, g2⟩ := HR5.out 2 _ rfl
  have HX6 : Hid (Bx bf (vs.set off (.slice (some ⟨gg, 0, none⟩) m cap)) (((w5.setCell ⟨w.heap.size, 0, none⟩ (.int .i64 X1)).setCell ⟨w.heap.size, 1, none⟩ (.int .i64 X2)).setCell ⟨w.heap.size, 2, none⟩ (.int .i64 X3))) := ((HX5.out.other (p := ⟨w.heap.size, 0, none⟩) hR9.symm _).other (p := ⟨w.heap.size, 1, none⟩) hR9.symm _).other (p := ⟨w.heap.size, 2, none⟩) hR9.symm _
  have hgo : ∀ j, (Value.slice (some ⟨gg, 0, none⟩) m cap).ownBlock ≠ some (Go.Addr.block ⟨w.heap.size, j, none⟩) := fun j h => hgR (by cases h; rfl)
  have HO6 : Hid ((((w5.setCell ⟨w.heap.size, 0, none⟩ (.int .i64 X1)).setCell ⟨w.heap.size, 1, none⟩ (.int .i64 X2)).setCell ⟨w.heap.size, 2, none⟩ (.int .i64 X3)).ownsRow B 59 3 (.slice (some ⟨gg, 0, none⟩) m cap) L'.length (ints (hl L'))) := by
    show World.ownsRow _ _ _ _ _ _ _
    rw [HL5.out]
    exact ownsRow_setCell_other (ownsRow_setCell_other (ownsRow_setCell_other HO5.out (a := ⟨w.heap.size, 0, none⟩) (hgo 0) _) (a := ⟨w.heap.size, 1, none⟩) (hgo 1) _) (a := ⟨w.heap.size, 2, none⟩) (hgo 2) _
  have HK6 := hide (((HK5.out.newSet (p := ⟨w.heap.size, 0, none⟩) (Nat.le_refl _) (.int .i64 X1)).newSet (p := ⟨w.heap.size, 1, none⟩) (Nat.le_refl _) (.int .i64 X2)).newSet (p := ⟨w.heap.size, 2, none⟩) (Nat.le_refl _) (.int .i64 X3))
  clear HQ5 HR5 HX5 HO5 HK5 hgo
  go_wp2_with fail
  exact bodyPost_ret (v := vW (X1, X2, X3)) (by simp [results, Try.results27, go_sem, r0, r1, r2]) rfl ⟨rfl, _, L', HPm5.out, HH.out, HX6.out, HO6.out, HK6.out, rfl⟩

end Go.Proofs.Ytekoioggamhlaaa

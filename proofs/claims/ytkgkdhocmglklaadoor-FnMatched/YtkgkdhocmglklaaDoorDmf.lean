/- The draws of a match and of a fit. -/
import Derived.Test.YtkgkdhocmglklaaDoorDpr
namespace Go.Proofs.YtkgkdhocmglklaaDoor
open Go.RowKit

/-- two volumes at hand, their boxes, the answers' boxes, the cursor -/
structure MS (p : Nat) (a : Option Addr) (len cap : Nat) (w : World) (q6 q7 : Nat) (V0 V1 V2 : Int) (L : List Int) (af : Option Addr) (cf : Nat) (U0 U1 U2 : Int) (M : List Int) (ag : Option Addr) (cg : Nat) (wr : World) : Prop where
  r1 : Bx w.heap.size z4 wr
  r2 : Bx (w.heap.size + 1) z4 wr
  b6 : Bx q6 (v4 V0 V1 V2 af L.length cf) wr
  b7 : Bx q7 (v4 U0 U1 U2 ag M.length cg) wr
  l6 : Ly (fun b => w.heap.size + 3 ≤ b) af L.length (fun k => L.getD k 0) wr
  l7 : Ly (fun b => w.heap.size + 3 ≤ b) ag M.length (fun k => M.getD k 0) wr
  cur : Cur p a len cap wr
  bl : Below w.heap.size w wr
structure MC (p : Nat) (w : World) (q6 q7 : Nat) : Prop where
  hp : p = w.heap.size + 2
  h6 : w.heap.size + 3 ≤ q6
  h7 : q7 = q6 + 1
theorem MS.step {p : Nat} {a : Option Addr} {len cap : Nat} {w : World} {q6 q7 : Nat} {V0 V1 V2 : Int} {L : List Int} {af : Option Addr} {cf : Nat} {U0 U1 U2 : Int} {M : List Int} {ag : Option Addr} {cg : Nat} {wr w' : World} (h : MS p a len cap w q6 q7 V0 V1 V2 L af cf U0 U1 U2 M ag cg wr) (hv : MC p w q6 q7) (hc : Cur p a len cap w') (hk : Kept p wr w') : MS p a len cap w q6 q7 V0 V1 V2 L af cf U0 U1 U2 M ag cg w' := by
  obtain ⟨h1, h2, h3⟩ := hv
  exact ⟨h.r1.kept hk (by omega), h.r2.kept hk (by omega), h.b6.kept hk (by omega), h.b7.kept hk (by omega), h.l6.kept hk (fun b hb => by omega), h.l7.kept hk (fun b hb => by omega), hc, h.bl.trans (hk.below (by omega) h.bl.size)⟩
theorem MS.next {p : Nat} {a : Option Addr} {len cap : Nat} {w : World} {q6 q7 : Nat} {V0 V1 V2 : Int} {L : List Int} {af : Option Addr} {cf : Nat} {U0 U1 U2 : Int} {M : List Int} {ag : Option Addr} {cg : Nat} {wr w' : World} (h : MS p a len cap w q6 q7 V0 V1 V2 L af cf U0 U1 U2 M ag cg wr) (hb : Below wr.heap.size wr w') : MS p a len cap w q6 q7 V0 V1 V2 L af cf U0 U1 U2 M ag cg w' :=
  ⟨h.r1.below hb h.r1.lt, h.r2.below hb h.r2.lt, h.b6.below hb h.b6.lt, h.b7.below hb h.b7.lt, h.l6.next hb, h.l7.next hb, h.cur.below hb, h.bl.trans (hb.mono h.bl.size)⟩
theorem MS.fin {p : Nat} {a : Option Addr} {len cap : Nat} {w : World} {q6 q7 : Nat} {V0 V1 V2 : Int} {L : List Int} {af : Option Addr} {cf : Nat} {U0 U1 U2 : Int} {M : List Int} {ag : Option Addr} {cg : Nat} {wr : World} (h : MS p a len cap w q6 q7 V0 V1 V2 L af cf U0 U1 U2 M ag cg wr) {R2 : Nat} (hR : w.heap.size + 1 = R2) {x0 x1 x2 x3 y0 y1 y2 y3 : Value} :
    Ly (fun b => w.heap.size ≤ b) af L.length (fun k => L.getD k 0) (set4 (set4 wr w.heap.size x0 x1 x2 x3) R2 y0 y1 y2 y3).drew ∧ Ly (fun b => w.heap.size ≤ b) ag M.length (fun k => M.getD k 0) (set4 (set4 wr w.heap.size x0 x1 x2 x3) R2 y0 y1 y2 y3).drew ∧ Below w.heap.size w (set4 (set4 wr w.heap.size x0 x1 x2 x3) R2 y0 y1 y2 y3).drew := by
  have hb : ∀ wx : World, Below wx.heap.size wx wx.drew := fun wx => (Below.refl _ _).drew
  exact ⟨((((h.l6.set4 (fun b hb => by omega) _ _ _ _).set4 (fun b hb => by omega) _ _ _ _).next (hb _)).mono (fun b hb => by omega)), ((((h.l7.set4 (fun b hb => by omega) _ _ _ _).set4 (fun b hb => by omega) _ _ _ _).next (hb _)).mono (fun b hb => by omega)), (below_set4 (below_set4 h.bl (Nat.le_refl _) _ _ _ _) (show w.heap.size ≤ R2 by omega) _ _ _ _).drew⟩
/-- two volumes and a number are drawn -/
def DrMt (w : World) (e : Ending) (w' : World) : Prop :=
  ∃ (V0 V1 V2 : Int) (L : List Int) (af : Option Addr) (cf : Nat) (U0 U1 U2 : Int) (M : List Int) (ag : Option Addr) (cg : Nat) (r : Int), e = .returned (.tuple #[vVolume V0 V1 V2 af L.length cf, vVolume U0 U1 U2 ag M.length cg, .int .i64 r]) ∧ L.length ≤ 1000 ∧ M.length ≤ 1000 ∧ (-1 ≤ r ∧ r ≤ 3) ∧
    Ly (fun b => w.heap.size ≤ b) af L.length (fun k => L.getD k 0) w' ∧ Ly (fun b => w.heap.size ≤ b) ag M.length (fun k => M.getD k 0) w' ∧ Below w.heap.size w w'
/-- two volumes and a fit are drawn -/
def DrFt (w : World) (e : Ending) (w' : World) : Prop :=
  ∃ (V0 V1 V2 : Int) (L : List Int) (af : Option Addr) (cf : Nat) (U0 U1 U2 : Int) (M : List Int) (ag : Option Addr) (cg : Nat) (t x y z : Int), e = .returned (.tuple #[vVolume V0 V1 V2 af L.length cf, vVolume U0 U1 U2 ag M.length cg, .int .i64 t, .int .i64 x, .int .i64 y, .int .i64 z]) ∧ (-1 ≤ t ∧ t ≤ 12) ∧ (-2 ≤ x ∧ x ≤ 2) ∧ (-2 ≤ y ∧ y ≤ 2) ∧ (-3 ≤ z ∧ z ≤ 4611686018427387904) ∧ Below w.heap.size w w'

set_option maxRecDepth 100000 in
set_option maxHeartbeats 4000000 in
theorem drawMatch_any (a : Option Addr) (len cap : Nat) (w : World) (h : Bytes a len w) :
    Calls Tryd.prog 13 #[.slice a len cap] w (DrMt w) := by
  have HAB := hide (bytes_lt h (B := w.heap.size) (Nat.le_refl _))
  obtain ⟨w1, hw1⟩ : ∃ w1, w1 = (w.alloc (.cells #[.int .i64 0, .int .i64 0, .int .i64 0, .slice none 0 0] 26)).alloc (.cells #[.int .i64 0, .int .i64 0, .int .i64 0, .slice none 0 0] 26) := ⟨_, rfl⟩
  have hb1 : Below w.heap.size w w1 := by rw [hw1]; exact (bnew _ _).alloc (by simp) _
  have hs1 : w1.heap.size = w.heap.size + 2 := by rw [hw1]; simp
  have HR1 : Hid (Bx w.heap.size z4 w1) := by
    rw [hw1]; exact (Bx.new z4 26 w).below (bnew _ _) (by simp)
  have HR2 : Hid (Bx (w.heap.size + 1) z4 w1) := by
    rw [hw1]
    have := Bx.new z4 26 (w.alloc (.cells #[.int .i64 0, .int .i64 0, .int .i64 0, .slice none 0 0] 26))
    rwa [show (w.alloc (.cells #[.int .i64 0, .int .i64 0, .int .i64 0, .slice none 0 0] 26)).heap.size = w.heap.size + 1 by simp] at this
  have hy1 := h.below hb1
  have hn := new_any a len cap w1 hy1
  have HBY := hide hy1
  have HB1 := hide hb1
  have HS1 := hide hs1
  clear h hb1 hs1 hy1
  go_enter Tryd.func13, Tryd.ntmps13
  go_upto_region 1 with fail
  rw [← hw1]
  clear hw1
  go_wp2_with fail
  refine hn.mono ?_
  rintro e w2 ⟨x, rfl, rfl⟩
  have hc := cur_new a len cap w1 HBY.out x
  have hb2 := bnew w1 (.cells #[.slice a len cap, .int .i64 0, .int .i64 x] 74)
  have hs2 : (w1.alloc (.cells #[.slice a len cap, .int .i64 0, .int .i64 x] 74)).heap.size = w.heap.size + 3 := by have := HS1.out; simp; omega
  have hs1 := HS1.out
  have HB2 := hide (HB1.out.trans (hb2.mono (by omega)))
  have HR1' := hide (HR1.out.below hb2 (by omega))
  have HR2' := hide (HR2.out.below hb2 (by omega))
  have HC2 := hide hc
  have HS2 := hide hs2
  rw [hs1] at HC2
  rw [hs1]
  clear hn hc hb2 hs2 hs1 HBY HB1 HR1 HR2 HS1
  generalize hw2 : w1.alloc (.cells #[.slice a len cap, .int .i64 0, .int .i64 x] 74) = w2 at *
  clear hw2
  obtain ⟨p, hp⟩ : ∃ p, p = w.heap.size + 2 := ⟨_, rfl⟩
  rw [← hp] at HC2
  rw [← hp]
  have HP := hide hp
  have c1 := l10DrawPair_any p a len cap w2 HC2.out (by have := HS2.out; omega) (HAB.out.imp id fun h b off e => by have := h b off e; have := HS2.out; omega)
  clear hp
  go_wp2_with fail
  refine c1.mono ?_
  rintro e w3 ⟨V0, V1, V2, L, af, cf, U0, U1, U2, M, ag, cg, rfl, hL, hM, l6, l7, hc, hk⟩
  have hs2 := HS2.out
  have hz := hk.size
  have hp := HP.out
  obtain ⟨w4, hw4⟩ : ∃ w4, w4 = (w3.alloc (.cells #[.int .i64 V0, .int .i64 V1, .int .i64 V2, .slice af L.length cf] 26)).alloc (.cells #[.int .i64 U0, .int .i64 U1, .int .i64 U2, .slice ag M.length cg] 26) := ⟨_, rfl⟩
  have hb3 : Below w3.heap.size w3 w4 := by rw [hw4]; exact (bnew _ _).alloc (by simp) _
  have HMC : Hid (MC p w w3.heap.size (w3.heap.size + 1)) := ⟨hp, by omega, rfl⟩
  have HM4 : Hid (MS p a len cap w w3.heap.size (w3.heap.size + 1) V0 V1 V2 L af cf U0 U1 U2 M ag cg w4) := by
    refine ⟨(HR1'.out.kept hk (by omega)).below hb3 (by omega), (HR2'.out.kept hk (by omega)).below hb3 (by omega), ?_, ?_, (l6.next hb3).mono (fun b hb => by omega), (l7.next hb3).mono (fun b hb => by omega), hc.below hb3, (HB2.out.trans (hk.below (by omega) (by omega))).trans (hb3.mono (by omega))⟩
    · rw [hw4]; exact (Bx.new (v4 V0 V1 V2 af L.length cf) 26 w3).below (bnew _ _) (by simp)
    · rw [hw4]
      have := Bx.new (v4 U0 U1 U2 ag M.length cg) 26 (w3.alloc (.cells #[.int .i64 V0, .int .i64 V1, .int .i64 V2, .slice af L.length cf] 26))
      rwa [show (w3.alloc (.cells #[.int .i64 V0, .int .i64 V1, .int .i64 V2, .slice af L.length cf] 26)).heap.size = w3.heap.size + 1 by simp] at this
  have HLM := hide (And.intro hL hM)
  clear c1 hL hM l6 l7 hc hk hs2 hz hp hb3 HB2 HR1' HR2' HC2 HS2 HAB
  go_upto_region 3 with fail
  rw [← hw4]
  clear hw4
  generalize hq7 : w3.heap.size + 1 = q7 at *
  generalize w3.heap.size = q6 at *
  clear hq7
  have c1 := below_any p a len cap w4 HM4.out.cur 2 (by omega) (by omega)
  go_wp2_with fail
  refine c1.mono ?_
  rintro e w5 ⟨r, rfl, hr0, hr1, hc, hk⟩
  have HM5 := hide (HM4.out.step HMC.out hc hk)
  clear c1 hc hk HM4
  have c1 := once_any p a len cap w5 HM5.out.cur 12 (by omega) (by omega)
  go_wp2_with fail
  refine c1.mono ?_
  rintro e w6 ⟨b, rfl, hc, hk⟩
  have HM6 := hide (HM5.out.step HMC.out hc hk)
  clear c1 hc hk HM5
  go_upto_if 19 with fail
  go_cut [8] (fun s wc => ∃ r : Int, s = .int .i64 r ∧ (-1 ≤ r ∧ r ≤ 3) ∧ MS p a len cap w q6 q7 V0 V1 V2 L af cf U0 U1 U2 M ag cg wc)
  case first =>
    cases b
    · go_wp2_with fail
      go_meet
      exact ⟨r, rfl, ⟨by omega, by omega⟩, HM6.out⟩
    · have h9 : True := trivial
      clear h9
      have hbt := bnew w6 (.cells #[.int .i64 (-1), .int .i64 2, .int .i64 3] 2)
      have HMt := hide (HM6.out.next hbt)
      have HTb : Hid (Bx w6.heap.size [.int .i64 (-1), .int .i64 2, .int .i64 3] (w6.alloc (.cells #[.int .i64 (-1), .int .i64 2, .int .i64 3] 2))) := Bx.new [.int .i64 (-1), .int .i64 2, .int .i64 3] 2 w6
      obtain ⟨wt, hwt⟩ : ∃ wt, w6.alloc (.cells #[.int .i64 (-1), .int .i64 2, .int .i64 3] 2) = wt := ⟨_, rfl⟩
      rw [hwt] at HMt HTb
      have HTL : Hid (w6.heap.size ≠ p) := by have := HMC.out.hp; have := HMC.out.h6; have := HM6.out.b6.lt; show _ ≠ _; omega
      have c1 := below_any p a len cap wt HMt.out.cur 3 (by omega) (by omega)
      clear hbt
      go_wp2_with fail
      refine c1.mono ?_
      rintro e w7 ⟨ix, rfl, ix0, ix1, hc, hk⟩
      have HM7 := hide (HMt.out.step HMC.out hc hk)
      have bt := HTb.out.kept hk HTL.out
      obtain ⟨x0, -⟩ := bt 0 _ rfl
      obtain ⟨x1, -⟩ := bt 1 _ rfl
      obtain ⟨x2, -⟩ := bt 2 _ rfl
      clear c1 hc hk bt HTb HMt HTL hwt HM6
      generalize w6.heap.size = Tq at *
      obtain rfl | rfl | rfl : ix = 0 ∨ ix = 1 ∨ ix = 2 := by omega
      · go_wp2_with fail
        go_meet
        exact ⟨(-1), rfl, ⟨by omega, by omega⟩, HM7.out⟩
      · go_wp2_with fail
        go_meet
        exact ⟨2, rfl, ⟨by omega, by omega⟩, HM7.out⟩
      · go_wp2_with fail
        go_meet
        exact ⟨3, rfl, ⟨by omega, by omega⟩, HM7.out⟩
  case rest =>
    obtain ⟨r, rfl, hr, hms⟩ := hcut
    obtain ⟨w7, hwc⟩ : ∃ w7, w7 = wc := ⟨_, rfl⟩
    rw [← hwc] at hms
    rw [← hwc]
    clear hwc HM6
    have HM7 := hide hms
    have HR := hide hr
    clear hms hr
    obtain ⟨x0, y0⟩ := HM7.out.b6 0 _ rfl
    obtain ⟨x1, y1⟩ := HM7.out.b6 1 _ rfl
    obtain ⟨x2, y2⟩ := HM7.out.b6 2 _ rfl
    obtain ⟨x3, y3⟩ := HM7.out.b6 3 _ rfl
    obtain ⟨g0, d0⟩ := HM7.out.b7 0 _ rfl
    obtain ⟨g1, d1⟩ := HM7.out.b7 1 _ rfl
    obtain ⟨g2, d2⟩ := HM7.out.b7 2 _ rfl
    obtain ⟨g3, d3⟩ := HM7.out.b7 3 _ rfl
    obtain ⟨e0, k0⟩ := HM7.out.r1 0 _ rfl
    obtain ⟨e1, k1⟩ := HM7.out.r1 1 _ rfl
    obtain ⟨e2, k2⟩ := HM7.out.r1 2 _ rfl
    obtain ⟨e3, k3⟩ := HM7.out.r1 3 _ rfl
    obtain ⟨i0, j0⟩ := HM7.out.r2 0 _ rfl
    obtain ⟨i1, j1⟩ := HM7.out.r2 1 _ rfl
    obtain ⟨i2, j2⟩ := HM7.out.r2 2 _ rfl
    obtain ⟨i3, j3⟩ := HM7.out.r2 3 _ rfl
    generalize hR2 : w.heap.size + 1 = R2 at *
    have hv := HMC.out
    have n1 : w.heap.size ≠ q6 := by have := hv.h6; omega
    have n2 : w.heap.size ≠ q7 := by have := hv.h6; have := hv.h7; omega
    have n3 : R2 ≠ q6 := by have := hv.h6; omega
    have n4 : R2 ≠ q7 := by have := hv.h6; have := hv.h7; omega
    have n5 : R2 ≠ w.heap.size := by omega
    have n6 : w.heap.size ≠ R2 := by omega
    have HR2 := hide hR2
    clear hR2 hv
    go_upto_region 6 with fail
    go_region
    all_goals
      go_wp2_with fail
      have hfin := HM7.out.fin HR2.out (x0 := .int .i64 V0) (x1 := .int .i64 V1) (x2 := .int .i64 V2) (x3 := .slice af L.length cf) (y0 := .int .i64 U0) (y1 := .int .i64 U1) (y2 := .int .i64 U2) (y3 := .slice ag M.length cg)
      refine bodyPost_ret (v := .tuple #[vVolume V0 V1 V2 af L.length cf, vVolume U0 U1 U2 ag M.length cg, .int .i64 r]) (by simp [results, Tryd.results13, go_sem, e0, e1, e2, e3, i0, i1, i2, i3]) rfl ?_
      unfold DrMt
      with_reducible exact ⟨V0, V1, V2, L, af, cf, U0, U1, U2, M, ag, cg, r, rfl, HLM.out.1, HLM.out.2, HR.out, hfin⟩

set_option maxRecDepth 100000 in
set_option maxHeartbeats 4000000 in
theorem drawFitCost_any (a : Option Addr) (len cap : Nat) (w : World) (h : Bytes a len w) :
    Calls Tryd.prog 14 #[.slice a len cap] w (DrFt w) := by
  have HAB := hide (bytes_lt h (B := w.heap.size) (Nat.le_refl _))
  obtain ⟨w1, hw1⟩ : ∃ w1, w1 = (w.alloc (.cells #[.int .i64 0, .int .i64 0, .int .i64 0, .slice none 0 0] 26)).alloc (.cells #[.int .i64 0, .int .i64 0, .int .i64 0, .slice none 0 0] 26) := ⟨_, rfl⟩
  have hb1 : Below w.heap.size w w1 := by rw [hw1]; exact (bnew _ _).alloc (by simp) _
  have hs1 : w1.heap.size = w.heap.size + 2 := by rw [hw1]; simp
  have HR1 : Hid (Bx w.heap.size z4 w1) := by
    rw [hw1]; exact (Bx.new z4 26 w).below (bnew _ _) (by simp)
  have HR2 : Hid (Bx (w.heap.size + 1) z4 w1) := by
    rw [hw1]
    have := Bx.new z4 26 (w.alloc (.cells #[.int .i64 0, .int .i64 0, .int .i64 0, .slice none 0 0] 26))
    rwa [show (w.alloc (.cells #[.int .i64 0, .int .i64 0, .int .i64 0, .slice none 0 0] 26)).heap.size = w.heap.size + 1 by simp] at this
  have hy1 := h.below hb1
  have hn := new_any a len cap w1 hy1
  have HBY := hide hy1
  have HB1 := hide hb1
  have HS1 := hide hs1
  clear h hb1 hs1 hy1
  go_enter Tryd.func14, Tryd.ntmps14
  go_upto_region 1 with fail
  rw [← hw1]
  clear hw1
  go_wp2_with fail
  refine hn.mono ?_
  rintro e w2 ⟨x, rfl, rfl⟩
  have hc := cur_new a len cap w1 HBY.out x
  have hb2 := bnew w1 (.cells #[.slice a len cap, .int .i64 0, .int .i64 x] 74)
  have hs2 : (w1.alloc (.cells #[.slice a len cap, .int .i64 0, .int .i64 x] 74)).heap.size = w.heap.size + 3 := by have := HS1.out; simp; omega
  have hs1 := HS1.out
  have HB2 := hide (HB1.out.trans (hb2.mono (by omega)))
  have HR1' := hide (HR1.out.below hb2 (by omega))
  have HR2' := hide (HR2.out.below hb2 (by omega))
  have HC2 := hide hc
  have HS2 := hide hs2
  rw [hs1] at HC2
  rw [hs1]
  clear hn hc hb2 hs2 hs1 HBY HB1 HR1 HR2 HS1
  generalize hw2 : w1.alloc (.cells #[.slice a len cap, .int .i64 0, .int .i64 x] 74) = w2 at *
  clear hw2
  obtain ⟨p, hp⟩ : ∃ p, p = w.heap.size + 2 := ⟨_, rfl⟩
  rw [← hp] at HC2
  rw [← hp]
  have HP := hide hp
  have c1 := l10DrawPair_any p a len cap w2 HC2.out (by have := HS2.out; omega) (HAB.out.imp id fun h b off e => by have := h b off e; have := HS2.out; omega)
  clear hp
  go_wp2_with fail
  refine c1.mono ?_
  rintro e w3 ⟨V0, V1, V2, L, af, cf, U0, U1, U2, M, ag, cg, rfl, hL, hM, l6, l7, hc, hk⟩
  have hs2 := HS2.out
  have hz := hk.size
  have hp := HP.out
  obtain ⟨w4, hw4⟩ : ∃ w4, w4 = (w3.alloc (.cells #[.int .i64 V0, .int .i64 V1, .int .i64 V2, .slice af L.length cf] 26)).alloc (.cells #[.int .i64 U0, .int .i64 U1, .int .i64 U2, .slice ag M.length cg] 26) := ⟨_, rfl⟩
  have hb3 : Below w3.heap.size w3 w4 := by rw [hw4]; exact (bnew _ _).alloc (by simp) _
  have HMC : Hid (MC p w w3.heap.size (w3.heap.size + 1)) := ⟨hp, by omega, rfl⟩
  have HM4 : Hid (MS p a len cap w w3.heap.size (w3.heap.size + 1) V0 V1 V2 L af cf U0 U1 U2 M ag cg w4) := by
    refine ⟨(HR1'.out.kept hk (by omega)).below hb3 (by omega), (HR2'.out.kept hk (by omega)).below hb3 (by omega), ?_, ?_, (l6.next hb3).mono (fun b hb => by omega), (l7.next hb3).mono (fun b hb => by omega), hc.below hb3, (HB2.out.trans (hk.below (by omega) (by omega))).trans (hb3.mono (by omega))⟩
    · rw [hw4]; exact (Bx.new (v4 V0 V1 V2 af L.length cf) 26 w3).below (bnew _ _) (by simp)
    · rw [hw4]
      have := Bx.new (v4 U0 U1 U2 ag M.length cg) 26 (w3.alloc (.cells #[.int .i64 V0, .int .i64 V1, .int .i64 V2, .slice af L.length cf] 26))
      rwa [show (w3.alloc (.cells #[.int .i64 V0, .int .i64 V1, .int .i64 V2, .slice af L.length cf] 26)).heap.size = w3.heap.size + 1 by simp] at this
  have HLM := hide (And.intro hL hM)
  clear c1 hL hM l6 l7 hc hk hs2 hz hp hb3 HB2 HR1' HR2' HC2 HS2 HAB
  go_upto_region 3 with fail
  rw [← hw4]
  clear hw4
  generalize hq7 : w3.heap.size + 1 = q7 at *
  generalize w3.heap.size = q6 at *
  clear hq7
  have c1 := below_any p a len cap w4 HM4.out.cur 12 (by omega) (by omega)
  go_wp2_with fail
  refine c1.mono ?_
  rintro e w5 ⟨t, rfl, ht0, ht1, hc, hk⟩
  have HM5 := hide (HM4.out.step HMC.out hc hk)
  clear c1 hc hk HM4
  have c1 := from_any p a len cap w5 HM5.out.cur (-2) 2 (by omega) (by omega) (by omega)
  go_wp2_with fail
  refine c1.mono ?_
  rintro e w6 ⟨x, rfl, hx0, hx1, hc, hk⟩
  have HM6 := hide (HM5.out.step HMC.out hc hk)
  clear c1 hc hk HM5
  have c1 := from_any p a len cap w6 HM6.out.cur (-2) 2 (by omega) (by omega) (by omega)
  go_wp2_with fail
  refine c1.mono ?_
  rintro e w7 ⟨y, rfl, hy0, hy1, hc, hk⟩
  have HM7 := hide (HM6.out.step HMC.out hc hk)
  clear c1 hc hk HM6
  have c1 := from_any p a len cap w7 HM7.out.cur (-2) 2 (by omega) (by omega) (by omega)
  go_wp2_with fail
  refine c1.mono ?_
  rintro e w8 ⟨z, rfl, hz0, hz1, hc, hk⟩
  have HM8 := hide (HM7.out.step HMC.out hc hk)
  clear c1 hc hk HM7
  have c1 := once_any p a len cap w8 HM8.out.cur 12 (by omega) (by omega)
  go_wp2_with fail
  refine c1.mono ?_
  rintro e w9 ⟨b, rfl, hc, hk⟩
  have HM9 := hide (HM8.out.step HMC.out hc hk)
  clear c1 hc hk HM8
  go_upto_if 31 with fail
  go_cut [11] (fun s wc => ∃ t : Int, s = .int .i64 t ∧ (-1 ≤ t ∧ t ≤ 12) ∧ MS p a len cap w q6 q7 V0 V1 V2 L af cf U0 U1 U2 M ag cg wc)
  case first =>
    cases b
    · go_wp2_with fail
      go_meet
      exact ⟨t, rfl, ⟨by omega, by omega⟩, HM9.out⟩
    · have h9 : True := trivial
      clear h9
      have hbt := bnew w9 (.cells #[.int .i64 (-1), .int .i64 12, .int .i64 11] 2)
      have HMt := hide (HM9.out.next hbt)
      have HTb : Hid (Bx w9.heap.size [.int .i64 (-1), .int .i64 12, .int .i64 11] (w9.alloc (.cells #[.int .i64 (-1), .int .i64 12, .int .i64 11] 2))) := Bx.new [.int .i64 (-1), .int .i64 12, .int .i64 11] 2 w9
      obtain ⟨wt, hwt⟩ : ∃ wt, w9.alloc (.cells #[.int .i64 (-1), .int .i64 12, .int .i64 11] 2) = wt := ⟨_, rfl⟩
      rw [hwt] at HMt HTb
      have HTL : Hid (w9.heap.size ≠ p) := by have := HMC.out.hp; have := HMC.out.h6; have := HM9.out.b6.lt; show _ ≠ _; omega
      have c1 := below_any p a len cap wt HMt.out.cur 3 (by omega) (by omega)
      clear hbt
      go_wp2_with fail
      refine c1.mono ?_
      rintro e w10 ⟨ix, rfl, ix0, ix1, hc, hk⟩
      have HM10 := hide (HMt.out.step HMC.out hc hk)
      have bt := HTb.out.kept hk HTL.out
      obtain ⟨x0, -⟩ := bt 0 _ rfl
      obtain ⟨x1, -⟩ := bt 1 _ rfl
      obtain ⟨x2, -⟩ := bt 2 _ rfl
      clear c1 hc hk bt HTb HMt HTL hwt HM9
      generalize w9.heap.size = Tq at *
      obtain rfl | rfl | rfl : ix = 0 ∨ ix = 1 ∨ ix = 2 := by omega
      · go_wp2_with fail
        go_meet
        exact ⟨(-1), rfl, ⟨by omega, by omega⟩, HM10.out⟩
      · go_wp2_with fail
        go_meet
        exact ⟨12, rfl, ⟨by omega, by omega⟩, HM10.out⟩
      · go_wp2_with fail
        go_meet
        exact ⟨11, rfl, ⟨by omega, by omega⟩, HM10.out⟩
  case rest =>
    obtain ⟨t, rfl, ht, hms⟩ := hcut
    obtain ⟨w10, hwc⟩ : ∃ w10, w10 = wc := ⟨_, rfl⟩
    rw [← hwc] at hms
    rw [← hwc]
    clear hwc HM9
    have HM10 := hide hms
    clear hms
    have c1 := once_any p a len cap w10 HM10.out.cur 16 (by omega) (by omega)
    go_wp2_with fail
    refine c1.mono ?_
    rintro e w11 ⟨b, rfl, hc, hk⟩
    have HM11 := hide (HM10.out.step HMC.out hc hk)
    clear c1 hc hk HM10
    go_upto_if 38 with fail
    go_cut [14] (fun s wc => ∃ z : Int, s = .int .i64 z ∧ (-3 ≤ z ∧ z ≤ 4611686018427387904) ∧ MS p a len cap w q6 q7 V0 V1 V2 L af cf U0 U1 U2 M ag cg wc)
    case first =>
      cases b
      · go_wp2_with fail
        go_meet
        exact ⟨z, rfl, ⟨by omega, by omega⟩, HM11.out⟩
      · have h9 : True := trivial
        clear h9
        have hbt := bnew w11 (.cells #[.int .i64 3, .int .i64 (-3), .int .i64 4611686018427387904] 2)
        have HMt := hide (HM11.out.next hbt)
        have HTb : Hid (Bx w11.heap.size [.int .i64 3, .int .i64 (-3), .int .i64 4611686018427387904] (w11.alloc (.cells #[.int .i64 3, .int .i64 (-3), .int .i64 4611686018427387904] 2))) := Bx.new [.int .i64 3, .int .i64 (-3), .int .i64 4611686018427387904] 2 w11
        obtain ⟨wt, hwt⟩ : ∃ wt, w11.alloc (.cells #[.int .i64 3, .int .i64 (-3), .int .i64 4611686018427387904] 2) = wt := ⟨_, rfl⟩
        rw [hwt] at HMt HTb
        have HTL : Hid (w11.heap.size ≠ p) := by have := HMC.out.hp; have := HMC.out.h6; have := HM11.out.b6.lt; show _ ≠ _; omega
        have c1 := below_any p a len cap wt HMt.out.cur 3 (by omega) (by omega)
        clear hbt
        go_wp2_with fail
        refine c1.mono ?_
        rintro e w12 ⟨ix, rfl, ix0, ix1, hc, hk⟩
        have HM12 := hide (HMt.out.step HMC.out hc hk)
        have bt := HTb.out.kept hk HTL.out
        obtain ⟨x0, -⟩ := bt 0 _ rfl
        obtain ⟨x1, -⟩ := bt 1 _ rfl
        obtain ⟨x2, -⟩ := bt 2 _ rfl
        clear c1 hc hk bt HTb HMt HTL hwt HM11
        generalize w11.heap.size = Tq at *
        obtain rfl | rfl | rfl : ix = 0 ∨ ix = 1 ∨ ix = 2 := by omega
        · go_wp2_with fail
          go_meet
          exact ⟨3, rfl, ⟨by omega, by omega⟩, HM12.out⟩
        · go_wp2_with fail
          go_meet
          exact ⟨(-3), rfl, ⟨by omega, by omega⟩, HM12.out⟩
        · go_wp2_with fail
          go_meet
          exact ⟨4611686018427387904, rfl, ⟨by omega, by omega⟩, HM12.out⟩
    case rest =>
      obtain ⟨z, rfl, hz, hms⟩ := hcut
      obtain ⟨w12, hwc⟩ : ∃ w12, w12 = wc := ⟨_, rfl⟩
      rw [← hwc] at hms
      rw [← hwc]
      clear hwc HM11
      have HM12 := hide hms
      have HR : Hid ((-1 ≤ t ∧ t ≤ 12) ∧ (-2 ≤ x ∧ x ≤ 2) ∧ (-2 ≤ y ∧ y ≤ 2) ∧ (-3 ≤ z ∧ z ≤ 4611686018427387904)) := ⟨ht, ⟨hx0, hx1⟩, ⟨hy0, hy1⟩, hz⟩
      clear hms ht hz hx0 hx1 hy0 hy1
      obtain ⟨x0, y0⟩ := HM12.out.b6 0 _ rfl
      obtain ⟨x1, y1⟩ := HM12.out.b6 1 _ rfl
      obtain ⟨x2, y2⟩ := HM12.out.b6 2 _ rfl
      obtain ⟨x3, y3⟩ := HM12.out.b6 3 _ rfl
      obtain ⟨g0, d0⟩ := HM12.out.b7 0 _ rfl
      obtain ⟨g1, d1⟩ := HM12.out.b7 1 _ rfl
      obtain ⟨g2, d2⟩ := HM12.out.b7 2 _ rfl
      obtain ⟨g3, d3⟩ := HM12.out.b7 3 _ rfl
      obtain ⟨e0, k0⟩ := HM12.out.r1 0 _ rfl
      obtain ⟨e1, k1⟩ := HM12.out.r1 1 _ rfl
      obtain ⟨e2, k2⟩ := HM12.out.r1 2 _ rfl
      obtain ⟨e3, k3⟩ := HM12.out.r1 3 _ rfl
      obtain ⟨i0, j0⟩ := HM12.out.r2 0 _ rfl
      obtain ⟨i1, j1⟩ := HM12.out.r2 1 _ rfl
      obtain ⟨i2, j2⟩ := HM12.out.r2 2 _ rfl
      obtain ⟨i3, j3⟩ := HM12.out.r2 3 _ rfl
      generalize hR2 : w.heap.size + 1 = R2 at *
      have hv := HMC.out
      have n1 : w.heap.size ≠ q6 := by have := hv.h6; omega
      have n2 : w.heap.size ≠ q7 := by have := hv.h6; have := hv.h7; omega
      have n3 : R2 ≠ q6 := by have := hv.h6; omega
      have n4 : R2 ≠ q7 := by have := hv.h6; have := hv.h7; omega
      have n5 : R2 ≠ w.heap.size := by omega
      have n6 : w.heap.size ≠ R2 := by omega
      have HR2 := hide hR2
      clear hR2 hv
      go_upto_region 11 with fail
      go_region
      all_goals
        go_wp2_with fail
        have hfin := HM12.out.fin HR2.out (x0 := .int .i64 V0) (x1 := .int .i64 V1) (x2 := .int .i64 V2) (x3 := .slice af L.length cf) (y0 := .int .i64 U0) (y1 := .int .i64 U1) (y2 := .int .i64 U2) (y3 := .slice ag M.length cg)
        refine bodyPost_ret (v := .tuple #[vVolume V0 V1 V2 af L.length cf, vVolume U0 U1 U2 ag M.length cg, .int .i64 t, .int .i64 x, .int .i64 y, .int .i64 z]) (by simp [results, Tryd.results14, go_sem, e0, e1, e2, e3, i0, i1, i2, i3]) rfl ?_
        unfold DrFt
        with_reducible exact ⟨V0, V1, V2, L, af, cf, U0, U1, U2, M, ag, cg, t, x, y, z, rfl, HR.out.1, HR.out.2.1, HR.out.2.2.1, HR.out.2.2.2, hfin.2.2⟩

end Go.Proofs.YtkgkdhocmglklaaDoor

/- Compose: the specification. -/
import Derived.Test.YtjdbiaoheoialaaCpn
import Derived.Test.YtjdbiaoheoialaaRgs
import Derived.Test.YtjdbiaoheoialaaRgv
namespace Go.Proofs.Ytjdbiaoheoialaa
open Go.RowKit

set_option maxRecDepth 100000 in
set_option maxHeartbeats 8000000 in
theorem specCompose_any (D : Int) (a0 : Option Addr) (n0 c0 : Nat) (M : Nat → Int) (hl0 : n0 ≤ 1048576) (a1 : Option Addr) (n1 c1 : Nat) (T : Nat → Int) (hl1 : n1 ≤ 1048576) (E : Int) (g0 : Option Addr) (m0 d0 : Nat) (L : Nat → Int) (hm0 : m0 ≤ 1048576) (g1 : Option Addr) (m1 d1 : Nat) (S : Nat → Int) (hm1 : m1 ≤ 1048576) (w : World) (h0 : Px a0 n0 M w) (h1 : Px a1 n1 T w) (k0 : Px g0 m0 L w) (k1 : Px g1 m1 S w) :
    Calls Try.prog 7 #[vFrame D a0 n0 c0 a1 n1 c1, vFrame E g0 m0 d0 g1 m1 d1] w (FrX (cmQ D n0 M n1 T E m0 L m1 S) (cmD D M T E L S) (cmM D M T E L S) (cmT D M T E L S) w) := by
  have HS0 := hide ((((St.start w).box [.slice a0 n0 c0, .slice a1 n1 c1, .int .i64 D] 26).box' [.slice g0 m0 d0, .slice g1 m1 d1, .int .i64 E] 26 (b := w.heap.size + 1) (by simp)).box' [.slice none 0 0, .slice none 0 0, .int .i64 0] 26 (b := w.heap.size + 2) (by simp))
  have c := fun w' h h' => specFrameOk_any D a0 n0 c0 M hl0 a1 n1 c1 T hl1 w' h h'
  have c' := fun w' h h' => specFrameOk_any E g0 m0 d0 L hm0 g1 m1 d1 S hm1 w' h h'
  have HP0 := hide h0
  have HP1 := hide h1
  have HK0 := hide k0
  have HK1 := hide k1
  clear h0 h1 k0 k1
  have HQ : Hid (cmQ D n0 M n1 T E m0 L m1 S = (frmB D n0 M n1 T && frmB E m0 L m1 S && frmB (cmD D M T E L S) 9 (cmM D M T E L S) 3 (cmT D M T E L S))) := by show _ = _; rfl
  generalize cmQ D n0 M n1 T E m0 L m1 S = Q at *
  cases hq0 : frmB D n0 M n1 T
  · have HN : Hid (Q = false) := by show _ = _; rw [HQ.out, hq0]; rfl
    rw [hq0] at c
    clear hq0 HQ c'
    go_enter Try.func7, Try.ntmps7
    go_wp2_with fail
    refine (c _ (HP0.out.below HS0.out.below) (HP1.out.below HS0.out.below)).mono ?_
    rintro e w1 ⟨rfl, hb⟩
    have HS1 := hide (HS0.out.next hb)
    clear hb c HS0
    have z0 := HS1.out.cell 0 rfl 0 rfl
    have e0 := HS1.out.free 0 rfl 0 rfl
    have z1 := HS1.out.cell 0 rfl 1 rfl
    have e1 := HS1.out.free 0 rfl 1 rfl
    have z2 := HS1.out.cell 0 rfl 2 rfl
    have e2 := HS1.out.free 0 rfl 2 rfl
    have HB := hide (((HS1.out.below.setCell (p := ⟨w.heap.size + 2, 0, none⟩) (show w.heap.size ≤ w.heap.size + 2 by omega) (.slice none 0 0)).setCell (p := ⟨w.heap.size + 2, 1, none⟩) (show w.heap.size ≤ w.heap.size + 2 by omega) (.slice none 0 0)).setCell (p := ⟨w.heap.size + 2, 2, none⟩) (show w.heap.size ≤ w.heap.size + 2 by omega) (.int .i64 0))
    clear HS1
    go_wp2_with fail
    exact bodyPost_ret (v := .tuple #[vFrame 0 none 0 0 none 0 0, .bool false]) (by simp [results, vFrame, Try.results7, go_sem, z0, z1, z2]) rfl (.inr ⟨HN.out, rfl, HB.out⟩)
  rw [hq0] at c
  cases hq1 : frmB E m0 L m1 S
  · have HN : Hid (Q = false) := by show _ = _; rw [HQ.out, hq0, hq1]; rfl
    rw [hq1] at c'
    clear hq0 hq1 HQ
    go_enter Try.func7, Try.ntmps7
    go_wp2_with fail
    refine (c _ (HP0.out.below HS0.out.below) (HP1.out.below HS0.out.below)).mono ?_
    rintro e w1 ⟨rfl, hb⟩
    have HS1 := hide (HS0.out.next hb)
    clear hb c HS0
    obtain ⟨i0, i1, i2⟩ := HS1.out.im3 1 rfl
    go_wp2_with fail
    refine (c' _ (HK0.out.below HS1.out.below) (HK1.out.below HS1.out.below)).mono ?_
    rintro e w2 ⟨rfl, hb⟩
    have HS2 := hide (HS1.out.next hb)
    clear hb c' HS1 i0 i1 i2
    have z0 := HS2.out.cell 0 rfl 0 rfl
    have e0 := HS2.out.free 0 rfl 0 rfl
    have z1 := HS2.out.cell 0 rfl 1 rfl
    have e1 := HS2.out.free 0 rfl 1 rfl
    have z2 := HS2.out.cell 0 rfl 2 rfl
    have e2 := HS2.out.free 0 rfl 2 rfl
    have HB := hide (((HS2.out.below.setCell (p := ⟨w.heap.size + 2, 0, none⟩) (show w.heap.size ≤ w.heap.size + 2 by omega) (.slice none 0 0)).setCell (p := ⟨w.heap.size + 2, 1, none⟩) (show w.heap.size ≤ w.heap.size + 2 by omega) (.slice none 0 0)).setCell (p := ⟨w.heap.size + 2, 2, none⟩) (show w.heap.size ≤ w.heap.size + 2 by omega) (.int .i64 0))
    clear HS2
    go_wp2_with fail
    exact bodyPost_ret (v := .tuple #[vFrame 0 none 0 0 none 0 0, .bool false]) (by simp [results, vFrame, Try.results7, go_sem, z0, z1, z2]) rfl (.inr ⟨HN.out, rfl, HB.out⟩)
  rw [hq1] at c'
  have HQ2 : Hid (Q = frmB (cmD D M T E L S) 9 (cmM D M T E L S) 3 (cmT D M T E L S)) := by show _ = _; rw [HQ.out, hq0, hq1]; rfl
  obtain ⟨x1, x2, bD, bM, bT, -⟩ := frmB_parts hq0
  obtain ⟨x3, x4, bE, bL, bS, -⟩ := frmB_parts hq1
  clear hq0 hq1 HQ
  subst x1 x2 x3 x4
  obtain ⟨b, off, rfl, hbl⟩ := HP0.out.lt (by omega)
  obtain ⟨b', off', rfl, hbl'⟩ := HP1.out.lt (by omega)
  obtain ⟨g, og, rfl, hgl⟩ := HK0.out.lt (by omega)
  obtain ⟨g', og', rfl, hgl'⟩ := HK1.out.lt (by omega)
  have BM := hide bM
  have BT := hide bT
  have BL := hide bL
  have BS := hide bS
  have BD := hide bD
  have BE := hide bE
  clear bM bT bL bS bD bE hbl hbl' hgl hgl' hl0 hl1 hm0 hm1
  go_enter Try.func7, Try.ntmps7
  go_wp2_with fail
  refine (c _ (HP0.out.below HS0.out.below) (HP1.out.below HS0.out.below)).mono ?_
  rintro e w1 ⟨rfl, hb⟩
  have HS1 := hide (HS0.out.next hb)
  clear hb c HS0
  obtain ⟨i0, i1, i2⟩ := HS1.out.im3 1 rfl
  go_wp2_with fail
  refine (c' _ (HK0.out.below HS1.out.below) (HK1.out.below HS1.out.below)).mono ?_
  rintro e w2 ⟨rfl, hb⟩
  have HS2 := hide (HS1.out.next hb)
  clear hb c' HS1 i0 i1 i2
  have mk9 : ∀ wx : World, (Instr.makeSlice 24 (.int .i64 9) (.int .i64 9)).run Try.prog wx = .ok (.slice (some ⟨wx.heap.size, 0, none⟩) 9 9) (wx.alloc (.cells (c9 (hy (fun _ => 0) 0)).toArray 2)) := fun wx => by have := make_px 9 (by omega) wx; rw [made9] at this; exact this
  have mk3 : ∀ wx : World, (Instr.makeSlice 24 (.int .i64 3) (.int .i64 3)).run Try.prog wx = .ok (.slice (some ⟨wx.heap.size, 0, none⟩) 3 3) (wx.alloc (.cells (c3 (hy (fun _ => 0) 0)).toArray 2)) := fun wx => by have := make_px 3 (by omega) wx; rw [made3] at this; exact this
  have HS3 := hide ((HS2.out.box (c9 (hy (bhM M L) 0)) 2).box' (c3 (hy (bhT M T S E) 0)) 2 (b := w2.heap.size + 1) (by simp))
  have hc9 : c9 (hy (fun _ => 0) 0) = c9 (hy (bhM M L) 0) := rfl
  have hc3 : c3 (hy (fun _ => 0) 0) = c3 (hy (bhT M T S E) 0) := rfl
  rw [hc9] at mk9
  rw [hc3] at mk3
  clear hc9 hc3
  generalize hA9 : (c9 (hy (bhM M L) 0)).toArray = A9 at *
  generalize hA3 : (c3 (hy (bhT M T S E) 0)).toArray = A3 at *
  clear HS2
  go_upto_region 5 with fail
  generalize w2.heap.size + 1 = bt at *
  generalize w2.heap.size = bm at *
  generalize (w2.alloc (.cells A9 2)).alloc (.cells A3 2) = w3 at *
  clear hA9 hA3 mk9 mk3
  go_wp2_with fail
  go_loopw [8] (fun i wr => ∃ j : Nat, j ≤ 3 ∧ i = .int .i64 j ∧ St w [(bt, c3 (hy (bhT M T S E) (j))), (bm, c9 (hy (bhM M L) (3 * j))), (w.heap.size + 2, [.slice none 0 0, .slice none 0 0, .int .i64 0]), (w.heap.size + 1, [.slice (some ⟨g, og, none⟩) 9 d0, .slice (some ⟨g', og', none⟩) 3 d1, .int .i64 E]), (w.heap.size, [.slice (some ⟨b, off, none⟩) 9 c0, .slice (some ⟨b', off', none⟩) 3 c1, .int .i64 D])] [] wr) (fun i _ => 3 - (intOf i).toNat)
  case atStart => exact ⟨0, by omega, rfl, HS3.out⟩
  case round =>
    obtain ⟨i, hi, rfl, hst⟩ := hrel
    have HSo := hide hst
    clear hst HS3
    obtain ⟨wo, hwo⟩ : ∃ wo, wo = wr := ⟨_, rfl⟩
    rw [← hwo] at HSo
    rw [← hwo]
    clear hwo
    by_cases hlt : i < 3
    · have hii : (i : Int) < 3 := by omega
      go_wp2_with fail
      go_loopw [9] (fun k wr => ∃ q : Nat, q ≤ 3 ∧ k = .int .i64 q ∧ St w [(bt, c3 (hy (bhT M T S E) (i))), (bm, c9 (hy (bhM M L) (3 * i + q))), (w.heap.size + 2, [.slice none 0 0, .slice none 0 0, .int .i64 0]), (w.heap.size + 1, [.slice (some ⟨g, og, none⟩) 9 d0, .slice (some ⟨g', og', none⟩) 3 d1, .int .i64 E]), (w.heap.size, [.slice (some ⟨b, off, none⟩) 9 c0, .slice (some ⟨b', off', none⟩) 3 c1, .int .i64 D])] [] wr) (fun k _ => 3 - (intOf k).toNat)
      case atStart => exact ⟨0, by omega, rfl, HSo.out⟩
      case round =>
        obtain ⟨k, hk, rfl, hst⟩ := hrel
        have HSi := hide hst
        clear hst HSo
        obtain ⟨wi, hwi⟩ : ∃ wi, wi = wr := ⟨_, rfl⟩
        rw [← hwi] at HSi
        rw [← hwi]
        clear hwi
        by_cases hkl : k < 3
        · have hkk : (k : Int) < 3 := by omega
          obtain ⟨p0, hp0⟩ : ∃ x : Nat, x = 3 * i := ⟨_, rfl⟩
          have lp0 : (p0 : Int) < 9 := by omega
          obtain ⟨p1, hp1⟩ : ∃ x : Nat, x = 3 * i + 1 := ⟨_, rfl⟩
          have lp1 : (p1 : Int) < 9 := by omega
          obtain ⟨p2, hp2⟩ : ∃ x : Nat, x = 3 * i + 2 := ⟨_, rfl⟩
          have lp2 : (p2 : Int) < 9 := by omega
          obtain ⟨pk, hpk⟩ : ∃ x : Nat, x = 3 * i + k := ⟨_, rfl⟩
          have lpk : (pk : Int) < 9 := by omega
          obtain ⟨k3, hk3⟩ : ∃ x : Nat, x = 3 + k := ⟨_, rfl⟩
          have lk3 : (k3 : Int) < 9 := by omega
          obtain ⟨k6, hk6⟩ : ∃ x : Nat, x = 6 + k := ⟨_, rfl⟩
          have lk6 : (k6 : Int) < 9 := by omega
          have lk : (k : Int) < 9 := by omega
          have mMp0 : Hid (wi.cell? ⟨b, off + p0, none⟩ = some (Value.int .i64 (M p0))) := by obtain ⟨_, _, heq, hz⟩ := (HP0.out.below HSi.out.below).at (show p0 < 9 by omega); cases heq; exact hz
          have mMp1 : Hid (wi.cell? ⟨b, off + p1, none⟩ = some (Value.int .i64 (M p1))) := by obtain ⟨_, _, heq, hz⟩ := (HP0.out.below HSi.out.below).at (show p1 < 9 by omega); cases heq; exact hz
          have mMp2 : Hid (wi.cell? ⟨b, off + p2, none⟩ = some (Value.int .i64 (M p2))) := by obtain ⟨_, _, heq, hz⟩ := (HP0.out.below HSi.out.below).at (show p2 < 9 by omega); cases heq; exact hz
          have mLk : Hid (wi.cell? ⟨g, og + k, none⟩ = some (Value.int .i64 (L k))) := by obtain ⟨_, _, heq, hz⟩ := (HK0.out.below HSi.out.below).at (show k < 9 by omega); cases heq; exact hz
          have mLk3 : Hid (wi.cell? ⟨g, og + k3, none⟩ = some (Value.int .i64 (L k3))) := by obtain ⟨_, _, heq, hz⟩ := (HK0.out.below HSi.out.below).at (show k3 < 9 by omega); cases heq; exact hz
          have mLk6 : Hid (wi.cell? ⟨g, og + k6, none⟩ = some (Value.int .i64 (L k6))) := by obtain ⟨_, _, heq, hz⟩ := (HK0.out.below HSi.out.below).at (show k6 < 9 by omega); cases heq; exact hz
          have e0 : IntKind.i64.wrap (3 * (i : Int)) = (p0 : Int) := by rw [IntKind.wrap_i64]; omega
          have e1 : IntKind.i64.wrap ((p0 : Int) + 1) = (p1 : Int) := by rw [IntKind.wrap_i64]; omega
          have e2 : IntKind.i64.wrap ((p0 : Int) + 2) = (p2 : Int) := by rw [IntKind.wrap_i64]; omega
          have ek : IntKind.i64.wrap ((p0 : Int) + (k : Int)) = (pk : Int) := by rw [IntKind.wrap_i64]; omega
          have e3 : IntKind.i64.wrap (3 + (k : Int)) = (k3 : Int) := by rw [IntKind.wrap_i64]; omega
          have e6 : IntKind.i64.wrap (6 + (k : Int)) = (k6 : Int) := by rw [IntKind.wrap_i64]; omega
          have nd0 := mul_b6 (BM.out p0 (by omega)) (BL.out k (by omega))
          obtain ⟨Y0, hY0⟩ : ∃ Y, Y = M p0 * L k := ⟨_, rfl⟩
          rw [← hY0] at nd0
          have nd1 := mul_b6 (BM.out p1 (by omega)) (BL.out k3 (by omega))
          obtain ⟨Y1, hY1⟩ : ∃ Y, Y = M p1 * L k3 := ⟨_, rfl⟩
          rw [← hY1] at nd1
          have nd2 := mul_b6 (BM.out p2 (by omega)) (BL.out k6 (by omega))
          obtain ⟨Y2, hY2⟩ : ∃ Y, Y = M p2 * L k6 := ⟨_, rfl⟩
          rw [← hY2] at nd2
          obtain ⟨Y3, hY3⟩ : ∃ Y, Y = Y0 + Y1 := ⟨_, rfl⟩
          obtain ⟨X, hX⟩ : ∃ Y, Y = Y3 + Y2 := ⟨_, rfl⟩
          have v0 : IntKind.i64.wrap (M p0 * L k) = Y0 := by rw [IntKind.wrap_i64, ← hY0]; omega
          have v1 : IntKind.i64.wrap (M p1 * L k3) = Y1 := by rw [IntKind.wrap_i64, ← hY1]; omega
          have v2 : IntKind.i64.wrap (M p2 * L k6) = Y2 := by rw [IntKind.wrap_i64, ← hY2]; omega
          have v3 : IntKind.i64.wrap (Y0 + Y1) = Y3 := by rw [IntKind.wrap_i64]; omega
          have v4 : IntKind.i64.wrap (Y3 + Y2) = X := by rw [IntKind.wrap_i64]; omega
          have HX : Hid (X = bhM M L (3 * i + k)) := by show _ = _; rw [bhM_at M L hkl, hX, hY3, hY0, hY1, hY2, hp0, hp1, hp2, hk3, hk6]
          have HSN : Hid (St w [(bt, c3 (hy (bhT M T S E) (i))), (bm, c9 (hy (bhM M L) (3 * i + k + 1))), (w.heap.size + 2, [.slice none 0 0, .slice none 0 0, .int .i64 0]), (w.heap.size + 1, [.slice (some ⟨g, og, none⟩) 9 d0, .slice (some ⟨g', og', none⟩) 3 d1, .int .i64 E]), (w.heap.size, [.slice (some ⟨b, off, none⟩) 9 c0, .slice (some ⟨b', off', none⟩) 3 c1, .int .i64 D])] [] (wi.drew.setCell ⟨bm, pk, none⟩ (.int .i64 X))) := by
            have h := St.fill (L1 := [(bt, c3 (hy (bhT M T S E) i))]) HSi.out.drew pk (.int .i64 X)
            rw [HX.out, hpk, c9_hy (bhM M L) (show 3 * i + k < 9 by omega)] at h
            rw [HX.out, hpk]
            exact h
          have HOC : Hid (wi.cell? ⟨bm, pk, none⟩ = some (.int .i64 (hy (bhM M L) (3 * i + k) pk))) := HSi.out.cell 1 rfl pk (c9_at _ (by omega))
          have HOF : Hid (wi.frozen? ⟨bm, pk, none⟩ = false) := HSi.out.free 1 rfl pk (c9_at _ (by omega))
          have HIK : Hid (i < 3 ∧ k < 3) := ⟨hlt, hkl⟩
          clear hY0 hY1 hY2 hY3 hX nd0 nd1 nd2 hp0 hp1 hp2 hpk hk3 hk6 hlt hkl hi hk
          generalize hy (bhM M L) (3 * i + k) pk = OLD at *
          go_upto_region 11 with fail
          obtain ⟨G, hG⟩ : ∃ G : Nat → Value → Prop, G = (fun j v => match j with | 0 => v = .slice (some ⟨bm, 0, none⟩) 9 9 | 1 => v = .int .i64 (i : Int) | 2 => v = .int .i64 (p0 : Int) | 3 => v = .int .i64 (k : Int) | 4 => v = .int .i64 (pk : Int) | 5 => v = .pointer (some ⟨w.heap.size, 0, none⟩) | 6 => v = .slice (some ⟨b, off, none⟩) 9 c0 | 7 => v = .int .i64 (i : Int) | 8 => v = .int .i64 (p0 : Int) | 9 => v = .pointer (some ⟨b, off + p0, none⟩) | 10 => v = .int .i64 (M p0) | 11 => v = .pointer (some ⟨(w.heap.size + 1), 0, none⟩) | 12 => v = .slice (some ⟨g, og, none⟩) 9 d0 | 13 => v = .int .i64 (k : Int) | 14 => v = .pointer (some ⟨g, og + k, none⟩) | 15 => v = .int .i64 (L k) | 16 => v = .int .i64 Y0 | 17 => v = .pointer (some ⟨w.heap.size, 0, none⟩) | 18 => v = .slice (some ⟨b, off, none⟩) 9 c0 | 19 => v = .int .i64 (i : Int) | 20 => v = .int .i64 (p0 : Int) | 21 => v = .int .i64 (p1 : Int) | 22 => v = .pointer (some ⟨b, off + p1, none⟩) | 23 => v = .int .i64 (M p1) | 24 => v = .pointer (some ⟨(w.heap.size + 1), 0, none⟩) | 25 => v = .slice (some ⟨g, og, none⟩) 9 d0 | 26 => v = .int .i64 (k : Int) | 27 => v = .int .i64 (k3 : Int) | 28 => v = .pointer (some ⟨g, og + k3, none⟩) | 29 => v = .int .i64 (L k3) | 30 => v = .int .i64 Y1 | 31 => v = .int .i64 Y3 | 32 => v = .pointer (some ⟨w.heap.size, 0, none⟩) | 33 => v = .slice (some ⟨b, off, none⟩) 9 c0 | 34 => v = .int .i64 (i : Int) | 35 => v = .int .i64 (p0 : Int) | 36 => v = .int .i64 (p2 : Int) | 37 => v = .pointer (some ⟨b, off + p2, none⟩) | 38 => v = .int .i64 (M p2) | 39 => v = .pointer (some ⟨(w.heap.size + 1), 0, none⟩) | 40 => v = .slice (some ⟨g, og, none⟩) 9 d0 | 41 => v = .int .i64 (k : Int) | 42 => v = .int .i64 (k6 : Int) | 43 => v = .pointer (some ⟨g, og + k6, none⟩) | 44 => v = .int .i64 (L k6) | 45 => v = .int .i64 Y2 | 46 => v = .int .i64 X | 47 => v = .pointer (some ⟨bm, pk, none⟩) | _ => True) := ⟨_, rfl⟩
          have G0 : Hid (∀ v, G 0 v ↔ v = .slice (some ⟨bm, 0, none⟩) 9 9) := fun v => by rw [hG]; exact Iff.rfl
          have G1 : Hid (∀ v, G 1 v ↔ v = .int .i64 (i : Int)) := fun v => by rw [hG]; exact Iff.rfl
          have G2 : Hid (∀ v, G 2 v ↔ v = .int .i64 (p0 : Int)) := fun v => by rw [hG]; exact Iff.rfl
          have G3 : Hid (∀ v, G 3 v ↔ v = .int .i64 (k : Int)) := fun v => by rw [hG]; exact Iff.rfl
          have G4 : Hid (∀ v, G 4 v ↔ v = .int .i64 (pk : Int)) := fun v => by rw [hG]; exact Iff.rfl
          have G5 : Hid (∀ v, G 5 v ↔ v = .pointer (some ⟨w.heap.size, 0, none⟩)) := fun v => by rw [hG]; exact Iff.rfl
          have G6 : Hid (∀ v, G 6 v ↔ v = .slice (some ⟨b, off, none⟩) 9 c0) := fun v => by rw [hG]; exact Iff.rfl
          have G7 : Hid (∀ v, G 7 v ↔ v = .int .i64 (i : Int)) := fun v => by rw [hG]; exact Iff.rfl
          have G8 : Hid (∀ v, G 8 v ↔ v = .int .i64 (p0 : Int)) := fun v => by rw [hG]; exact Iff.rfl
          have G9 : Hid (∀ v, G 9 v ↔ v = .pointer (some ⟨b, off + p0, none⟩)) := fun v => by rw [hG]; exact Iff.rfl
          have G10 : Hid (∀ v, G 10 v ↔ v = .int .i64 (M p0)) := fun v => by rw [hG]; exact Iff.rfl
          have G11 : Hid (∀ v, G 11 v ↔ v = .pointer (some ⟨(w.heap.size + 1), 0, none⟩)) := fun v => by rw [hG]; exact Iff.rfl
          have G12 : Hid (∀ v, G 12 v ↔ v = .slice (some ⟨g, og, none⟩) 9 d0) := fun v => by rw [hG]; exact Iff.rfl
          have G13 : Hid (∀ v, G 13 v ↔ v = .int .i64 (k : Int)) := fun v => by rw [hG]; exact Iff.rfl
          have G14 : Hid (∀ v, G 14 v ↔ v = .pointer (some ⟨g, og + k, none⟩)) := fun v => by rw [hG]; exact Iff.rfl
          have G15 : Hid (∀ v, G 15 v ↔ v = .int .i64 (L k)) := fun v => by rw [hG]; exact Iff.rfl
          have G16 : Hid (∀ v, G 16 v ↔ v = .int .i64 Y0) := fun v => by rw [hG]; exact Iff.rfl
          have G17 : Hid (∀ v, G 17 v ↔ v = .pointer (some ⟨w.heap.size, 0, none⟩)) := fun v => by rw [hG]; exact Iff.rfl
          have G18 : Hid (∀ v, G 18 v ↔ v = .slice (some ⟨b, off, none⟩) 9 c0) := fun v => by rw [hG]; exact Iff.rfl
          have G19 : Hid (∀ v, G 19 v ↔ v = .int .i64 (i : Int)) := fun v => by rw [hG]; exact Iff.rfl
          have G20 : Hid (∀ v, G 20 v ↔ v = .int .i64 (p0 : Int)) := fun v => by rw [hG]; exact Iff.rfl
          have G21 : Hid (∀ v, G 21 v ↔ v = .int .i64 (p1 : Int)) := fun v => by rw [hG]; exact Iff.rfl
          have G22 : Hid (∀ v, G 22 v ↔ v = .pointer (some ⟨b, off + p1, none⟩)) := fun v => by rw [hG]; exact Iff.rfl
          have G23 : Hid (∀ v, G 23 v ↔ v = .int .i64 (M p1)) := fun v => by rw [hG]; exact Iff.rfl
          have G24 : Hid (∀ v, G 24 v ↔ v = .pointer (some ⟨(w.heap.size + 1), 0, none⟩)) := fun v => by rw [hG]; exact Iff.rfl
          have G25 : Hid (∀ v, G 25 v ↔ v = .slice (some ⟨g, og, none⟩) 9 d0) := fun v => by rw [hG]; exact Iff.rfl
          have G26 : Hid (∀ v, G 26 v ↔ v = .int .i64 (k : Int)) := fun v => by rw [hG]; exact Iff.rfl
          have G27 : Hid (∀ v, G 27 v ↔ v = .int .i64 (k3 : Int)) := fun v => by rw [hG]; exact Iff.rfl
          have G28 : Hid (∀ v, G 28 v ↔ v = .pointer (some ⟨g, og + k3, none⟩)) := fun v => by rw [hG]; exact Iff.rfl
          have G29 : Hid (∀ v, G 29 v ↔ v = .int .i64 (L k3)) := fun v => by rw [hG]; exact Iff.rfl
          have G30 : Hid (∀ v, G 30 v ↔ v = .int .i64 Y1) := fun v => by rw [hG]; exact Iff.rfl
          have G31 : Hid (∀ v, G 31 v ↔ v = .int .i64 Y3) := fun v => by rw [hG]; exact Iff.rfl
          have G32 : Hid (∀ v, G 32 v ↔ v = .pointer (some ⟨w.heap.size, 0, none⟩)) := fun v => by rw [hG]; exact Iff.rfl
          have G33 : Hid (∀ v, G 33 v ↔ v = .slice (some ⟨b, off, none⟩) 9 c0) := fun v => by rw [hG]; exact Iff.rfl
          have G34 : Hid (∀ v, G 34 v ↔ v = .int .i64 (i : Int)) := fun v => by rw [hG]; exact Iff.rfl
          have G35 : Hid (∀ v, G 35 v ↔ v = .int .i64 (p0 : Int)) := fun v => by rw [hG]; exact Iff.rfl
          have G36 : Hid (∀ v, G 36 v ↔ v = .int .i64 (p2 : Int)) := fun v => by rw [hG]; exact Iff.rfl
          have G37 : Hid (∀ v, G 37 v ↔ v = .pointer (some ⟨b, off + p2, none⟩)) := fun v => by rw [hG]; exact Iff.rfl
          have G38 : Hid (∀ v, G 38 v ↔ v = .int .i64 (M p2)) := fun v => by rw [hG]; exact Iff.rfl
          have G39 : Hid (∀ v, G 39 v ↔ v = .pointer (some ⟨(w.heap.size + 1), 0, none⟩)) := fun v => by rw [hG]; exact Iff.rfl
          have G40 : Hid (∀ v, G 40 v ↔ v = .slice (some ⟨g, og, none⟩) 9 d0) := fun v => by rw [hG]; exact Iff.rfl
          have G41 : Hid (∀ v, G 41 v ↔ v = .int .i64 (k : Int)) := fun v => by rw [hG]; exact Iff.rfl
          have G42 : Hid (∀ v, G 42 v ↔ v = .int .i64 (k6 : Int)) := fun v => by rw [hG]; exact Iff.rfl
          have G43 : Hid (∀ v, G 43 v ↔ v = .pointer (some ⟨g, og + k6, none⟩)) := fun v => by rw [hG]; exact Iff.rfl
          have G44 : Hid (∀ v, G 44 v ↔ v = .int .i64 (L k6)) := fun v => by rw [hG]; exact Iff.rfl
          have G45 : Hid (∀ v, G 45 v ↔ v = .int .i64 Y2) := fun v => by rw [hG]; exact Iff.rfl
          have G46 : Hid (∀ v, G 46 v ↔ v = .int .i64 X) := fun v => by rw [hG]; exact Iff.rfl
          have G47 : Hid (∀ v, G 47 v ↔ v = .pointer (some ⟨bm, pk, none⟩)) := fun v => by rw [hG]; exact Iff.rfl
          have G48 : Hid (∀ v, G 48 v) := fun v => by rw [hG]; trivial
          clear hG
          obtain ⟨PP, hPP⟩ : ∃ P : World → Prop, P = (fun wx => wx = wi.drew.setCell ⟨bm, pk, none⟩ (.int .i64 X)) := ⟨_, rfl⟩
          refine region_opsV (sR 48 wi) (sF 48 G PP) (by kernel_rfl) (by kernel_rfl) (by kernel_rfl) (by kernel_rfl) (fun _ => rfl) ?_ ?_
          · refine ⟨?_, ?_, ?_, ?_, ?_, ?_, ?_, ?_, ?_, ?_, ?_, ?_, ?_, ?_, ?_, ?_, ?_, ?_, ?_, ?_, ?_, ?_, ?_, ?_, ?_, ?_, ?_, ?_, ?_, ?_, ?_, ?_, ?_, ?_, ?_, ?_, ?_, ?_, ?_, ?_, ?_, ?_, ?_, ?_, ?_, ?_, ?_, ?_, ?_, trivial⟩
            ·
              intro u w21 au hsl hel hu hF hp' K hK
              have t6 : au.tmps[6]?.getD undef = .slice (some ⟨bm, 0, none⟩) 9 9 := (hel.out 6 (by kernel_rfl)).trans (by kernel_rfl)
              refine step_plain rfl ?_
              go_simp
              exact hK.out (.slice (some ⟨bm, 0, none⟩) 9 9) _ (sR_up hF 0 (by omega) _) (sF_val 0 (by omega) ((G0.out _).2 rfl)) (fun j hj hf h => sF_up 0 _ j hj (fun e => by subst e; exact absurd (Eq.trans (Eq.symm (by kernel_rfl)) hf) Bool.false_ne_true) h)
            ·
              intro u w21 au hsl hel hu hF hp' K hK
              have t8 : au.tmps[8]?.getD undef = .int .i64 (i : Int) := (hel.out 8 (by kernel_rfl)).trans (by kernel_rfl)
              refine step_plain rfl ?_
              go_simp
              exact hK.out (.int .i64 (i : Int)) _ (sR_up hF 1 (by omega) _) (sF_val 1 (by omega) ((G1.out _).2 rfl)) (fun j hj hf h => sF_up 1 _ j hj (fun e => by subst e; exact absurd (Eq.trans (Eq.symm (by kernel_rfl)) hf) Bool.false_ne_true) h)
            ·
              intro u w21 au hsl hel hu hF hp' K hK
              have h1 : u 1 = .int .i64 (i : Int) := (G1.out _).1 (PreF.get hp' 1 (by kernel_rfl)).1
              have t30 : au.tmps[30]?.getD undef = u 1 := hsl.out 1 30 (by kernel_rfl)
              rw [h1] at t30
              refine step_plain rfl ?_
              go_simp
              exact hK.out (.int .i64 (p0 : Int)) _ (sR_up hF 2 (by omega) _) (sF_val 2 (by omega) ((G2.out _).2 rfl)) (fun j hj hf h => sF_up 2 _ j hj (fun e => by subst e; exact absurd (Eq.trans (Eq.symm (by kernel_rfl)) hf) Bool.false_ne_true) h)
            ·
              intro u w21 au hsl hel hu hF hp' K hK
              have t9 : au.tmps[9]?.getD undef = .int .i64 (k : Int) := (hel.out 9 (by kernel_rfl)).trans (by kernel_rfl)
              refine step_plain rfl ?_
              go_simp
              exact hK.out (.int .i64 (k : Int)) _ (sR_up hF 3 (by omega) _) (sF_val 3 (by omega) ((G3.out _).2 rfl)) (fun j hj hf h => sF_up 3 _ j hj (fun e => by subst e; exact absurd (Eq.trans (Eq.symm (by kernel_rfl)) hf) Bool.false_ne_true) h)
            ·
              intro u w21 au hsl hel hu hF hp' K hK
              have h2 : u 2 = .int .i64 (p0 : Int) := (G2.out _).1 (PreF.get hp' 2 (by kernel_rfl)).1
              have t31 : au.tmps[31]?.getD undef = u 2 := hsl.out 2 31 (by kernel_rfl)
              rw [h2] at t31
              have h3 : u 3 = .int .i64 (k : Int) := (G3.out _).1 (PreF.get hp' 3 (by kernel_rfl)).1
              have t32 : au.tmps[32]?.getD undef = u 3 := hsl.out 3 32 (by kernel_rfl)
              rw [h3] at t32
              refine step_plain rfl ?_
              go_simp
              exact hK.out (.int .i64 (pk : Int)) _ (sR_up hF 4 (by omega) _) (sF_val 4 (by omega) ((G4.out _).2 rfl)) (fun j hj hf h => sF_up 4 _ j hj (fun e => by subst e; exact absurd (Eq.trans (Eq.symm (by kernel_rfl)) hf) Bool.false_ne_true) h)
            ·
              intro u w21 au hsl hel hu hF hp' K hK
              have t2 : au.tmps[2]?.getD undef = .pointer (some ⟨w.heap.size, 0, none⟩) := (hel.out 2 (by kernel_rfl)).trans (by kernel_rfl)
              refine step_plain rfl ?_
              go_simp
              exact hK.out (.pointer (some ⟨w.heap.size, 0, none⟩)) _ (sR_up hF 5 (by omega) _) (sF_val 5 (by omega) ((G5.out _).2 rfl)) (fun j hj hf h => sF_up 5 _ j hj (fun e => by subst e; exact absurd (Eq.trans (Eq.symm (by kernel_rfl)) hf) Bool.false_ne_true) h)
            ·
              intro u w21 au hsl hel hu hF hp' K hK
              have h5 : u 5 = .pointer (some ⟨w.heap.size, 0, none⟩) := (G5.out _).1 (PreF.get hp' 5 (by kernel_rfl)).1
              have t34 : au.tmps[34]?.getD undef = u 5 := hsl.out 5 34 (by kernel_rfl)
              rw [h5] at t34
              have hw : w21 = wi.drew := hF ((hu.out 48 (by decide) (.inr (by kernel_rfl))).trans (by kernel_rfl))
              have xc : w21.cell? ⟨w.heap.size, 0, none⟩ = some (.slice (some ⟨b, off, none⟩) 9 c0) := by rw [hw]; exact HSi.out.cell 4 rfl 0 rfl
              clear hw
              refine step_plain rfl ?_
              go_simp
              exact hK.out (.slice (some ⟨b, off, none⟩) 9 c0) _ (sR_up hF 6 (by omega) _) (sF_val 6 (by omega) ((G6.out _).2 rfl)) (fun j hj hf h => sF_up 6 _ j hj (fun e => by subst e; exact absurd (Eq.trans (Eq.symm (by kernel_rfl)) hf) Bool.false_ne_true) h)
            ·
              intro u w21 au hsl hel hu hF hp' K hK
              have t8 : au.tmps[8]?.getD undef = .int .i64 (i : Int) := (hel.out 8 (by kernel_rfl)).trans (by kernel_rfl)
              refine step_plain rfl ?_
              go_simp
              exact hK.out (.int .i64 (i : Int)) _ (sR_up hF 7 (by omega) _) (sF_val 7 (by omega) ((G7.out _).2 rfl)) (fun j hj hf h => sF_up 7 _ j hj (fun e => by subst e; exact absurd (Eq.trans (Eq.symm (by kernel_rfl)) hf) Bool.false_ne_true) h)
            ·
              intro u w21 au hsl hel hu hF hp' K hK
              have h7 : u 7 = .int .i64 (i : Int) := (G7.out _).1 (PreF.get hp' 7 (by kernel_rfl)).1
              have t36 : au.tmps[36]?.getD undef = u 7 := hsl.out 7 36 (by kernel_rfl)
              rw [h7] at t36
              refine step_plain rfl ?_
              go_simp
              exact hK.out (.int .i64 (p0 : Int)) _ (sR_up hF 8 (by omega) _) (sF_val 8 (by omega) ((G8.out _).2 rfl)) (fun j hj hf h => sF_up 8 _ j hj (fun e => by subst e; exact absurd (Eq.trans (Eq.symm (by kernel_rfl)) hf) Bool.false_ne_true) h)
            ·
              intro u w21 au hsl hel hu hF hp' K hK
              have h6 : u 6 = .slice (some ⟨b, off, none⟩) 9 c0 := (G6.out _).1 (PreF.get hp' 6 (by kernel_rfl)).1
              have t35 : au.tmps[35]?.getD undef = u 6 := hsl.out 6 35 (by kernel_rfl)
              rw [h6] at t35
              have h8 : u 8 = .int .i64 (p0 : Int) := (G8.out _).1 (PreF.get hp' 8 (by kernel_rfl)).1
              have t37 : au.tmps[37]?.getD undef = u 8 := hsl.out 8 37 (by kernel_rfl)
              rw [h8] at t37
              refine step_plain rfl ?_
              go_simp
              exact hK.out (.pointer (some ⟨b, off + p0, none⟩)) _ (sR_up hF 9 (by omega) _) (sF_val 9 (by omega) ((G9.out _).2 rfl)) (fun j hj hf h => sF_up 9 _ j hj (fun e => by subst e; exact absurd (Eq.trans (Eq.symm (by kernel_rfl)) hf) Bool.false_ne_true) h)
            ·
              intro u w21 au hsl hel hu hF hp' K hK
              have h9 : u 9 = .pointer (some ⟨b, off + p0, none⟩) := (G9.out _).1 (PreF.get hp' 9 (by kernel_rfl)).1
              have t38 : au.tmps[38]?.getD undef = u 9 := hsl.out 9 38 (by kernel_rfl)
              rw [h9] at t38
              have hw : w21 = wi.drew := hF ((hu.out 48 (by decide) (.inr (by kernel_rfl))).trans (by kernel_rfl))
              have xc : w21.cell? ⟨b, off + p0, none⟩ = some (.int .i64 (M p0)) := by rw [hw]; exact mMp0.out
              clear hw
              refine step_plain rfl ?_
              go_simp
              exact hK.out (.int .i64 (M p0)) _ (sR_up hF 10 (by omega) _) (sF_val 10 (by omega) ((G10.out _).2 rfl)) (fun j hj hf h => sF_up 10 _ j hj (fun e => by subst e; exact absurd (Eq.trans (Eq.symm (by kernel_rfl)) hf) Bool.false_ne_true) h)
            ·
              intro u w21 au hsl hel hu hF hp' K hK
              have t3 : au.tmps[3]?.getD undef = .pointer (some ⟨(w.heap.size + 1), 0, none⟩) := (hel.out 3 (by kernel_rfl)).trans (by kernel_rfl)
              refine step_plain rfl ?_
              go_simp
              exact hK.out (.pointer (some ⟨(w.heap.size + 1), 0, none⟩)) _ (sR_up hF 11 (by omega) _) (sF_val 11 (by omega) ((G11.out _).2 rfl)) (fun j hj hf h => sF_up 11 _ j hj (fun e => by subst e; exact absurd (Eq.trans (Eq.symm (by kernel_rfl)) hf) Bool.false_ne_true) h)
            ·
              intro u w21 au hsl hel hu hF hp' K hK
              have h11 : u 11 = .pointer (some ⟨(w.heap.size + 1), 0, none⟩) := (G11.out _).1 (PreF.get hp' 11 (by kernel_rfl)).1
              have t40 : au.tmps[40]?.getD undef = u 11 := hsl.out 11 40 (by kernel_rfl)
              rw [h11] at t40
              have hw : w21 = wi.drew := hF ((hu.out 48 (by decide) (.inr (by kernel_rfl))).trans (by kernel_rfl))
              have xc : w21.cell? ⟨(w.heap.size + 1), 0, none⟩ = some (.slice (some ⟨g, og, none⟩) 9 d0) := by rw [hw]; exact HSi.out.cell 3 rfl 0 rfl
              clear hw
              refine step_plain rfl ?_
              go_simp
              exact hK.out (.slice (some ⟨g, og, none⟩) 9 d0) _ (sR_up hF 12 (by omega) _) (sF_val 12 (by omega) ((G12.out _).2 rfl)) (fun j hj hf h => sF_up 12 _ j hj (fun e => by subst e; exact absurd (Eq.trans (Eq.symm (by kernel_rfl)) hf) Bool.false_ne_true) h)
            ·
              intro u w21 au hsl hel hu hF hp' K hK
              have t9 : au.tmps[9]?.getD undef = .int .i64 (k : Int) := (hel.out 9 (by kernel_rfl)).trans (by kernel_rfl)
              refine step_plain rfl ?_
              go_simp
              exact hK.out (.int .i64 (k : Int)) _ (sR_up hF 13 (by omega) _) (sF_val 13 (by omega) ((G13.out _).2 rfl)) (fun j hj hf h => sF_up 13 _ j hj (fun e => by subst e; exact absurd (Eq.trans (Eq.symm (by kernel_rfl)) hf) Bool.false_ne_true) h)
            ·
              intro u w21 au hsl hel hu hF hp' K hK
              have h12 : u 12 = .slice (some ⟨g, og, none⟩) 9 d0 := (G12.out _).1 (PreF.get hp' 12 (by kernel_rfl)).1
              have t41 : au.tmps[41]?.getD undef = u 12 := hsl.out 12 41 (by kernel_rfl)
              rw [h12] at t41
              have h13 : u 13 = .int .i64 (k : Int) := (G13.out _).1 (PreF.get hp' 13 (by kernel_rfl)).1
              have t42 : au.tmps[42]?.getD undef = u 13 := hsl.out 13 42 (by kernel_rfl)
              rw [h13] at t42
              refine step_plain rfl ?_
              go_simp
              exact hK.out (.pointer (some ⟨g, og + k, none⟩)) _ (sR_up hF 14 (by omega) _) (sF_val 14 (by omega) ((G14.out _).2 rfl)) (fun j hj hf h => sF_up 14 _ j hj (fun e => by subst e; exact absurd (Eq.trans (Eq.symm (by kernel_rfl)) hf) Bool.false_ne_true) h)
            ·
              intro u w21 au hsl hel hu hF hp' K hK
              have h14 : u 14 = .pointer (some ⟨g, og + k, none⟩) := (G14.out _).1 (PreF.get hp' 14 (by kernel_rfl)).1
              have t43 : au.tmps[43]?.getD undef = u 14 := hsl.out 14 43 (by kernel_rfl)
              rw [h14] at t43
              have hw : w21 = wi.drew := hF ((hu.out 48 (by decide) (.inr (by kernel_rfl))).trans (by kernel_rfl))
              have xc : w21.cell? ⟨g, og + k, none⟩ = some (.int .i64 (L k)) := by rw [hw]; exact mLk.out
              clear hw
              refine step_plain rfl ?_
              go_simp
              exact hK.out (.int .i64 (L k)) _ (sR_up hF 15 (by omega) _) (sF_val 15 (by omega) ((G15.out _).2 rfl)) (fun j hj hf h => sF_up 15 _ j hj (fun e => by subst e; exact absurd (Eq.trans (Eq.symm (by kernel_rfl)) hf) Bool.false_ne_true) h)
            ·
              intro u w21 au hsl hel hu hF hp' K hK
              have h10 : u 10 = .int .i64 (M p0) := (G10.out _).1 (PreF.get hp' 10 (by kernel_rfl)).1
              have t39 : au.tmps[39]?.getD undef = u 10 := hsl.out 10 39 (by kernel_rfl)
              rw [h10] at t39
              have h15 : u 15 = .int .i64 (L k) := (G15.out _).1 (PreF.get hp' 15 (by kernel_rfl)).1
              have t44 : au.tmps[44]?.getD undef = u 15 := hsl.out 15 44 (by kernel_rfl)
              rw [h15] at t44
              refine step_plain rfl ?_
              go_simp
              exact hK.out (.int .i64 Y0) _ (sR_up hF 16 (by omega) _) (sF_val 16 (by omega) ((G16.out _).2 rfl)) (fun j hj hf h => sF_up 16 _ j hj (fun e => by subst e; exact absurd (Eq.trans (Eq.symm (by kernel_rfl)) hf) Bool.false_ne_true) h)
            ·
              intro u w21 au hsl hel hu hF hp' K hK
              have t2 : au.tmps[2]?.getD undef = .pointer (some ⟨w.heap.size, 0, none⟩) := (hel.out 2 (by kernel_rfl)).trans (by kernel_rfl)
              refine step_plain rfl ?_
              go_simp
              exact hK.out (.pointer (some ⟨w.heap.size, 0, none⟩)) _ (sR_up hF 17 (by omega) _) (sF_val 17 (by omega) ((G17.out _).2 rfl)) (fun j hj hf h => sF_up 17 _ j hj (fun e => by subst e; exact absurd (Eq.trans (Eq.symm (by kernel_rfl)) hf) Bool.false_ne_true) h)
            ·
              intro u w21 au hsl hel hu hF hp' K hK
              have h17 : u 17 = .pointer (some ⟨w.heap.size, 0, none⟩) := (G17.out _).1 (PreF.get hp' 17 (by kernel_rfl)).1
              have t46 : au.tmps[46]?.getD undef = u 17 := hsl.out 17 46 (by kernel_rfl)
              rw [h17] at t46
              have hw : w21 = wi.drew := hF ((hu.out 48 (by decide) (.inr (by kernel_rfl))).trans (by kernel_rfl))
              have xc : w21.cell? ⟨w.heap.size, 0, none⟩ = some (.slice (some ⟨b, off, none⟩) 9 c0) := by rw [hw]; exact HSi.out.cell 4 rfl 0 rfl
              clear hw
              refine step_plain rfl ?_
              go_simp
              exact hK.out (.slice (some ⟨b, off, none⟩) 9 c0) _ (sR_up hF 18 (by omega) _) (sF_val 18 (by omega) ((G18.out _).2 rfl)) (fun j hj hf h => sF_up 18 _ j hj (fun e => by subst e; exact absurd (Eq.trans (Eq.symm (by kernel_rfl)) hf) Bool.false_ne_true) h)
            ·
              intro u w21 au hsl hel hu hF hp' K hK
              have t8 : au.tmps[8]?.getD undef = .int .i64 (i : Int) := (hel.out 8 (by kernel_rfl)).trans (by kernel_rfl)
              refine step_plain rfl ?_
              go_simp
              exact hK.out (.int .i64 (i : Int)) _ (sR_up hF 19 (by omega) _) (sF_val 19 (by omega) ((G19.out _).2 rfl)) (fun j hj hf h => sF_up 19 _ j hj (fun e => by subst e; exact absurd (Eq.trans (Eq.symm (by kernel_rfl)) hf) Bool.false_ne_true) h)
            ·
              intro u w21 au hsl hel hu hF hp' K hK
              have h19 : u 19 = .int .i64 (i : Int) := (G19.out _).1 (PreF.get hp' 19 (by kernel_rfl)).1
              have t48 : au.tmps[48]?.getD undef = u 19 := hsl.out 19 48 (by kernel_rfl)
              rw [h19] at t48
              refine step_plain rfl ?_
              go_simp
              exact hK.out (.int .i64 (p0 : Int)) _ (sR_up hF 20 (by omega) _) (sF_val 20 (by omega) ((G20.out _).2 rfl)) (fun j hj hf h => sF_up 20 _ j hj (fun e => by subst e; exact absurd (Eq.trans (Eq.symm (by kernel_rfl)) hf) Bool.false_ne_true) h)
            ·
              intro u w21 au hsl hel hu hF hp' K hK
              have h20 : u 20 = .int .i64 (p0 : Int) := (G20.out _).1 (PreF.get hp' 20 (by kernel_rfl)).1
              have t49 : au.tmps[49]?.getD undef = u 20 := hsl.out 20 49 (by kernel_rfl)
              rw [h20] at t49
              refine step_plain rfl ?_
              go_simp
              exact hK.out (.int .i64 (p1 : Int)) _ (sR_up hF 21 (by omega) _) (sF_val 21 (by omega) ((G21.out _).2 rfl)) (fun j hj hf h => sF_up 21 _ j hj (fun e => by subst e; exact absurd (Eq.trans (Eq.symm (by kernel_rfl)) hf) Bool.false_ne_true) h)
            ·
              intro u w21 au hsl hel hu hF hp' K hK
              have h18 : u 18 = .slice (some ⟨b, off, none⟩) 9 c0 := (G18.out _).1 (PreF.get hp' 18 (by kernel_rfl)).1
              have t47 : au.tmps[47]?.getD undef = u 18 := hsl.out 18 47 (by kernel_rfl)
              rw [h18] at t47
              have h21 : u 21 = .int .i64 (p1 : Int) := (G21.out _).1 (PreF.get hp' 21 (by kernel_rfl)).1
              have t50 : au.tmps[50]?.getD undef = u 21 := hsl.out 21 50 (by kernel_rfl)
              rw [h21] at t50
              refine step_plain rfl ?_
              go_simp
              exact hK.out (.pointer (some ⟨b, off + p1, none⟩)) _ (sR_up hF 22 (by omega) _) (sF_val 22 (by omega) ((G22.out _).2 rfl)) (fun j hj hf h => sF_up 22 _ j hj (fun e => by subst e; exact absurd (Eq.trans (Eq.symm (by kernel_rfl)) hf) Bool.false_ne_true) h)
            ·
              intro u w21 au hsl hel hu hF hp' K hK
              have h22 : u 22 = .pointer (some ⟨b, off + p1, none⟩) := (G22.out _).1 (PreF.get hp' 22 (by kernel_rfl)).1
              have t51 : au.tmps[51]?.getD undef = u 22 := hsl.out 22 51 (by kernel_rfl)
              rw [h22] at t51
              have hw : w21 = wi.drew := hF ((hu.out 48 (by decide) (.inr (by kernel_rfl))).trans (by kernel_rfl))
              have xc : w21.cell? ⟨b, off + p1, none⟩ = some (.int .i64 (M p1)) := by rw [hw]; exact mMp1.out
              clear hw
              refine step_plain rfl ?_
              go_simp
              exact hK.out (.int .i64 (M p1)) _ (sR_up hF 23 (by omega) _) (sF_val 23 (by omega) ((G23.out _).2 rfl)) (fun j hj hf h => sF_up 23 _ j hj (fun e => by subst e; exact absurd (Eq.trans (Eq.symm (by kernel_rfl)) hf) Bool.false_ne_true) h)
            ·
              intro u w21 au hsl hel hu hF hp' K hK
              have t3 : au.tmps[3]?.getD undef = .pointer (some ⟨(w.heap.size + 1), 0, none⟩) := (hel.out 3 (by kernel_rfl)).trans (by kernel_rfl)
              refine step_plain rfl ?_
              go_simp
              exact hK.out (.pointer (some ⟨(w.heap.size + 1), 0, none⟩)) _ (sR_up hF 24 (by omega) _) (sF_val 24 (by omega) ((G24.out _).2 rfl)) (fun j hj hf h => sF_up 24 _ j hj (fun e => by subst e; exact absurd (Eq.trans (Eq.symm (by kernel_rfl)) hf) Bool.false_ne_true) h)
            ·
              intro u w21 au hsl hel hu hF hp' K hK
              have h24 : u 24 = .pointer (some ⟨(w.heap.size + 1), 0, none⟩) := (G24.out _).1 (PreF.get hp' 24 (by kernel_rfl)).1
              have t53 : au.tmps[53]?.getD undef = u 24 := hsl.out 24 53 (by kernel_rfl)
              rw [h24] at t53
              have hw : w21 = wi.drew := hF ((hu.out 48 (by decide) (.inr (by kernel_rfl))).trans (by kernel_rfl))
              have xc : w21.cell? ⟨(w.heap.size + 1), 0, none⟩ = some (.slice (some ⟨g, og, none⟩) 9 d0) := by rw [hw]; exact HSi.out.cell 3 rfl 0 rfl
              clear hw
              refine step_plain rfl ?_
              go_simp
              exact hK.out (.slice (some ⟨g, og, none⟩) 9 d0) _ (sR_up hF 25 (by omega) _) (sF_val 25 (by omega) ((G25.out _).2 rfl)) (fun j hj hf h => sF_up 25 _ j hj (fun e => by subst e; exact absurd (Eq.trans (Eq.symm (by kernel_rfl)) hf) Bool.false_ne_true) h)
            ·
              intro u w21 au hsl hel hu hF hp' K hK
              have t9 : au.tmps[9]?.getD undef = .int .i64 (k : Int) := (hel.out 9 (by kernel_rfl)).trans (by kernel_rfl)
              refine step_plain rfl ?_
              go_simp
              exact hK.out (.int .i64 (k : Int)) _ (sR_up hF 26 (by omega) _) (sF_val 26 (by omega) ((G26.out _).2 rfl)) (fun j hj hf h => sF_up 26 _ j hj (fun e => by subst e; exact absurd (Eq.trans (Eq.symm (by kernel_rfl)) hf) Bool.false_ne_true) h)
            ·
              intro u w21 au hsl hel hu hF hp' K hK
              have h26 : u 26 = .int .i64 (k : Int) := (G26.out _).1 (PreF.get hp' 26 (by kernel_rfl)).1
              have t55 : au.tmps[55]?.getD undef = u 26 := hsl.out 26 55 (by kernel_rfl)
              rw [h26] at t55
              refine step_plain rfl ?_
              go_simp
              exact hK.out (.int .i64 (k3 : Int)) _ (sR_up hF 27 (by omega) _) (sF_val 27 (by omega) ((G27.out _).2 rfl)) (fun j hj hf h => sF_up 27 _ j hj (fun e => by subst e; exact absurd (Eq.trans (Eq.symm (by kernel_rfl)) hf) Bool.false_ne_true) h)
            ·
              intro u w21 au hsl hel hu hF hp' K hK
              have h25 : u 25 = .slice (some ⟨g, og, none⟩) 9 d0 := (G25.out _).1 (PreF.get hp' 25 (by kernel_rfl)).1
              have t54 : au.tmps[54]?.getD undef = u 25 := hsl.out 25 54 (by kernel_rfl)
              rw [h25] at t54
              have h27 : u 27 = .int .i64 (k3 : Int) := (G27.out _).1 (PreF.get hp' 27 (by kernel_rfl)).1
              have t56 : au.tmps[56]?.getD undef = u 27 := hsl.out 27 56 (by kernel_rfl)
              rw [h27] at t56
              refine step_plain rfl ?_
              go_simp
              exact hK.out (.pointer (some ⟨g, og + k3, none⟩)) _ (sR_up hF 28 (by omega) _) (sF_val 28 (by omega) ((G28.out _).2 rfl)) (fun j hj hf h => sF_up 28 _ j hj (fun e => by subst e; exact absurd (Eq.trans (Eq.symm (by kernel_rfl)) hf) Bool.false_ne_true) h)
            ·
              intro u w21 au hsl hel hu hF hp' K hK
              have h28 : u 28 = .pointer (some ⟨g, og + k3, none⟩) := (G28.out _).1 (PreF.get hp' 28 (by kernel_rfl)).1
              have t57 : au.tmps[57]?.getD undef = u 28 := hsl.out 28 57 (by kernel_rfl)
              rw [h28] at t57
              have hw : w21 = wi.drew := hF ((hu.out 48 (by decide) (.inr (by kernel_rfl))).trans (by kernel_rfl))
              have xc : w21.cell? ⟨g, og + k3, none⟩ = some (.int .i64 (L k3)) := by rw [hw]; exact mLk3.out
              clear hw
              refine step_plain rfl ?_
              go_simp
              exact hK.out (.int .i64 (L k3)) _ (sR_up hF 29 (by omega) _) (sF_val 29 (by omega) ((G29.out _).2 rfl)) (fun j hj hf h => sF_up 29 _ j hj (fun e => by subst e; exact absurd (Eq.trans (Eq.symm (by kernel_rfl)) hf) Bool.false_ne_true) h)
            ·
              intro u w21 au hsl hel hu hF hp' K hK
              have h23 : u 23 = .int .i64 (M p1) := (G23.out _).1 (PreF.get hp' 23 (by kernel_rfl)).1
              have t52 : au.tmps[52]?.getD undef = u 23 := hsl.out 23 52 (by kernel_rfl)
              rw [h23] at t52
              have h29 : u 29 = .int .i64 (L k3) := (G29.out _).1 (PreF.get hp' 29 (by kernel_rfl)).1
              have t58 : au.tmps[58]?.getD undef = u 29 := hsl.out 29 58 (by kernel_rfl)
              rw [h29] at t58
              refine step_plain rfl ?_
              go_simp
              exact hK.out (.int .i64 Y1) _ (sR_up hF 30 (by omega) _) (sF_val 30 (by omega) ((G30.out _).2 rfl)) (fun j hj hf h => sF_up 30 _ j hj (fun e => by subst e; exact absurd (Eq.trans (Eq.symm (by kernel_rfl)) hf) Bool.false_ne_true) h)
            ·
              intro u w21 au hsl hel hu hF hp' K hK
              have h16 : u 16 = .int .i64 Y0 := (G16.out _).1 (PreF.get hp' 16 (by kernel_rfl)).1
              have t45 : au.tmps[45]?.getD undef = u 16 := hsl.out 16 45 (by kernel_rfl)
              rw [h16] at t45
              have h30 : u 30 = .int .i64 Y1 := (G30.out _).1 (PreF.get hp' 30 (by kernel_rfl)).1
              have t59 : au.tmps[59]?.getD undef = u 30 := hsl.out 30 59 (by kernel_rfl)
              rw [h30] at t59
              refine step_plain rfl ?_
              go_simp
              exact hK.out (.int .i64 Y3) _ (sR_up hF 31 (by omega) _) (sF_val 31 (by omega) ((G31.out _).2 rfl)) (fun j hj hf h => sF_up 31 _ j hj (fun e => by subst e; exact absurd (Eq.trans (Eq.symm (by kernel_rfl)) hf) Bool.false_ne_true) h)
            ·
              intro u w21 au hsl hel hu hF hp' K hK
              have t2 : au.tmps[2]?.getD undef = .pointer (some ⟨w.heap.size, 0, none⟩) := (hel.out 2 (by kernel_rfl)).trans (by kernel_rfl)
              refine step_plain rfl ?_
              go_simp
              exact hK.out (.pointer (some ⟨w.heap.size, 0, none⟩)) _ (sR_up hF 32 (by omega) _) (sF_val 32 (by omega) ((G32.out _).2 rfl)) (fun j hj hf h => sF_up 32 _ j hj (fun e => by subst e; exact absurd (Eq.trans (Eq.symm (by kernel_rfl)) hf) Bool.false_ne_true) h)
            ·
              intro u w21 au hsl hel hu hF hp' K hK
              have h32 : u 32 = .pointer (some ⟨w.heap.size, 0, none⟩) := (G32.out _).1 (PreF.get hp' 32 (by kernel_rfl)).1
              have t61 : au.tmps[61]?.getD undef = u 32 := hsl.out 32 61 (by kernel_rfl)
              rw [h32] at t61
              have hw : w21 = wi.drew := hF ((hu.out 48 (by decide) (.inr (by kernel_rfl))).trans (by kernel_rfl))
              have xc : w21.cell? ⟨w.heap.size, 0, none⟩ = some (.slice (some ⟨b, off, none⟩) 9 c0) := by rw [hw]; exact HSi.out.cell 4 rfl 0 rfl
              clear hw
              refine step_plain rfl ?_
              go_simp
              exact hK.out (.slice (some ⟨b, off, none⟩) 9 c0) _ (sR_up hF 33 (by omega) _) (sF_val 33 (by omega) ((G33.out _).2 rfl)) (fun j hj hf h => sF_up 33 _ j hj (fun e => by subst e; exact absurd (Eq.trans (Eq.symm (by kernel_rfl)) hf) Bool.false_ne_true) h)
            ·
              intro u w21 au hsl hel hu hF hp' K hK
              have t8 : au.tmps[8]?.getD undef = .int .i64 (i : Int) := (hel.out 8 (by kernel_rfl)).trans (by kernel_rfl)
              refine step_plain rfl ?_
              go_simp
              exact hK.out (.int .i64 (i : Int)) _ (sR_up hF 34 (by omega) _) (sF_val 34 (by omega) ((G34.out _).2 rfl)) (fun j hj hf h => sF_up 34 _ j hj (fun e => by subst e; exact absurd (Eq.trans (Eq.symm (by kernel_rfl)) hf) Bool.false_ne_true) h)
            ·
              intro u w21 au hsl hel hu hF hp' K hK
              have h34 : u 34 = .int .i64 (i : Int) := (G34.out _).1 (PreF.get hp' 34 (by kernel_rfl)).1
              have t63 : au.tmps[63]?.getD undef = u 34 := hsl.out 34 63 (by kernel_rfl)
              rw [h34] at t63
              refine step_plain rfl ?_
              go_simp
              exact hK.out (.int .i64 (p0 : Int)) _ (sR_up hF 35 (by omega) _) (sF_val 35 (by omega) ((G35.out _).2 rfl)) (fun j hj hf h => sF_up 35 _ j hj (fun e => by subst e; exact absurd (Eq.trans (Eq.symm (by kernel_rfl)) hf) Bool.false_ne_true) h)
            ·
              intro u w21 au hsl hel hu hF hp' K hK
              have h35 : u 35 = .int .i64 (p0 : Int) := (G35.out _).1 (PreF.get hp' 35 (by kernel_rfl)).1
              have t64 : au.tmps[64]?.getD undef = u 35 := hsl.out 35 64 (by kernel_rfl)
              rw [h35] at t64
              refine step_plain rfl ?_
              go_simp
              exact hK.out (.int .i64 (p2 : Int)) _ (sR_up hF 36 (by omega) _) (sF_val 36 (by omega) ((G36.out _).2 rfl)) (fun j hj hf h => sF_up 36 _ j hj (fun e => by subst e; exact absurd (Eq.trans (Eq.symm (by kernel_rfl)) hf) Bool.false_ne_true) h)
            ·
              intro u w21 au hsl hel hu hF hp' K hK
              have h33 : u 33 = .slice (some ⟨b, off, none⟩) 9 c0 := (G33.out _).1 (PreF.get hp' 33 (by kernel_rfl)).1
              have t62 : au.tmps[62]?.getD undef = u 33 := hsl.out 33 62 (by kernel_rfl)
              rw [h33] at t62
              have h36 : u 36 = .int .i64 (p2 : Int) := (G36.out _).1 (PreF.get hp' 36 (by kernel_rfl)).1
              have t65 : au.tmps[65]?.getD undef = u 36 := hsl.out 36 65 (by kernel_rfl)
              rw [h36] at t65
              refine step_plain rfl ?_
              go_simp
              exact hK.out (.pointer (some ⟨b, off + p2, none⟩)) _ (sR_up hF 37 (by omega) _) (sF_val 37 (by omega) ((G37.out _).2 rfl)) (fun j hj hf h => sF_up 37 _ j hj (fun e => by subst e; exact absurd (Eq.trans (Eq.symm (by kernel_rfl)) hf) Bool.false_ne_true) h)
            ·
              intro u w21 au hsl hel hu hF hp' K hK
              have h37 : u 37 = .pointer (some ⟨b, off + p2, none⟩) := (G37.out _).1 (PreF.get hp' 37 (by kernel_rfl)).1
              have t66 : au.tmps[66]?.getD undef = u 37 := hsl.out 37 66 (by kernel_rfl)
              rw [h37] at t66
              have hw : w21 = wi.drew := hF ((hu.out 48 (by decide) (.inr (by kernel_rfl))).trans (by kernel_rfl))
              have xc : w21.cell? ⟨b, off + p2, none⟩ = some (.int .i64 (M p2)) := by rw [hw]; exact mMp2.out
              clear hw
              refine step_plain rfl ?_
              go_simp
              exact hK.out (.int .i64 (M p2)) _ (sR_up hF 38 (by omega) _) (sF_val 38 (by omega) ((G38.out _).2 rfl)) (fun j hj hf h => sF_up 38 _ j hj (fun e => by subst e; exact absurd (Eq.trans (Eq.symm (by kernel_rfl)) hf) Bool.false_ne_true) h)
            ·
              intro u w21 au hsl hel hu hF hp' K hK
              have t3 : au.tmps[3]?.getD undef = .pointer (some ⟨(w.heap.size + 1), 0, none⟩) := (hel.out 3 (by kernel_rfl)).trans (by kernel_rfl)
              refine step_plain rfl ?_
              go_simp
              exact hK.out (.pointer (some ⟨(w.heap.size + 1), 0, none⟩)) _ (sR_up hF 39 (by omega) _) (sF_val 39 (by omega) ((G39.out _).2 rfl)) (fun j hj hf h => sF_up 39 _ j hj (fun e => by subst e; exact absurd (Eq.trans (Eq.symm (by kernel_rfl)) hf) Bool.false_ne_true) h)
            ·
              intro u w21 au hsl hel hu hF hp' K hK
              have h39 : u 39 = .pointer (some ⟨(w.heap.size + 1), 0, none⟩) := (G39.out _).1 (PreF.get hp' 39 (by kernel_rfl)).1
              have t68 : au.tmps[68]?.getD undef = u 39 := hsl.out 39 68 (by kernel_rfl)
              rw [h39] at t68
              have hw : w21 = wi.drew := hF ((hu.out 48 (by decide) (.inr (by kernel_rfl))).trans (by kernel_rfl))
              have xc : w21.cell? ⟨(w.heap.size + 1), 0, none⟩ = some (.slice (some ⟨g, og, none⟩) 9 d0) := by rw [hw]; exact HSi.out.cell 3 rfl 0 rfl
              clear hw
              refine step_plain rfl ?_
              go_simp
              exact hK.out (.slice (some ⟨g, og, none⟩) 9 d0) _ (sR_up hF 40 (by omega) _) (sF_val 40 (by omega) ((G40.out _).2 rfl)) (fun j hj hf h => sF_up 40 _ j hj (fun e => by subst e; exact absurd (Eq.trans (Eq.symm (by kernel_rfl)) hf) Bool.false_ne_true) h)
            ·
              intro u w21 au hsl hel hu hF hp' K hK
              have t9 : au.tmps[9]?.getD undef = .int .i64 (k : Int) := (hel.out 9 (by kernel_rfl)).trans (by kernel_rfl)
              refine step_plain rfl ?_
              go_simp
              exact hK.out (.int .i64 (k : Int)) _ (sR_up hF 41 (by omega) _) (sF_val 41 (by omega) ((G41.out _).2 rfl)) (fun j hj hf h => sF_up 41 _ j hj (fun e => by subst e; exact absurd (Eq.trans (Eq.symm (by kernel_rfl)) hf) Bool.false_ne_true) h)
            ·
              intro u w21 au hsl hel hu hF hp' K hK
              have h41 : u 41 = .int .i64 (k : Int) := (G41.out _).1 (PreF.get hp' 41 (by kernel_rfl)).1
              have t70 : au.tmps[70]?.getD undef = u 41 := hsl.out 41 70 (by kernel_rfl)
              rw [h41] at t70
              refine step_plain rfl ?_
              go_simp
              exact hK.out (.int .i64 (k6 : Int)) _ (sR_up hF 42 (by omega) _) (sF_val 42 (by omega) ((G42.out _).2 rfl)) (fun j hj hf h => sF_up 42 _ j hj (fun e => by subst e; exact absurd (Eq.trans (Eq.symm (by kernel_rfl)) hf) Bool.false_ne_true) h)
            ·
              intro u w21 au hsl hel hu hF hp' K hK
              have h40 : u 40 = .slice (some ⟨g, og, none⟩) 9 d0 := (G40.out _).1 (PreF.get hp' 40 (by kernel_rfl)).1
              have t69 : au.tmps[69]?.getD undef = u 40 := hsl.out 40 69 (by kernel_rfl)
              rw [h40] at t69
              have h42 : u 42 = .int .i64 (k6 : Int) := (G42.out _).1 (PreF.get hp' 42 (by kernel_rfl)).1
              have t71 : au.tmps[71]?.getD undef = u 42 := hsl.out 42 71 (by kernel_rfl)
              rw [h42] at t71
              refine step_plain rfl ?_
              go_simp
              exact hK.out (.pointer (some ⟨g, og + k6, none⟩)) _ (sR_up hF 43 (by omega) _) (sF_val 43 (by omega) ((G43.out _).2 rfl)) (fun j hj hf h => sF_up 43 _ j hj (fun e => by subst e; exact absurd (Eq.trans (Eq.symm (by kernel_rfl)) hf) Bool.false_ne_true) h)
            ·
              intro u w21 au hsl hel hu hF hp' K hK
              have h43 : u 43 = .pointer (some ⟨g, og + k6, none⟩) := (G43.out _).1 (PreF.get hp' 43 (by kernel_rfl)).1
              have t72 : au.tmps[72]?.getD undef = u 43 := hsl.out 43 72 (by kernel_rfl)
              rw [h43] at t72
              have hw : w21 = wi.drew := hF ((hu.out 48 (by decide) (.inr (by kernel_rfl))).trans (by kernel_rfl))
              have xc : w21.cell? ⟨g, og + k6, none⟩ = some (.int .i64 (L k6)) := by rw [hw]; exact mLk6.out
              clear hw
              refine step_plain rfl ?_
              go_simp
              exact hK.out (.int .i64 (L k6)) _ (sR_up hF 44 (by omega) _) (sF_val 44 (by omega) ((G44.out _).2 rfl)) (fun j hj hf h => sF_up 44 _ j hj (fun e => by subst e; exact absurd (Eq.trans (Eq.symm (by kernel_rfl)) hf) Bool.false_ne_true) h)
            ·
              intro u w21 au hsl hel hu hF hp' K hK
              have h38 : u 38 = .int .i64 (M p2) := (G38.out _).1 (PreF.get hp' 38 (by kernel_rfl)).1
              have t67 : au.tmps[67]?.getD undef = u 38 := hsl.out 38 67 (by kernel_rfl)
              rw [h38] at t67
              have h44 : u 44 = .int .i64 (L k6) := (G44.out _).1 (PreF.get hp' 44 (by kernel_rfl)).1
              have t73 : au.tmps[73]?.getD undef = u 44 := hsl.out 44 73 (by kernel_rfl)
              rw [h44] at t73
              refine step_plain rfl ?_
              go_simp
              exact hK.out (.int .i64 Y2) _ (sR_up hF 45 (by omega) _) (sF_val 45 (by omega) ((G45.out _).2 rfl)) (fun j hj hf h => sF_up 45 _ j hj (fun e => by subst e; exact absurd (Eq.trans (Eq.symm (by kernel_rfl)) hf) Bool.false_ne_true) h)
            ·
              intro u w21 au hsl hel hu hF hp' K hK
              have h31 : u 31 = .int .i64 Y3 := (G31.out _).1 (PreF.get hp' 31 (by kernel_rfl)).1
              have t60 : au.tmps[60]?.getD undef = u 31 := hsl.out 31 60 (by kernel_rfl)
              rw [h31] at t60
              have h45 : u 45 = .int .i64 Y2 := (G45.out _).1 (PreF.get hp' 45 (by kernel_rfl)).1
              have t74 : au.tmps[74]?.getD undef = u 45 := hsl.out 45 74 (by kernel_rfl)
              rw [h45] at t74
              refine step_plain rfl ?_
              go_simp
              exact hK.out (.int .i64 X) _ (sR_up hF 46 (by omega) _) (sF_val 46 (by omega) ((G46.out _).2 rfl)) (fun j hj hf h => sF_up 46 _ j hj (fun e => by subst e; exact absurd (Eq.trans (Eq.symm (by kernel_rfl)) hf) Bool.false_ne_true) h)
            ·
              intro u w21 au hsl hel hu hF hp' K hK
              have h0 : u 0 = .slice (some ⟨bm, 0, none⟩) 9 9 := (G0.out _).1 (PreF.get hp' 0 (by kernel_rfl)).1
              have t29 : au.tmps[29]?.getD undef = u 0 := hsl.out 0 29 (by kernel_rfl)
              rw [h0] at t29
              have h4 : u 4 = .int .i64 (pk : Int) := (G4.out _).1 (PreF.get hp' 4 (by kernel_rfl)).1
              have t33 : au.tmps[33]?.getD undef = u 4 := hsl.out 4 33 (by kernel_rfl)
              rw [h4] at t33
              refine step_plain rfl ?_
              go_simp
              exact hK.out (.pointer (some ⟨bm, pk, none⟩)) _ (sR_up hF 47 (by omega) _) (sF_val 47 (by omega) ((G47.out _).2 rfl)) (fun j hj hf h => sF_up 47 _ j hj (fun e => by subst e; exact absurd (Eq.trans (Eq.symm (by kernel_rfl)) hf) Bool.false_ne_true) h)
            ·
              intro u w21 au hsl hel hu hF hp' K hK
              have h47 : u 47 = .pointer (some ⟨bm, pk, none⟩) := (G47.out _).1 (PreF.get hp' 47 (by kernel_rfl)).1
              have t76 : au.tmps[76]?.getD undef = u 47 := hsl.out 47 76 (by kernel_rfl)
              rw [h47] at t76
              have h46 : u 46 = .int .i64 X := (G46.out _).1 (PreF.get hp' 46 (by kernel_rfl)).1
              have t75 : au.tmps[75]?.getD undef = u 46 := hsl.out 46 75 (by kernel_rfl)
              rw [h46] at t75
              have hw : w21 = wi.drew := hF ((hu.out 48 (by decide) (.inl rfl)).trans (by kernel_rfl))
              have xc : w21.cell? ⟨bm, pk, none⟩ = some (.int .i64 OLD) := by rw [hw]; exact HOC.out
              have xf : w21.frozen? ⟨bm, pk, none⟩ = false := by rw [hw]; exact HOF.out
              have HW21 := hide hw
              clear hw
              refine step_plain rfl ?_
              go_simp
              exact hK.out (.bool true) _ (sR_st (by simp [undef])) (sF_st (G48.out _) (by rw [hPP, HW21.out])) (fun j hj _ h => sF_keep _ j hj h)
          · intro u w30 hF hall
            have hp := (hall 48 (by decide)).2 rfl
            rw [hPP] at hp
            have HE := hide hp
            clear hF hall hp
            simp only [rgPut, Act.put]
            go_simp
            have HL := hide HSN.out
            rw [← HE.out] at HL
            clear HSN HE HOC HOF
            have hkk := HIK.out.2
            go_wp2_with fail
            exact ⟨⟨k + 1, by omega, by simp, HL.out⟩, by simp [intOf] <;> omega⟩
        · have hkk : ¬ (k : Int) < 3 := by omega
          have HSj : Hid (St w [(bt, c3 (hy (bhT M T S E) (i))), (bm, c9 (hy (bhM M L) (3 * (i + 1)))), (w.heap.size + 2, [.slice none 0 0, .slice none 0 0, .int .i64 0]), (w.heap.size + 1, [.slice (some ⟨g, og, none⟩) 9 d0, .slice (some ⟨g', og', none⟩) 3 d1, .int .i64 E]), (w.heap.size, [.slice (some ⟨b, off, none⟩) 9 c0, .slice (some ⟨b', off', none⟩) 3 c1, .int .i64 D])] [] wi) := by
            have h := HSi.out
            rw [show 3 * i + k = 3 * (i + 1) by omega] at h
            exact h
          clear HSi
          obtain ⟨p0, hp0⟩ : ∃ x : Nat, x = 3 * i := ⟨_, rfl⟩
          have lp0 : (p0 : Int) < 9 := by omega
          obtain ⟨p1, hp1⟩ : ∃ x : Nat, x = 3 * i + 1 := ⟨_, rfl⟩
          have lp1 : (p1 : Int) < 9 := by omega
          obtain ⟨p2, hp2⟩ : ∃ x : Nat, x = 3 * i + 2 := ⟨_, rfl⟩
          have lp2 : (p2 : Int) < 9 := by omega
          have mMp0 : Hid (wi.cell? ⟨b, off + p0, none⟩ = some (Value.int .i64 (M p0))) := by obtain ⟨_, _, heq, hz⟩ := (HP0.out.below HSj.out.below).at (show p0 < 9 by omega); cases heq; exact hz
          have mMp1 : Hid (wi.cell? ⟨b, off + p1, none⟩ = some (Value.int .i64 (M p1))) := by obtain ⟨_, _, heq, hz⟩ := (HP0.out.below HSj.out.below).at (show p1 < 9 by omega); cases heq; exact hz
          have mMp2 : Hid (wi.cell? ⟨b, off + p2, none⟩ = some (Value.int .i64 (M p2))) := by obtain ⟨_, _, heq, hz⟩ := (HP0.out.below HSj.out.below).at (show p2 < 9 by omega); cases heq; exact hz
          have mTi : Hid (wi.cell? ⟨b', off' + i, none⟩ = some (Value.int .i64 (T i))) := by obtain ⟨_, _, heq, hz⟩ := (HP1.out.below HSj.out.below).at (show i < 3 by omega); cases heq; exact hz
          have mS0 : Hid (wi.cell? ⟨g', og', none⟩ = some (Value.int .i64 (S 0))) := by obtain ⟨_, _, heq, hz⟩ := (HK1.out.below HSj.out.below).at (show 0 < 3 by omega); cases heq; exact hz
          have mS1 : Hid (wi.cell? ⟨g', og' + 1, none⟩ = some (Value.int .i64 (S 1))) := by obtain ⟨_, _, heq, hz⟩ := (HK1.out.below HSj.out.below).at (show 1 < 3 by omega); cases heq; exact hz
          have mS2 : Hid (wi.cell? ⟨g', og' + 2, none⟩ = some (Value.int .i64 (S 2))) := by obtain ⟨_, _, heq, hz⟩ := (HK1.out.below HSj.out.below).at (show 2 < 3 by omega); cases heq; exact hz
          have e0 : IntKind.i64.wrap (3 * (i : Int)) = (p0 : Int) := by rw [IntKind.wrap_i64]; omega
          have e1 : IntKind.i64.wrap ((p0 : Int) + 1) = (p1 : Int) := by rw [IntKind.wrap_i64]; omega
          have e2 : IntKind.i64.wrap ((p0 : Int) + 2) = (p2 : Int) := by rw [IntKind.wrap_i64]; omega
          have nd0 := mul_b6 (BM.out p0 (by omega)) (BS.out 0 (by omega))
          obtain ⟨Y0, hY0⟩ : ∃ Y, Y = M p0 * S 0 := ⟨_, rfl⟩
          rw [← hY0] at nd0
          have nd1 := mul_b6 (BM.out p1 (by omega)) (BS.out 1 (by omega))
          obtain ⟨Y1, hY1⟩ : ∃ Y, Y = M p1 * S 1 := ⟨_, rfl⟩
          rw [← hY1] at nd1
          have nd2 := mul_b6 (BM.out p2 (by omega)) (BS.out 2 (by omega))
          obtain ⟨Y2, hY2⟩ : ∃ Y, Y = M p2 * S 2 := ⟨_, rfl⟩
          rw [← hY2] at nd2
          have nd5 := mul_b6 (BT.out i hlt) (show -1000000 ≤ E ∧ E ≤ 1000000 by have := BE.out; omega)
          obtain ⟨Y5, hY5⟩ : ∃ Y, Y = T i * E := ⟨_, rfl⟩
          rw [← hY5] at nd5
          obtain ⟨Y3, hY3⟩ : ∃ Y, Y = Y0 + Y1 := ⟨_, rfl⟩
          obtain ⟨Y4, hY4⟩ : ∃ Y, Y = Y3 + Y2 := ⟨_, rfl⟩
          obtain ⟨X, hX⟩ : ∃ Y, Y = Y4 + Y5 := ⟨_, rfl⟩
          have v0 : IntKind.i64.wrap (M p0 * S 0) = Y0 := by rw [IntKind.wrap_i64, ← hY0]; omega
          have v1 : IntKind.i64.wrap (M p1 * S 1) = Y1 := by rw [IntKind.wrap_i64, ← hY1]; omega
          have v2 : IntKind.i64.wrap (M p2 * S 2) = Y2 := by rw [IntKind.wrap_i64, ← hY2]; omega
          have v5 : IntKind.i64.wrap (T i * E) = Y5 := by rw [IntKind.wrap_i64, ← hY5]; omega
          have v3 : IntKind.i64.wrap (Y0 + Y1) = Y3 := by rw [IntKind.wrap_i64]; omega
          have v4 : IntKind.i64.wrap (Y3 + Y2) = Y4 := by rw [IntKind.wrap_i64]; omega
          have v6 : IntKind.i64.wrap (Y4 + Y5) = X := by rw [IntKind.wrap_i64]; omega
          have HX : Hid (X = bhT M T S E i) := by show _ = _; unfold bhT timF; rw [hX, hY4, hY3, hY0, hY1, hY2, hY5, hp0, hp1, hp2]
          have HSN : Hid (St w [(bt, c3 (hy (bhT M T S E) (i + 1))), (bm, c9 (hy (bhM M L) (3 * (i + 1)))), (w.heap.size + 2, [.slice none 0 0, .slice none 0 0, .int .i64 0]), (w.heap.size + 1, [.slice (some ⟨g, og, none⟩) 9 d0, .slice (some ⟨g', og', none⟩) 3 d1, .int .i64 E]), (w.heap.size, [.slice (some ⟨b, off, none⟩) 9 c0, .slice (some ⟨b', off', none⟩) 3 c1, .int .i64 D])] [] (wi.drew.setCell ⟨bt, i, none⟩ (.int .i64 X))) := by
            have h := St.fill (L1 := []) HSj.out.drew i (.int .i64 X)
            rw [HX.out, c3_hy (bhT M T S E) hlt] at h
            rw [HX.out]
            exact h
          have HOC : Hid (wi.cell? ⟨bt, i, none⟩ = some (.int .i64 (hy (bhT M T S E) i i))) := HSj.out.cell 0 rfl i (c3_at _ hlt)
          have HOF : Hid (wi.frozen? ⟨bt, i, none⟩ = false) := HSj.out.free 0 rfl i (c3_at _ hlt)
          have HIK : Hid (i < 3) := hlt
          clear hY0 hY1 hY2 hY3 hY4 hY5 hX nd0 nd1 nd2 nd5 hp0 hp1 hp2 hlt hi hk hkl
          generalize hy (bhT M T S E) i i = OLD at *
          go_upto_region 12 with fail
          obtain ⟨G, hG⟩ : ∃ G : Nat → Value → Prop, G = (fun j v => match j with | 0 => v = .slice (some ⟨bt, 0, none⟩) 3 3 | 1 => v = .int .i64 (i : Int) | 2 => v = .pointer (some ⟨w.heap.size, 0, none⟩) | 3 => v = .slice (some ⟨b, off, none⟩) 9 c0 | 4 => v = .int .i64 (i : Int) | 5 => v = .int .i64 (p0 : Int) | 6 => v = .pointer (some ⟨b, off + p0, none⟩) | 7 => v = .int .i64 (M p0) | 8 => v = .pointer (some ⟨(w.heap.size + 1), 1, none⟩) | 9 => v = .slice (some ⟨g', og', none⟩) 3 d1 | 10 => v = .pointer (some ⟨g', og', none⟩) | 11 => v = .int .i64 (S 0) | 12 => v = .int .i64 Y0 | 13 => v = .pointer (some ⟨w.heap.size, 0, none⟩) | 14 => v = .slice (some ⟨b, off, none⟩) 9 c0 | 15 => v = .int .i64 (i : Int) | 16 => v = .int .i64 (p0 : Int) | 17 => v = .int .i64 (p1 : Int) | 18 => v = .pointer (some ⟨b, off + p1, none⟩) | 19 => v = .int .i64 (M p1) | 20 => v = .pointer (some ⟨(w.heap.size + 1), 1, none⟩) | 21 => v = .slice (some ⟨g', og', none⟩) 3 d1 | 22 => v = .pointer (some ⟨g', og' + 1, none⟩) | 23 => v = .int .i64 (S 1) | 24 => v = .int .i64 Y1 | 25 => v = .int .i64 Y3 | 26 => v = .pointer (some ⟨w.heap.size, 0, none⟩) | 27 => v = .slice (some ⟨b, off, none⟩) 9 c0 | 28 => v = .int .i64 (i : Int) | 29 => v = .int .i64 (p0 : Int) | 30 => v = .int .i64 (p2 : Int) | 31 => v = .pointer (some ⟨b, off + p2, none⟩) | 32 => v = .int .i64 (M p2) | 33 => v = .pointer (some ⟨(w.heap.size + 1), 1, none⟩) | 34 => v = .slice (some ⟨g', og', none⟩) 3 d1 | 35 => v = .pointer (some ⟨g', og' + 2, none⟩) | 36 => v = .int .i64 (S 2) | 37 => v = .int .i64 Y2 | 38 => v = .int .i64 Y4 | 39 => v = .pointer (some ⟨w.heap.size, 1, none⟩) | 40 => v = .slice (some ⟨b', off', none⟩) 3 c1 | 41 => v = .int .i64 (i : Int) | 42 => v = .pointer (some ⟨b', off' + i, none⟩) | 43 => v = .int .i64 (T i) | 44 => v = .pointer (some ⟨(w.heap.size + 1), 2, none⟩) | 45 => v = .int .i64 E | 46 => v = .int .i64 Y5 | 47 => v = .int .i64 X | 48 => v = .pointer (some ⟨bt, i, none⟩) | _ => True) := ⟨_, rfl⟩
          have G0 : Hid (∀ v, G 0 v ↔ v = .slice (some ⟨bt, 0, none⟩) 3 3) := fun v => by rw [hG]; exact Iff.rfl
          have G1 : Hid (∀ v, G 1 v ↔ v = .int .i64 (i : Int)) := fun v => by rw [hG]; exact Iff.rfl
          have G2 : Hid (∀ v, G 2 v ↔ v = .pointer (some ⟨w.heap.size, 0, none⟩)) := fun v => by rw [hG]; exact Iff.rfl
          have G3 : Hid (∀ v, G 3 v ↔ v = .slice (some ⟨b, off, none⟩) 9 c0) := fun v => by rw [hG]; exact Iff.rfl
          have G4 : Hid (∀ v, G 4 v ↔ v = .int .i64 (i : Int)) := fun v => by rw [hG]; exact Iff.rfl
          have G5 : Hid (∀ v, G 5 v ↔ v = .int .i64 (p0 : Int)) := fun v => by rw [hG]; exact Iff.rfl
          have G6 : Hid (∀ v, G 6 v ↔ v = .pointer (some ⟨b, off + p0, none⟩)) := fun v => by rw [hG]; exact Iff.rfl
          have G7 : Hid (∀ v, G 7 v ↔ v = .int .i64 (M p0)) := fun v => by rw [hG]; exact Iff.rfl
          have G8 : Hid (∀ v, G 8 v ↔ v = .pointer (some ⟨(w.heap.size + 1), 1, none⟩)) := fun v => by rw [hG]; exact Iff.rfl
          have G9 : Hid (∀ v, G 9 v ↔ v = .slice (some ⟨g', og', none⟩) 3 d1) := fun v => by rw [hG]; exact Iff.rfl
          have G10 : Hid (∀ v, G 10 v ↔ v = .pointer (some ⟨g', og', none⟩)) := fun v => by rw [hG]; exact Iff.rfl
          have G11 : Hid (∀ v, G 11 v ↔ v = .int .i64 (S 0)) := fun v => by rw [hG]; exact Iff.rfl
          have G12 : Hid (∀ v, G 12 v ↔ v = .int .i64 Y0) := fun v => by rw [hG]; exact Iff.rfl
          have G13 : Hid (∀ v, G 13 v ↔ v = .pointer (some ⟨w.heap.size, 0, none⟩)) := fun v => by rw [hG]; exact Iff.rfl
          have G14 : Hid (∀ v, G 14 v ↔ v = .slice (some ⟨b, off, none⟩) 9 c0) := fun v => by rw [hG]; exact Iff.rfl
          have G15 : Hid (∀ v, G 15 v ↔ v = .int .i64 (i : Int)) := fun v => by rw [hG]; exact Iff.rfl
          have G16 : Hid (∀ v, G 16 v ↔ v = .int .i64 (p0 : Int)) := fun v => by rw [hG]; exact Iff.rfl
          have G17 : Hid (∀ v, G 17 v ↔ v = .int .i64 (p1 : Int)) := fun v => by rw [hG]; exact Iff.rfl
          have G18 : Hid (∀ v, G 18 v ↔ v = .pointer (some ⟨b, off + p1, none⟩)) := fun v => by rw [hG]; exact Iff.rfl
          have G19 : Hid (∀ v, G 19 v ↔ v = .int .i64 (M p1)) := fun v => by rw [hG]; exact Iff.rfl
          have G20 : Hid (∀ v, G 20 v ↔ v = .pointer (some ⟨(w.heap.size + 1), 1, none⟩)) := fun v => by rw [hG]; exact Iff.rfl
          have G21 : Hid (∀ v, G 21 v ↔ v = .slice (some ⟨g', og', none⟩) 3 d1) := fun v => by rw [hG]; exact Iff.rfl
          have G22 : Hid (∀ v, G 22 v ↔ v = .pointer (some ⟨g', og' + 1, none⟩)) := fun v => by rw [hG]; exact Iff.rfl
          have G23 : Hid (∀ v, G 23 v ↔ v = .int .i64 (S 1)) := fun v => by rw [hG]; exact Iff.rfl
          have G24 : Hid (∀ v, G 24 v ↔ v = .int .i64 Y1) := fun v => by rw [hG]; exact Iff.rfl
          have G25 : Hid (∀ v, G 25 v ↔ v = .int .i64 Y3) := fun v => by rw [hG]; exact Iff.rfl
          have G26 : Hid (∀ v, G 26 v ↔ v = .pointer (some ⟨w.heap.size, 0, none⟩)) := fun v => by rw [hG]; exact Iff.rfl
          have G27 : Hid (∀ v, G 27 v ↔ v = .slice (some ⟨b, off, none⟩) 9 c0) := fun v => by rw [hG]; exact Iff.rfl
          have G28 : Hid (∀ v, G 28 v ↔ v = .int .i64 (i : Int)) := fun v => by rw [hG]; exact Iff.rfl
          have G29 : Hid (∀ v, G 29 v ↔ v = .int .i64 (p0 : Int)) := fun v => by rw [hG]; exact Iff.rfl
          have G30 : Hid (∀ v, G 30 v ↔ v = .int .i64 (p2 : Int)) := fun v => by rw [hG]; exact Iff.rfl
          have G31 : Hid (∀ v, G 31 v ↔ v = .pointer (some ⟨b, off + p2, none⟩)) := fun v => by rw [hG]; exact Iff.rfl
          have G32 : Hid (∀ v, G 32 v ↔ v = .int .i64 (M p2)) := fun v => by rw [hG]; exact Iff.rfl
          have G33 : Hid (∀ v, G 33 v ↔ v = .pointer (some ⟨(w.heap.size + 1), 1, none⟩)) := fun v => by rw [hG]; exact Iff.rfl
          have G34 : Hid (∀ v, G 34 v ↔ v = .slice (some ⟨g', og', none⟩) 3 d1) := fun v => by rw [hG]; exact Iff.rfl
          have G35 : Hid (∀ v, G 35 v ↔ v = .pointer (some ⟨g', og' + 2, none⟩)) := fun v => by rw [hG]; exact Iff.rfl
          have G36 : Hid (∀ v, G 36 v ↔ v = .int .i64 (S 2)) := fun v => by rw [hG]; exact Iff.rfl
          have G37 : Hid (∀ v, G 37 v ↔ v = .int .i64 Y2) := fun v => by rw [hG]; exact Iff.rfl
          have G38 : Hid (∀ v, G 38 v ↔ v = .int .i64 Y4) := fun v => by rw [hG]; exact Iff.rfl
          have G39 : Hid (∀ v, G 39 v ↔ v = .pointer (some ⟨w.heap.size, 1, none⟩)) := fun v => by rw [hG]; exact Iff.rfl
          have G40 : Hid (∀ v, G 40 v ↔ v = .slice (some ⟨b', off', none⟩) 3 c1) := fun v => by rw [hG]; exact Iff.rfl
          have G41 : Hid (∀ v, G 41 v ↔ v = .int .i64 (i : Int)) := fun v => by rw [hG]; exact Iff.rfl
          have G42 : Hid (∀ v, G 42 v ↔ v = .pointer (some ⟨b', off' + i, none⟩)) := fun v => by rw [hG]; exact Iff.rfl
          have G43 : Hid (∀ v, G 43 v ↔ v = .int .i64 (T i)) := fun v => by rw [hG]; exact Iff.rfl
          have G44 : Hid (∀ v, G 44 v ↔ v = .pointer (some ⟨(w.heap.size + 1), 2, none⟩)) := fun v => by rw [hG]; exact Iff.rfl
          have G45 : Hid (∀ v, G 45 v ↔ v = .int .i64 E) := fun v => by rw [hG]; exact Iff.rfl
          have G46 : Hid (∀ v, G 46 v ↔ v = .int .i64 Y5) := fun v => by rw [hG]; exact Iff.rfl
          have G47 : Hid (∀ v, G 47 v ↔ v = .int .i64 X) := fun v => by rw [hG]; exact Iff.rfl
          have G48 : Hid (∀ v, G 48 v ↔ v = .pointer (some ⟨bt, i, none⟩)) := fun v => by rw [hG]; exact Iff.rfl
          have G49 : Hid (∀ v, G 49 v) := fun v => by rw [hG]; trivial
          clear hG
          obtain ⟨PP, hPP⟩ : ∃ P : World → Prop, P = (fun wx => wx = wi.drew.setCell ⟨bt, i, none⟩ (.int .i64 X)) := ⟨_, rfl⟩
          refine region_opsV (sR 49 wi) (sF 49 G PP) (by kernel_rfl) (by kernel_rfl) (by kernel_rfl) (by kernel_rfl) (fun _ => rfl) ?_ ?_
          · refine ⟨?_, ?_, ?_, ?_, ?_, ?_, ?_, ?_, ?_, ?_, ?_, ?_, ?_, ?_, ?_, ?_, ?_, ?_, ?_, ?_, ?_, ?_, ?_, ?_, ?_, ?_, ?_, ?_, ?_, ?_, ?_, ?_, ?_, ?_, ?_, ?_, ?_, ?_, ?_, ?_, ?_, ?_, ?_, ?_, ?_, ?_, ?_, ?_, ?_, ?_, trivial⟩
            ·
              intro u w21 au hsl hel hu hF hp' K hK
              have t7 : au.tmps[7]?.getD undef = .slice (some ⟨bt, 0, none⟩) 3 3 := (hel.out 7 (by kernel_rfl)).trans (by kernel_rfl)
              refine step_plain rfl ?_
              go_simp
              exact hK.out (.slice (some ⟨bt, 0, none⟩) 3 3) _ (sR_up hF 0 (by omega) _) (sF_val 0 (by omega) ((G0.out _).2 rfl)) (fun j hj hf h => sF_up 0 _ j hj (fun e => by subst e; exact absurd (Eq.trans (Eq.symm (by kernel_rfl)) hf) Bool.false_ne_true) h)
            ·
              intro u w21 au hsl hel hu hF hp' K hK
              have t8 : au.tmps[8]?.getD undef = .int .i64 (i : Int) := (hel.out 8 (by kernel_rfl)).trans (by kernel_rfl)
              refine step_plain rfl ?_
              go_simp
              exact hK.out (.int .i64 (i : Int)) _ (sR_up hF 1 (by omega) _) (sF_val 1 (by omega) ((G1.out _).2 rfl)) (fun j hj hf h => sF_up 1 _ j hj (fun e => by subst e; exact absurd (Eq.trans (Eq.symm (by kernel_rfl)) hf) Bool.false_ne_true) h)
            ·
              intro u w21 au hsl hel hu hF hp' K hK
              have t2 : au.tmps[2]?.getD undef = .pointer (some ⟨w.heap.size, 0, none⟩) := (hel.out 2 (by kernel_rfl)).trans (by kernel_rfl)
              refine step_plain rfl ?_
              go_simp
              exact hK.out (.pointer (some ⟨w.heap.size, 0, none⟩)) _ (sR_up hF 2 (by omega) _) (sF_val 2 (by omega) ((G2.out _).2 rfl)) (fun j hj hf h => sF_up 2 _ j hj (fun e => by subst e; exact absurd (Eq.trans (Eq.symm (by kernel_rfl)) hf) Bool.false_ne_true) h)
            ·
              intro u w21 au hsl hel hu hF hp' K hK
              have h2 : u 2 = .pointer (some ⟨w.heap.size, 0, none⟩) := (G2.out _).1 (PreF.get hp' 2 (by kernel_rfl)).1
              have t79 : au.tmps[79]?.getD undef = u 2 := hsl.out 2 79 (by kernel_rfl)
              rw [h2] at t79
              have hw : w21 = wi.drew := hF ((hu.out 49 (by decide) (.inr (by kernel_rfl))).trans (by kernel_rfl))
              have xc : w21.cell? ⟨w.heap.size, 0, none⟩ = some (.slice (some ⟨b, off, none⟩) 9 c0) := by rw [hw]; exact HSj.out.cell 4 rfl 0 rfl
              clear hw
              refine step_plain rfl ?_
              go_simp
              exact hK.out (.slice (some ⟨b, off, none⟩) 9 c0) _ (sR_up hF 3 (by omega) _) (sF_val 3 (by omega) ((G3.out _).2 rfl)) (fun j hj hf h => sF_up 3 _ j hj (fun e => by subst e; exact absurd (Eq.trans (Eq.symm (by kernel_rfl)) hf) Bool.false_ne_true) h)
            ·
              intro u w21 au hsl hel hu hF hp' K hK
              have t8 : au.tmps[8]?.getD undef = .int .i64 (i : Int) := (hel.out 8 (by kernel_rfl)).trans (by kernel_rfl)
              refine step_plain rfl ?_
              go_simp
              exact hK.out (.int .i64 (i : Int)) _ (sR_up hF 4 (by omega) _) (sF_val 4 (by omega) ((G4.out _).2 rfl)) (fun j hj hf h => sF_up 4 _ j hj (fun e => by subst e; exact absurd (Eq.trans (Eq.symm (by kernel_rfl)) hf) Bool.false_ne_true) h)
            ·
              intro u w21 au hsl hel hu hF hp' K hK
              have h4 : u 4 = .int .i64 (i : Int) := (G4.out _).1 (PreF.get hp' 4 (by kernel_rfl)).1
              have t81 : au.tmps[81]?.getD undef = u 4 := hsl.out 4 81 (by kernel_rfl)
              rw [h4] at t81
              refine step_plain rfl ?_
              go_simp
              exact hK.out (.int .i64 (p0 : Int)) _ (sR_up hF 5 (by omega) _) (sF_val 5 (by omega) ((G5.out _).2 rfl)) (fun j hj hf h => sF_up 5 _ j hj (fun e => by subst e; exact absurd (Eq.trans (Eq.symm (by kernel_rfl)) hf) Bool.false_ne_true) h)
            ·
              intro u w21 au hsl hel hu hF hp' K hK
              have h3 : u 3 = .slice (some ⟨b, off, none⟩) 9 c0 := (G3.out _).1 (PreF.get hp' 3 (by kernel_rfl)).1
              have t80 : au.tmps[80]?.getD undef = u 3 := hsl.out 3 80 (by kernel_rfl)
              rw [h3] at t80
              have h5 : u 5 = .int .i64 (p0 : Int) := (G5.out _).1 (PreF.get hp' 5 (by kernel_rfl)).1
              have t82 : au.tmps[82]?.getD undef = u 5 := hsl.out 5 82 (by kernel_rfl)
              rw [h5] at t82
              refine step_plain rfl ?_
              go_simp
              exact hK.out (.pointer (some ⟨b, off + p0, none⟩)) _ (sR_up hF 6 (by omega) _) (sF_val 6 (by omega) ((G6.out _).2 rfl)) (fun j hj hf h => sF_up 6 _ j hj (fun e => by subst e; exact absurd (Eq.trans (Eq.symm (by kernel_rfl)) hf) Bool.false_ne_true) h)
            ·
              intro u w21 au hsl hel hu hF hp' K hK
              have h6 : u 6 = .pointer (some ⟨b, off + p0, none⟩) := (G6.out _).1 (PreF.get hp' 6 (by kernel_rfl)).1
              have t83 : au.tmps[83]?.getD undef = u 6 := hsl.out 6 83 (by kernel_rfl)
              rw [h6] at t83
              have hw : w21 = wi.drew := hF ((hu.out 49 (by decide) (.inr (by kernel_rfl))).trans (by kernel_rfl))
              have xc : w21.cell? ⟨b, off + p0, none⟩ = some (.int .i64 (M p0)) := by rw [hw]; exact mMp0.out
              clear hw
              refine step_plain rfl ?_
              go_simp
              exact hK.out (.int .i64 (M p0)) _ (sR_up hF 7 (by omega) _) (sF_val 7 (by omega) ((G7.out _).2 rfl)) (fun j hj hf h => sF_up 7 _ j hj (fun e => by subst e; exact absurd (Eq.trans (Eq.symm (by kernel_rfl)) hf) Bool.false_ne_true) h)
            ·
              intro u w21 au hsl hel hu hF hp' K hK
              have t3 : au.tmps[3]?.getD undef = .pointer (some ⟨(w.heap.size + 1), 0, none⟩) := (hel.out 3 (by kernel_rfl)).trans (by kernel_rfl)
              refine step_plain rfl ?_
              go_simp
              exact hK.out (.pointer (some ⟨(w.heap.size + 1), 1, none⟩)) _ (sR_up hF 8 (by omega) _) (sF_val 8 (by omega) ((G8.out _).2 rfl)) (fun j hj hf h => sF_up 8 _ j hj (fun e => by subst e; exact absurd (Eq.trans (Eq.symm (by kernel_rfl)) hf) Bool.false_ne_true) h)
            ·
              intro u w21 au hsl hel hu hF hp' K hK
              have h8 : u 8 = .pointer (some ⟨(w.heap.size + 1), 1, none⟩) := (G8.out _).1 (PreF.get hp' 8 (by kernel_rfl)).1
              have t85 : au.tmps[85]?.getD undef = u 8 := hsl.out 8 85 (by kernel_rfl)
              rw [h8] at t85
              have hw : w21 = wi.drew := hF ((hu.out 49 (by decide) (.inr (by kernel_rfl))).trans (by kernel_rfl))
              have xc : w21.cell? ⟨(w.heap.size + 1), 1, none⟩ = some (.slice (some ⟨g', og', none⟩) 3 d1) := by rw [hw]; exact HSj.out.cell 3 rfl 1 rfl
              clear hw
              refine step_plain rfl ?_
              go_simp
              exact hK.out (.slice (some ⟨g', og', none⟩) 3 d1) _ (sR_up hF 9 (by omega) _) (sF_val 9 (by omega) ((G9.out _).2 rfl)) (fun j hj hf h => sF_up 9 _ j hj (fun e => by subst e; exact absurd (Eq.trans (Eq.symm (by kernel_rfl)) hf) Bool.false_ne_true) h)
            ·
              intro u w21 au hsl hel hu hF hp' K hK
              have h9 : u 9 = .slice (some ⟨g', og', none⟩) 3 d1 := (G9.out _).1 (PreF.get hp' 9 (by kernel_rfl)).1
              have t86 : au.tmps[86]?.getD undef = u 9 := hsl.out 9 86 (by kernel_rfl)
              rw [h9] at t86
              refine step_plain rfl ?_
              go_simp
              exact hK.out (.pointer (some ⟨g', og', none⟩)) _ (sR_up hF 10 (by omega) _) (sF_val 10 (by omega) ((G10.out _).2 rfl)) (fun j hj hf h => sF_up 10 _ j hj (fun e => by subst e; exact absurd (Eq.trans (Eq.symm (by kernel_rfl)) hf) Bool.false_ne_true) h)
            ·
              intro u w21 au hsl hel hu hF hp' K hK
              have h10 : u 10 = .pointer (some ⟨g', og', none⟩) := (G10.out _).1 (PreF.get hp' 10 (by kernel_rfl)).1
              have t87 : au.tmps[87]?.getD undef = u 10 := hsl.out 10 87 (by kernel_rfl)
              rw [h10] at t87
              have hw : w21 = wi.drew := hF ((hu.out 49 (by decide) (.inr (by kernel_rfl))).trans (by kernel_rfl))
              have xc : w21.cell? ⟨g', og', none⟩ = some (.int .i64 (S 0)) := by rw [hw]; exact mS0.out
              clear hw
              refine step_plain rfl ?_
              go_simp
              exact hK.out (.int .i64 (S 0)) _ (sR_up hF 11 (by omega) _) (sF_val 11 (by omega) ((G11.out _).2 rfl)) (fun j hj hf h => sF_up 11 _ j hj (fun e => by subst e; exact absurd (Eq.trans (Eq.symm (by kernel_rfl)) hf) Bool.false_ne_true) h)
            ·
              intro u w21 au hsl hel hu hF hp' K hK
              have h7 : u 7 = .int .i64 (M p0) := (G7.out _).1 (PreF.get hp' 7 (by kernel_rfl)).1
              have t84 : au.tmps[84]?.getD undef = u 7 := hsl.out 7 84 (by kernel_rfl)
              rw [h7] at t84
              have h11 : u 11 = .int .i64 (S 0) := (G11.out _).1 (PreF.get hp' 11 (by kernel_rfl)).1
              have t88 : au.tmps[88]?.getD undef = u 11 := hsl.out 11 88 (by kernel_rfl)
              rw [h11] at t88
              refine step_plain rfl ?_
              go_simp
              exact hK.out (.int .i64 Y0) _ (sR_up hF 12 (by omega) _) (sF_val 12 (by omega) ((G12.out _).2 rfl)) (fun j hj hf h => sF_up 12 _ j hj (fun e => by subst e; exact absurd (Eq.trans (Eq.symm (by kernel_rfl)) hf) Bool.false_ne_true) h)
            ·
              intro u w21 au hsl hel hu hF hp' K hK
              have t2 : au.tmps[2]?.getD undef = .pointer (some ⟨w.heap.size, 0, none⟩) := (hel.out 2 (by kernel_rfl)).trans (by kernel_rfl)
              refine step_plain rfl ?_
              go_simp
              exact hK.out (.pointer (some ⟨w.heap.size, 0, none⟩)) _ (sR_up hF 13 (by omega) _) (sF_val 13 (by omega) ((G13.out _).2 rfl)) (fun j hj hf h => sF_up 13 _ j hj (fun e => by subst e; exact absurd (Eq.trans (Eq.symm (by kernel_rfl)) hf) Bool.false_ne_true) h)
            ·
              intro u w21 au hsl hel hu hF hp' K hK
              have h13 : u 13 = .pointer (some ⟨w.heap.size, 0, none⟩) := (G13.out _).1 (PreF.get hp' 13 (by kernel_rfl)).1
              have t90 : au.tmps[90]?.getD undef = u 13 := hsl.out 13 90 (by kernel_rfl)
              rw [h13] at t90
              have hw : w21 = wi.drew := hF ((hu.out 49 (by decide) (.inr (by kernel_rfl))).trans (by kernel_rfl))
              have xc : w21.cell? ⟨w.heap.size, 0, none⟩ = some (.slice (some ⟨b, off, none⟩) 9 c0) := by rw [hw]; exact HSj.out.cell 4 rfl 0 rfl
              clear hw
              refine step_plain rfl ?_
              go_simp
              exact hK.out (.slice (some ⟨b, off, none⟩) 9 c0) _ (sR_up hF 14 (by omega) _) (sF_val 14 (by omega) ((G14.out _).2 rfl)) (fun j hj hf h => sF_up 14 _ j hj (fun e => by subst e; exact absurd (Eq.trans (Eq.symm (by kernel_rfl)) hf) Bool.false_ne_true) h)
            ·
              intro u w21 au hsl hel hu hF hp' K hK
              have t8 : au.tmps[8]?.getD undef = .int .i64 (i : Int) := (hel.out 8 (by kernel_rfl)).trans (by kernel_rfl)
              refine step_plain rfl ?_
              go_simp
              exact hK.out (.int .i64 (i : Int)) _ (sR_up hF 15 (by omega) _) (sF_val 15 (by omega) ((G15.out _).2 rfl)) (fun j hj hf h => sF_up 15 _ j hj (fun e => by subst e; exact absurd (Eq.trans (Eq.symm (by kernel_rfl)) hf) Bool.false_ne_true) h)
            ·
              intro u w21 au hsl hel hu hF hp' K hK
              have h15 : u 15 = .int .i64 (i : Int) := (G15.out _).1 (PreF.get hp' 15 (by kernel_rfl)).1
              have t92 : au.tmps[92]?.getD undef = u 15 := hsl.out 15 92 (by kernel_rfl)
              rw [h15] at t92
              refine step_plain rfl ?_
              go_simp
              exact hK.out (.int .i64 (p0 : Int)) _ (sR_up hF 16 (by omega) _) (sF_val 16 (by omega) ((G16.out _).2 rfl)) (fun j hj hf h => sF_up 16 _ j hj (fun e => by subst e; exact absurd (Eq.trans (Eq.symm (by kernel_rfl)) hf) Bool.false_ne_true) h)
            ·
              intro u w21 au hsl hel hu hF hp' K hK
              have h16 : u 16 = .int .i64 (p0 : Int) := (G16.out _).1 (PreF.get hp' 16 (by kernel_rfl)).1
              have t93 : au.tmps[93]?.getD undef = u 16 := hsl.out 16 93 (by kernel_rfl)
              rw [h16] at t93
              refine step_plain rfl ?_
              go_simp
              exact hK.out (.int .i64 (p1 : Int)) _ (sR_up hF 17 (by omega) _) (sF_val 17 (by omega) ((G17.out _).2 rfl)) (fun j hj hf h => sF_up 17 _ j hj (fun e => by subst e; exact absurd (Eq.trans (Eq.symm (by kernel_rfl)) hf) Bool.false_ne_true) h)
            ·
              intro u w21 au hsl hel hu hF hp' K hK
              have h14 : u 14 = .slice (some ⟨b, off, none⟩) 9 c0 := (G14.out _).1 (PreF.get hp' 14 (by kernel_rfl)).1
              have t91 : au.tmps[91]?.getD undef = u 14 := hsl.out 14 91 (by kernel_rfl)
              rw [h14] at t91
              have h17 : u 17 = .int .i64 (p1 : Int) := (G17.out _).1 (PreF.get hp' 17 (by kernel_rfl)).1
              have t94 : au.tmps[94]?.getD undef = u 17 := hsl.out 17 94 (by kernel_rfl)
              rw [h17] at t94
              refine step_plain rfl ?_
              go_simp
              exact hK.out (.pointer (some ⟨b, off + p1, none⟩)) _ (sR_up hF 18 (by omega) _) (sF_val 18 (by omega) ((G18.out _).2 rfl)) (fun j hj hf h => sF_up 18 _ j hj (fun e => by subst e; exact absurd (Eq.trans (Eq.symm (by kernel_rfl)) hf) Bool.false_ne_true) h)
            ·
              intro u w21 au hsl hel hu hF hp' K hK
              have h18 : u 18 = .pointer (some ⟨b, off + p1, none⟩) := (G18.out _).1 (PreF.get hp' 18 (by kernel_rfl)).1
              have t95 : au.tmps[95]?.getD undef = u 18 := hsl.out 18 95 (by kernel_rfl)
              rw [h18] at t95
              have hw : w21 = wi.drew := hF ((hu.out 49 (by decide) (.inr (by kernel_rfl))).trans (by kernel_rfl))
              have xc : w21.cell? ⟨b, off + p1, none⟩ = some (.int .i64 (M p1)) := by rw [hw]; exact mMp1.out
              clear hw
              refine step_plain rfl ?_
              go_simp
              exact hK.out (.int .i64 (M p1)) _ (sR_up hF 19 (by omega) _) (sF_val 19 (by omega) ((G19.out _).2 rfl)) (fun j hj hf h => sF_up 19 _ j hj (fun e => by subst e; exact absurd (Eq.trans (Eq.symm (by kernel_rfl)) hf) Bool.false_ne_true) h)
            ·
              intro u w21 au hsl hel hu hF hp' K hK
              have t3 : au.tmps[3]?.getD undef = .pointer (some ⟨(w.heap.size + 1), 0, none⟩) := (hel.out 3 (by kernel_rfl)).trans (by kernel_rfl)
              refine step_plain rfl ?_
              go_simp
              exact hK.out (.pointer (some ⟨(w.heap.size + 1), 1, none⟩)) _ (sR_up hF 20 (by omega) _) (sF_val 20 (by omega) ((G20.out _).2 rfl)) (fun j hj hf h => sF_up 20 _ j hj (fun e => by subst e; exact absurd (Eq.trans (Eq.symm (by kernel_rfl)) hf) Bool.false_ne_true) h)
            ·
              intro u w21 au hsl hel hu hF hp' K hK
              have h20 : u 20 = .pointer (some ⟨(w.heap.size + 1), 1, none⟩) := (G20.out _).1 (PreF.get hp' 20 (by kernel_rfl)).1
              have t97 : au.tmps[97]?.getD undef = u 20 := hsl.out 20 97 (by kernel_rfl)
              rw [h20] at t97
              have hw : w21 = wi.drew := hF ((hu.out 49 (by decide) (.inr (by kernel_rfl))).trans (by kernel_rfl))
              have xc : w21.cell? ⟨(w.heap.size + 1), 1, none⟩ = some (.slice (some ⟨g', og', none⟩) 3 d1) := by rw [hw]; exact HSj.out.cell 3 rfl 1 rfl
              clear hw
              refine step_plain rfl ?_
              go_simp
              exact hK.out (.slice (some ⟨g', og', none⟩) 3 d1) _ (sR_up hF 21 (by omega) _) (sF_val 21 (by omega) ((G21.out _).2 rfl)) (fun j hj hf h => sF_up 21 _ j hj (fun e => by subst e; exact absurd (Eq.trans (Eq.symm (by kernel_rfl)) hf) Bool.false_ne_true) h)
            ·
              intro u w21 au hsl hel hu hF hp' K hK
              have h21 : u 21 = .slice (some ⟨g', og', none⟩) 3 d1 := (G21.out _).1 (PreF.get hp' 21 (by kernel_rfl)).1
              have t98 : au.tmps[98]?.getD undef = u 21 := hsl.out 21 98 (by kernel_rfl)
              rw [h21] at t98
              refine step_plain rfl ?_
              go_simp
              exact hK.out (.pointer (some ⟨g', og' + 1, none⟩)) _ (sR_up hF 22 (by omega) _) (sF_val 22 (by omega) ((G22.out _).2 rfl)) (fun j hj hf h => sF_up 22 _ j hj (fun e => by subst e; exact absurd (Eq.trans (Eq.symm (by kernel_rfl)) hf) Bool.false_ne_true) h)
            ·
              intro u w21 au hsl hel hu hF hp' K hK
              have h22 : u 22 = .pointer (some ⟨g', og' + 1, none⟩) := (G22.out _).1 (PreF.get hp' 22 (by kernel_rfl)).1
              have t99 : au.tmps[99]?.getD undef = u 22 := hsl.out 22 99 (by kernel_rfl)
              rw [h22] at t99
              have hw : w21 = wi.drew := hF ((hu.out 49 (by decide) (.inr (by kernel_rfl))).trans (by kernel_rfl))
              have xc : w21.cell? ⟨g', og' + 1, none⟩ = some (.int .i64 (S 1)) := by rw [hw]; exact mS1.out
              clear hw
              refine step_plain rfl ?_
              go_simp
              exact hK.out (.int .i64 (S 1)) _ (sR_up hF 23 (by omega) _) (sF_val 23 (by omega) ((G23.out _).2 rfl)) (fun j hj hf h => sF_up 23 _ j hj (fun e => by subst e; exact absurd (Eq.trans (Eq.symm (by kernel_rfl)) hf) Bool.false_ne_true) h)
            ·
              intro u w21 au hsl hel hu hF hp' K hK
              have h19 : u 19 = .int .i64 (M p1) := (G19.out _).1 (PreF.get hp' 19 (by kernel_rfl)).1
              have t96 : au.tmps[96]?.getD undef = u 19 := hsl.out 19 96 (by kernel_rfl)
              rw [h19] at t96
              have h23 : u 23 = .int .i64 (S 1) := (G23.out _).1 (PreF.get hp' 23 (by kernel_rfl)).1
              have t100 : au.tmps[100]?.getD undef = u 23 := hsl.out 23 100 (by kernel_rfl)
              rw [h23] at t100
              refine step_plain rfl ?_
              go_simp
              exact hK.out (.int .i64 Y1) _ (sR_up hF 24 (by omega) _) (sF_val 24 (by omega) ((G24.out _).2 rfl)) (fun j hj hf h => sF_up 24 _ j hj (fun e => by subst e; exact absurd (Eq.trans (Eq.symm (by kernel_rfl)) hf) Bool.false_ne_true) h)
            ·
              intro u w21 au hsl hel hu hF hp' K hK
              have h12 : u 12 = .int .i64 Y0 := (G12.out _).1 (PreF.get hp' 12 (by kernel_rfl)).1
              have t89 : au.tmps[89]?.getD undef = u 12 := hsl.out 12 89 (by kernel_rfl)
              rw [h12] at t89
              have h24 : u 24 = .int .i64 Y1 := (G24.out _).1 (PreF.get hp' 24 (by kernel_rfl)).1
              have t101 : au.tmps[101]?.getD undef = u 24 := hsl.out 24 101 (by kernel_rfl)
              rw [h24] at t101
              refine step_plain rfl ?_
              go_simp
              exact hK.out (.int .i64 Y3) _ (sR_up hF 25 (by omega) _) (sF_val 25 (by omega) ((G25.out _).2 rfl)) (fun j hj hf h => sF_up 25 _ j hj (fun e => by subst e; exact absurd (Eq.trans (Eq.symm (by kernel_rfl)) hf) Bool.false_ne_true) h)
            ·
              intro u w21 au hsl hel hu hF hp' K hK
              have t2 : au.tmps[2]?.getD undef = .pointer (some ⟨w.heap.size, 0, none⟩) := (hel.out 2 (by kernel_rfl)).trans (by kernel_rfl)
              refine step_plain rfl ?_
              go_simp
              exact hK.out (.pointer (some ⟨w.heap.size, 0, none⟩)) _ (sR_up hF 26 (by omega) _) (sF_val 26 (by omega) ((G26.out _).2 rfl)) (fun j hj hf h => sF_up 26 _ j hj (fun e => by subst e; exact absurd (Eq.trans (Eq.symm (by kernel_rfl)) hf) Bool.false_ne_true) h)
            ·
              intro u w21 au hsl hel hu hF hp' K hK
              have h26 : u 26 = .pointer (some ⟨w.heap.size, 0, none⟩) := (G26.out _).1 (PreF.get hp' 26 (by kernel_rfl)).1
              have t103 : au.tmps[103]?.getD undef = u 26 := hsl.out 26 103 (by kernel_rfl)
              rw [h26] at t103
              have hw : w21 = wi.drew := hF ((hu.out 49 (by decide) (.inr (by kernel_rfl))).trans (by kernel_rfl))
              have xc : w21.cell? ⟨w.heap.size, 0, none⟩ = some (.slice (some ⟨b, off, none⟩) 9 c0) := by rw [hw]; exact HSj.out.cell 4 rfl 0 rfl
              clear hw
              refine step_plain rfl ?_
              go_simp
              exact hK.out (.slice (some ⟨b, off, none⟩) 9 c0) _ (sR_up hF 27 (by omega) _) (sF_val 27 (by omega) ((G27.out _).2 rfl)) (fun j hj hf h => sF_up 27 _ j hj (fun e => by subst e; exact absurd (Eq.trans (Eq.symm (by kernel_rfl)) hf) Bool.false_ne_true) h)
            ·
              intro u w21 au hsl hel hu hF hp' K hK
              have t8 : au.tmps[8]?.getD undef = .int .i64 (i : Int) := (hel.out 8 (by kernel_rfl)).trans (by kernel_rfl)
              refine step_plain rfl ?_
              go_simp
              exact hK.out (.int .i64 (i : Int)) _ (sR_up hF 28 (by omega) _) (sF_val 28 (by omega) ((G28.out _).2 rfl)) (fun j hj hf h => sF_up 28 _ j hj (fun e => by subst e; exact absurd (Eq.trans (Eq.symm (by kernel_rfl)) hf) Bool.false_ne_true) h)
            ·
              intro u w21 au hsl hel hu hF hp' K hK
              have h28 : u 28 = .int .i64 (i : Int) := (G28.out _).1 (PreF.get hp' 28 (by kernel_rfl)).1
              have t105 : au.tmps[105]?.getD undef = u 28 := hsl.out 28 105 (by kernel_rfl)
              rw [h28] at t105
              refine step_plain rfl ?_
              go_simp
              exact hK.out (.int .i64 (p0 : Int)) _ (sR_up hF 29 (by omega) _) (sF_val 29 (by omega) ((G29.out _).2 rfl)) (fun j hj hf h => sF_up 29 _ j hj (fun e => by subst e; exact absurd (Eq.trans (Eq.symm (by kernel_rfl)) hf) Bool.false_ne_true) h)
            ·
              intro u w21 au hsl hel hu hF hp' K hK
              have h29 : u 29 = .int .i64 (p0 : Int) := (G29.out _).1 (PreF.get hp' 29 (by kernel_rfl)).1
              have t106 : au.tmps[106]?.getD undef = u 29 := hsl.out 29 106 (by kernel_rfl)
              rw [h29] at t106
              refine step_plain rfl ?_
              go_simp
              exact hK.out (.int .i64 (p2 : Int)) _ (sR_up hF 30 (by omega) _) (sF_val 30 (by omega) ((G30.out _).2 rfl)) (fun j hj hf h => sF_up 30 _ j hj (fun e => by subst e; exact absurd (Eq.trans (Eq.symm (by kernel_rfl)) hf) Bool.false_ne_true) h)
            ·
              intro u w21 au hsl hel hu hF hp' K hK
              have h27 : u 27 = .slice (some ⟨b, off, none⟩) 9 c0 := (G27.out _).1 (PreF.get hp' 27 (by kernel_rfl)).1
              have t104 : au.tmps[104]?.getD undef = u 27 := hsl.out 27 104 (by kernel_rfl)
              rw [h27] at t104
              have h30 : u 30 = .int .i64 (p2 : Int) := (G30.out _).1 (PreF.get hp' 30 (by kernel_rfl)).1
              have t107 : au.tmps[107]?.getD undef = u 30 := hsl.out 30 107 (by kernel_rfl)
              rw [h30] at t107
              refine step_plain rfl ?_
              go_simp
              exact hK.out (.pointer (some ⟨b, off + p2, none⟩)) _ (sR_up hF 31 (by omega) _) (sF_val 31 (by omega) ((G31.out _).2 rfl)) (fun j hj hf h => sF_up 31 _ j hj (fun e => by subst e; exact absurd (Eq.trans (Eq.symm (by kernel_rfl)) hf) Bool.false_ne_true) h)
            ·
              intro u w21 au hsl hel hu hF hp' K hK
              have h31 : u 31 = .pointer (some ⟨b, off + p2, none⟩) := (G31.out _).1 (PreF.get hp' 31 (by kernel_rfl)).1
              have t108 : au.tmps[108]?.getD undef = u 31 := hsl.out 31 108 (by kernel_rfl)
              rw [h31] at t108
              have hw : w21 = wi.drew := hF ((hu.out 49 (by decide) (.inr (by kernel_rfl))).trans (by kernel_rfl))
              have xc : w21.cell? ⟨b, off + p2, none⟩ = some (.int .i64 (M p2)) := by rw [hw]; exact mMp2.out
              clear hw
              refine step_plain rfl ?_
              go_simp
              exact hK.out (.int .i64 (M p2)) _ (sR_up hF 32 (by omega) _) (sF_val 32 (by omega) ((G32.out _).2 rfl)) (fun j hj hf h => sF_up 32 _ j hj (fun e => by subst e; exact absurd (Eq.trans (Eq.symm (by kernel_rfl)) hf) Bool.false_ne_true) h)
            ·
              intro u w21 au hsl hel hu hF hp' K hK
              have t3 : au.tmps[3]?.getD undef = .pointer (some ⟨(w.heap.size + 1), 0, none⟩) := (hel.out 3 (by kernel_rfl)).trans (by kernel_rfl)
              refine step_plain rfl ?_
              go_simp
              exact hK.out (.pointer (some ⟨(w.heap.size + 1), 1, none⟩)) _ (sR_up hF 33 (by omega) _) (sF_val 33 (by omega) ((G33.out _).2 rfl)) (fun j hj hf h => sF_up 33 _ j hj (fun e => by subst e; exact absurd (Eq.trans (Eq.symm (by kernel_rfl)) hf) Bool.false_ne_true) h)
            ·
              intro u w21 au hsl hel hu hF hp' K hK
              have h33 : u 33 = .pointer (some ⟨(w.heap.size + 1), 1, none⟩) := (G33.out _).1 (PreF.get hp' 33 (by kernel_rfl)).1
              have t110 : au.tmps[110]?.getD undef = u 33 := hsl.out 33 110 (by kernel_rfl)
              rw [h33] at t110
              have hw : w21 = wi.drew := hF ((hu.out 49 (by decide) (.inr (by kernel_rfl))).trans (by kernel_rfl))
              have xc : w21.cell? ⟨(w.heap.size + 1), 1, none⟩ = some (.slice (some ⟨g', og', none⟩) 3 d1) := by rw [hw]; exact HSj.out.cell 3 rfl 1 rfl
              clear hw
              refine step_plain rfl ?_
              go_simp
              exact hK.out (.slice (some ⟨g', og', none⟩) 3 d1) _ (sR_up hF 34 (by omega) _) (sF_val 34 (by omega) ((G34.out _).2 rfl)) (fun j hj hf h => sF_up 34 _ j hj (fun e => by subst e; exact absurd (Eq.trans (Eq.symm (by kernel_rfl)) hf) Bool.false_ne_true) h)
            ·
              intro u w21 au hsl hel hu hF hp' K hK
              have h34 : u 34 = .slice (some ⟨g', og', none⟩) 3 d1 := (G34.out _).1 (PreF.get hp' 34 (by kernel_rfl)).1
              have t111 : au.tmps[111]?.getD undef = u 34 := hsl.out 34 111 (by kernel_rfl)
              rw [h34] at t111
              refine step_plain rfl ?_
              go_simp
              exact hK.out (.pointer (some ⟨g', og' + 2, none⟩)) _ (sR_up hF 35 (by omega) _) (sF_val 35 (by omega) ((G35.out _).2 rfl)) (fun j hj hf h => sF_up 35 _ j hj (fun e => by subst e; exact absurd (Eq.trans (Eq.symm (by kernel_rfl)) hf) Bool.false_ne_true) h)
            ·
              intro u w21 au hsl hel hu hF hp' K hK
              have h35 : u 35 = .pointer (some ⟨g', og' + 2, none⟩) := (G35.out _).1 (PreF.get hp' 35 (by kernel_rfl)).1
              have t112 : au.tmps[112]?.getD undef = u 35 := hsl.out 35 112 (by kernel_rfl)
              rw [h35] at t112
              have hw : w21 = wi.drew := hF ((hu.out 49 (by decide) (.inr (by kernel_rfl))).trans (by kernel_rfl))
              have xc : w21.cell? ⟨g', og' + 2, none⟩ = some (.int .i64 (S 2)) := by rw [hw]; exact mS2.out
              clear hw
              refine step_plain rfl ?_
              go_simp
              exact hK.out (.int .i64 (S 2)) _ (sR_up hF 36 (by omega) _) (sF_val 36 (by omega) ((G36.out _).2 rfl)) (fun j hj hf h => sF_up 36 _ j hj (fun e => by subst e; exact absurd (Eq.trans (Eq.symm (by kernel_rfl)) hf) Bool.false_ne_true) h)
            ·
              intro u w21 au hsl hel hu hF hp' K hK
              have h32 : u 32 = .int .i64 (M p2) := (G32.out _).1 (PreF.get hp' 32 (by kernel_rfl)).1
              have t109 : au.tmps[109]?.getD undef = u 32 := hsl.out 32 109 (by kernel_rfl)
              rw [h32] at t109
              have h36 : u 36 = .int .i64 (S 2) := (G36.out _).1 (PreF.get hp' 36 (by kernel_rfl)).1
              have t113 : au.tmps[113]?.getD undef = u 36 := hsl.out 36 113 (by kernel_rfl)
              rw [h36] at t113
              refine step_plain rfl ?_
              go_simp
              exact hK.out (.int .i64 Y2) _ (sR_up hF 37 (by omega) _) (sF_val 37 (by omega) ((G37.out _).2 rfl)) (fun j hj hf h => sF_up 37 _ j hj (fun e => by subst e; exact absurd (Eq.trans (Eq.symm (by kernel_rfl)) hf) Bool.false_ne_true) h)
            ·
              intro u w21 au hsl hel hu hF hp' K hK
              have h25 : u 25 = .int .i64 Y3 := (G25.out _).1 (PreF.get hp' 25 (by kernel_rfl)).1
              have t102 : au.tmps[102]?.getD undef = u 25 := hsl.out 25 102 (by kernel_rfl)
              rw [h25] at t102
              have h37 : u 37 = .int .i64 Y2 := (G37.out _).1 (PreF.get hp' 37 (by kernel_rfl)).1
              have t114 : au.tmps[114]?.getD undef = u 37 := hsl.out 37 114 (by kernel_rfl)
              rw [h37] at t114
              refine step_plain rfl ?_
              go_simp
              exact hK.out (.int .i64 Y4) _ (sR_up hF 38 (by omega) _) (sF_val 38 (by omega) ((G38.out _).2 rfl)) (fun j hj hf h => sF_up 38 _ j hj (fun e => by subst e; exact absurd (Eq.trans (Eq.symm (by kernel_rfl)) hf) Bool.false_ne_true) h)
            ·
              intro u w21 au hsl hel hu hF hp' K hK
              have t2 : au.tmps[2]?.getD undef = .pointer (some ⟨w.heap.size, 0, none⟩) := (hel.out 2 (by kernel_rfl)).trans (by kernel_rfl)
              refine step_plain rfl ?_
              go_simp
              exact hK.out (.pointer (some ⟨w.heap.size, 1, none⟩)) _ (sR_up hF 39 (by omega) _) (sF_val 39 (by omega) ((G39.out _).2 rfl)) (fun j hj hf h => sF_up 39 _ j hj (fun e => by subst e; exact absurd (Eq.trans (Eq.symm (by kernel_rfl)) hf) Bool.false_ne_true) h)
            ·
              intro u w21 au hsl hel hu hF hp' K hK
              have h39 : u 39 = .pointer (some ⟨w.heap.size, 1, none⟩) := (G39.out _).1 (PreF.get hp' 39 (by kernel_rfl)).1
              have t116 : au.tmps[116]?.getD undef = u 39 := hsl.out 39 116 (by kernel_rfl)
              rw [h39] at t116
              have hw : w21 = wi.drew := hF ((hu.out 49 (by decide) (.inr (by kernel_rfl))).trans (by kernel_rfl))
              have xc : w21.cell? ⟨w.heap.size, 1, none⟩ = some (.slice (some ⟨b', off', none⟩) 3 c1) := by rw [hw]; exact HSj.out.cell 4 rfl 1 rfl
              clear hw
              refine step_plain rfl ?_
              go_simp
              exact hK.out (.slice (some ⟨b', off', none⟩) 3 c1) _ (sR_up hF 40 (by omega) _) (sF_val 40 (by omega) ((G40.out _).2 rfl)) (fun j hj hf h => sF_up 40 _ j hj (fun e => by subst e; exact absurd (Eq.trans (Eq.symm (by kernel_rfl)) hf) Bool.false_ne_true) h)
            ·
              intro u w21 au hsl hel hu hF hp' K hK
              have t8 : au.tmps[8]?.getD undef = .int .i64 (i : Int) := (hel.out 8 (by kernel_rfl)).trans (by kernel_rfl)
              refine step_plain rfl ?_
              go_simp
              exact hK.out (.int .i64 (i : Int)) _ (sR_up hF 41 (by omega) _) (sF_val 41 (by omega) ((G41.out _).2 rfl)) (fun j hj hf h => sF_up 41 _ j hj (fun e => by subst e; exact absurd (Eq.trans (Eq.symm (by kernel_rfl)) hf) Bool.false_ne_true) h)
            ·
              intro u w21 au hsl hel hu hF hp' K hK
              have h40 : u 40 = .slice (some ⟨b', off', none⟩) 3 c1 := (G40.out _).1 (PreF.get hp' 40 (by kernel_rfl)).1
              have t117 : au.tmps[117]?.getD undef = u 40 := hsl.out 40 117 (by kernel_rfl)
              rw [h40] at t117
              have h41 : u 41 = .int .i64 (i : Int) := (G41.out _).1 (PreF.get hp' 41 (by kernel_rfl)).1
              have t118 : au.tmps[118]?.getD undef = u 41 := hsl.out 41 118 (by kernel_rfl)
              rw [h41] at t118
              refine step_plain rfl ?_
              go_simp
              exact hK.out (.pointer (some ⟨b', off' + i, none⟩)) _ (sR_up hF 42 (by omega) _) (sF_val 42 (by omega) ((G42.out _).2 rfl)) (fun j hj hf h => sF_up 42 _ j hj (fun e => by subst e; exact absurd (Eq.trans (Eq.symm (by kernel_rfl)) hf) Bool.false_ne_true) h)
            ·
              intro u w21 au hsl hel hu hF hp' K hK
              have h42 : u 42 = .pointer (some ⟨b', off' + i, none⟩) := (G42.out _).1 (PreF.get hp' 42 (by kernel_rfl)).1
              have t119 : au.tmps[119]?.getD undef = u 42 := hsl.out 42 119 (by kernel_rfl)
              rw [h42] at t119
              have hw : w21 = wi.drew := hF ((hu.out 49 (by decide) (.inr (by kernel_rfl))).trans (by kernel_rfl))
              have xc : w21.cell? ⟨b', off' + i, none⟩ = some (.int .i64 (T i)) := by rw [hw]; exact mTi.out
              clear hw
              refine step_plain rfl ?_
              go_simp
              exact hK.out (.int .i64 (T i)) _ (sR_up hF 43 (by omega) _) (sF_val 43 (by omega) ((G43.out _).2 rfl)) (fun j hj hf h => sF_up 43 _ j hj (fun e => by subst e; exact absurd (Eq.trans (Eq.symm (by kernel_rfl)) hf) Bool.false_ne_true) h)
            ·
              intro u w21 au hsl hel hu hF hp' K hK
              have t3 : au.tmps[3]?.getD undef = .pointer (some ⟨(w.heap.size + 1), 0, none⟩) := (hel.out 3 (by kernel_rfl)).trans (by kernel_rfl)
              refine step_plain rfl ?_
              go_simp
              exact hK.out (.pointer (some ⟨(w.heap.size + 1), 2, none⟩)) _ (sR_up hF 44 (by omega) _) (sF_val 44 (by omega) ((G44.out _).2 rfl)) (fun j hj hf h => sF_up 44 _ j hj (fun e => by subst e; exact absurd (Eq.trans (Eq.symm (by kernel_rfl)) hf) Bool.false_ne_true) h)
            ·
              intro u w21 au hsl hel hu hF hp' K hK
              have h44 : u 44 = .pointer (some ⟨(w.heap.size + 1), 2, none⟩) := (G44.out _).1 (PreF.get hp' 44 (by kernel_rfl)).1
              have t121 : au.tmps[121]?.getD undef = u 44 := hsl.out 44 121 (by kernel_rfl)
              rw [h44] at t121
              have hw : w21 = wi.drew := hF ((hu.out 49 (by decide) (.inr (by kernel_rfl))).trans (by kernel_rfl))
              have xc : w21.cell? ⟨(w.heap.size + 1), 2, none⟩ = some (.int .i64 E) := by rw [hw]; exact HSj.out.cell 3 rfl 2 rfl
              clear hw
              refine step_plain rfl ?_
              go_simp
              exact hK.out (.int .i64 E) _ (sR_up hF 45 (by omega) _) (sF_val 45 (by omega) ((G45.out _).2 rfl)) (fun j hj hf h => sF_up 45 _ j hj (fun e => by subst e; exact absurd (Eq.trans (Eq.symm (by kernel_rfl)) hf) Bool.false_ne_true) h)
            ·
              intro u w21 au hsl hel hu hF hp' K hK
              have h43 : u 43 = .int .i64 (T i) := (G43.out _).1 (PreF.get hp' 43 (by kernel_rfl)).1
              have t120 : au.tmps[120]?.getD undef = u 43 := hsl.out 43 120 (by kernel_rfl)
              rw [h43] at t120
              have h45 : u 45 = .int .i64 E := (G45.out _).1 (PreF.get hp' 45 (by kernel_rfl)).1
              have t122 : au.tmps[122]?.getD undef = u 45 := hsl.out 45 122 (by kernel_rfl)
              rw [h45] at t122
              refine step_plain rfl ?_
              go_simp
              exact hK.out (.int .i64 Y5) _ (sR_up hF 46 (by omega) _) (sF_val 46 (by omega) ((G46.out _).2 rfl)) (fun j hj hf h => sF_up 46 _ j hj (fun e => by subst e; exact absurd (Eq.trans (Eq.symm (by kernel_rfl)) hf) Bool.false_ne_true) h)
            ·
              intro u w21 au hsl hel hu hF hp' K hK
              have h38 : u 38 = .int .i64 Y4 := (G38.out _).1 (PreF.get hp' 38 (by kernel_rfl)).1
              have t115 : au.tmps[115]?.getD undef = u 38 := hsl.out 38 115 (by kernel_rfl)
              rw [h38] at t115
              have h46 : u 46 = .int .i64 Y5 := (G46.out _).1 (PreF.get hp' 46 (by kernel_rfl)).1
              have t123 : au.tmps[123]?.getD undef = u 46 := hsl.out 46 123 (by kernel_rfl)
              rw [h46] at t123
              refine step_plain rfl ?_
              go_simp
              exact hK.out (.int .i64 X) _ (sR_up hF 47 (by omega) _) (sF_val 47 (by omega) ((G47.out _).2 rfl)) (fun j hj hf h => sF_up 47 _ j hj (fun e => by subst e; exact absurd (Eq.trans (Eq.symm (by kernel_rfl)) hf) Bool.false_ne_true) h)
            ·
              intro u w21 au hsl hel hu hF hp' K hK
              have h0 : u 0 = .slice (some ⟨bt, 0, none⟩) 3 3 := (G0.out _).1 (PreF.get hp' 0 (by kernel_rfl)).1
              have t77 : au.tmps[77]?.getD undef = u 0 := hsl.out 0 77 (by kernel_rfl)
              rw [h0] at t77
              have h1 : u 1 = .int .i64 (i : Int) := (G1.out _).1 (PreF.get hp' 1 (by kernel_rfl)).1
              have t78 : au.tmps[78]?.getD undef = u 1 := hsl.out 1 78 (by kernel_rfl)
              rw [h1] at t78
              refine step_plain rfl ?_
              go_simp
              exact hK.out (.pointer (some ⟨bt, i, none⟩)) _ (sR_up hF 48 (by omega) _) (sF_val 48 (by omega) ((G48.out _).2 rfl)) (fun j hj hf h => sF_up 48 _ j hj (fun e => by subst e; exact absurd (Eq.trans (Eq.symm (by kernel_rfl)) hf) Bool.false_ne_true) h)
            ·
              intro u w21 au hsl hel hu hF hp' K hK
              have h48 : u 48 = .pointer (some ⟨bt, i, none⟩) := (G48.out _).1 (PreF.get hp' 48 (by kernel_rfl)).1
              have t125 : au.tmps[125]?.getD undef = u 48 := hsl.out 48 125 (by kernel_rfl)
              rw [h48] at t125
              have h47 : u 47 = .int .i64 X := (G47.out _).1 (PreF.get hp' 47 (by kernel_rfl)).1
              have t124 : au.tmps[124]?.getD undef = u 47 := hsl.out 47 124 (by kernel_rfl)
              rw [h47] at t124
              have hw : w21 = wi.drew := hF ((hu.out 49 (by decide) (.inl rfl)).trans (by kernel_rfl))
              have xc : w21.cell? ⟨bt, i, none⟩ = some (.int .i64 OLD) := by rw [hw]; exact HOC.out
              have xf : w21.frozen? ⟨bt, i, none⟩ = false := by rw [hw]; exact HOF.out
              have HW21 := hide hw
              clear hw
              refine step_plain rfl ?_
              go_simp
              exact hK.out (.bool true) _ (sR_st (by simp [undef])) (sF_st (G49.out _) (by rw [hPP, HW21.out])) (fun j hj _ h => sF_keep _ j hj h)
          · intro u w30 hF hall
            have hp := (hall 49 (by decide)).2 rfl
            rw [hPP] at hp
            have HE := hide hp
            clear hF hall hp
            simp only [rgPut, Act.put]
            go_simp
            have HL := hide HSN.out
            rw [← HE.out] at HL
            clear HSN HE HOC HOF
            have hlt := HIK.out
            go_wp2_with fail
            exact ⟨⟨i + 1, by omega, by simp, HL.out⟩, by simp [intOf] <;> omega⟩
    · have hii : ¬ (i : Int) < 3 := by omega
      have HSj : Hid (St w [(bt, c3 (hy (bhT M T S E) (3))), (bm, c9 (hy (bhM M L) (9))), (w.heap.size + 2, [.slice none 0 0, .slice none 0 0, .int .i64 0]), (w.heap.size + 1, [.slice (some ⟨g, og, none⟩) 9 d0, .slice (some ⟨g', og', none⟩) 3 d1, .int .i64 E]), (w.heap.size, [.slice (some ⟨b, off, none⟩) 9 c0, .slice (some ⟨b', off', none⟩) 3 c1, .int .i64 D])] [] wo) := by
        have h := HSo.out
        rw [show i = 3 by omega] at h
        exact h
      clear HSo
      have dDE := mul_b6 (show -1000000 ≤ D ∧ D ≤ 1000000 by have := BD.out; omega) (show -1000000 ≤ E ∧ E ≤ 1000000 by have := BE.out; omega)
      have pDE : 0 < D * E := Int.mul_pos (by have := BD.out; omega) (by have := BE.out; omega)
      obtain ⟨DE, hDE⟩ : ∃ x, x = D * E := ⟨_, rfl⟩
      have eDE : IntKind.i64.wrap (D * E) = DE := by rw [IntKind.wrap_i64, ← hDE]; rw [← hDE] at dDE; omega
      have hm9 : Px (some ⟨bm, 0, none⟩) 9 (bhM M L) wo := (c9_px (HSj.out.bxAt 1 rfl)).px9 (fun k hk => by unfold hy; rw [if_pos hk])
      have ht3 : Px (some ⟨bt, 0, none⟩) 3 (bhT M T S E) wo := (c3_px (HSj.out.bxAt 0 rfl)).px9 (fun k hk => by unfold hy; rw [if_pos hk])
      have cR := l7Right_any (some ⟨bm, 0, none⟩) 9 (bhM M L) (some ⟨bt, 0, none⟩) 3 (bhT M T S E) DE (by rw [hDE]; omega) (by rw [hDE]; omega) (fun k hk => by have := bhM_b BM.out BL.out hk; omega) (fun k hk => by have := bhT_b BM.out BT.out BS.out (show -1000000 ≤ E ∧ E ≤ 1000000 by have := BE.out; omega) hk; omega) wo hm9 ht3
      have HN : Hid (DE.tdiv (rgS DE (bhM M L) (bhT M T S E)) = cmD D M T E L S ∧ dvF (bhM M L) (rgS DE (bhM M L) (bhT M T S E)) = cmM D M T E L S ∧ dvF (bhT M T S E) (rgS DE (bhM M L) (bhT M T S E)) = cmT D M T E L S) := by rw [hDE]; exact ⟨rfl, rfl, rfl⟩
      rw [HN.out.1, HN.out.2.1, HN.out.2.2] at cR
      clear HN dDE pDE hDE hm9 ht3
      generalize cmD D M T E L S = rD at *
      generalize cmM D M T E L S = rM at *
      generalize cmT D M T E L S = rT at *
      clear BM BT BL BS BD BE HP0 HP1 HK0 HK1
      have i2 := HSj.out.cell 4 rfl 2 rfl
      have j2 := HSj.out.cell 3 rfl 2 rfl
      go_wp2_with fail
      refine cR.mono ?_
      rintro e w5 (⟨hq, b0, cc0, b1, cc1, rfl, hb0, hb1, hne, hr0, hr1, hb⟩ | ⟨hq, rfl, hb⟩)
      · have HQT : Hid (Q = true) := by show _ = _; rw [HQ2.out, hq]
        have HS6 := hide (HSj.out.next hb)
        have HR := hide (And.intro hb0 (And.intro hb1 (And.intro hne (And.intro hr0 hr1))))
        have hzj := HSj.out.below.size
        have HZJ := hide hzj
        have lt2 := (HSj.out.ltB 2 rfl).2
        have HL2 := hide lt2
        clear hq HQ2 hb0 hb1 hne hr0 hr1 hb hzj lt2 HSj cR i2 j2
        obtain ⟨z0, z1, z2⟩ := HS6.out.im3 2 rfl
        obtain ⟨y0, y1, y2⟩ := HS6.out.fr3 2 rfl
        have HB := hide (((HS6.out.below.setCell (p := ⟨w.heap.size + 2, 0, none⟩) (show w.heap.size ≤ w.heap.size + 2 by omega) (.slice (some ⟨b0, 0, none⟩) 9 cc0)).setCell (p := ⟨w.heap.size + 2, 1, none⟩) (show w.heap.size ≤ w.heap.size + 2 by omega) (.slice (some ⟨b1, 0, none⟩) 3 cc1)).setCell (p := ⟨w.heap.size + 2, 2, none⟩) (show w.heap.size ≤ w.heap.size + 2 by omega) (.int .i64 rD))
        clear HS6
        unfold vFrame
        go_wp2_with fail
        obtain ⟨r0, r1, r2, r3, r4⟩ := HR.out
        have hz := HZJ.out
        have hl := HL2.out
        exact bodyPost_ret (v := .tuple #[vFrame rD (some ⟨b0, 0, none⟩) 9 cc0 (some ⟨b1, 0, none⟩) 3 cc1, .bool true]) (by simp [results, vFrame, Try.results7, go_sem, z0, z1, z2]) rfl (.inl ⟨HQT.out, b0, cc0, b1, cc1, rfl, by omega, by omega, r2, ((r3.set (p := ⟨w.heap.size + 2, 0, none⟩) (show w.heap.size + 2 ≠ b0 by omega) _).set (p := ⟨w.heap.size + 2, 1, none⟩) (show w.heap.size + 2 ≠ b0 by omega) _).set (p := ⟨w.heap.size + 2, 2, none⟩) (show w.heap.size + 2 ≠ b0 by omega) _, ((r4.set (p := ⟨w.heap.size + 2, 0, none⟩) (show w.heap.size + 2 ≠ b1 by omega) _).set (p := ⟨w.heap.size + 2, 1, none⟩) (show w.heap.size + 2 ≠ b1 by omega) _).set (p := ⟨w.heap.size + 2, 2, none⟩) (show w.heap.size + 2 ≠ b1 by omega) _, HB.out⟩)
      · have HQT : Hid (Q = false) := by show _ = _; rw [HQ2.out, hq]
        have HS6 := hide (HSj.out.next hb)
        clear hq HQ2 hb HSj cR i2 j2
        obtain ⟨z0, z1, z2⟩ := HS6.out.im3 2 rfl
        obtain ⟨y0, y1, y2⟩ := HS6.out.fr3 2 rfl
        have HB := hide (((HS6.out.below.setCell (p := ⟨w.heap.size + 2, 0, none⟩) (show w.heap.size ≤ w.heap.size + 2 by omega) (.slice none 0 0)).setCell (p := ⟨w.heap.size + 2, 1, none⟩) (show w.heap.size ≤ w.heap.size + 2 by omega) (.slice none 0 0)).setCell (p := ⟨w.heap.size + 2, 2, none⟩) (show w.heap.size ≤ w.heap.size + 2 by omega) (.int .i64 0))
        clear HS6
        unfold vFrame
        go_wp2_with fail
        exact bodyPost_ret (v := .tuple #[vFrame 0 none 0 0 none 0 0, .bool false]) (by simp [results, vFrame, Try.results7, go_sem, z0, z1, z2]) rfl (.inr ⟨HQT.out, rfl, HB.out⟩)

end Go.Proofs.Ytjdbiaoheoialaa

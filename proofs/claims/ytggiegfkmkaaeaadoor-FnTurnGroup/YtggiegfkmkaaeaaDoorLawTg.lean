/- The law on the group of turns, walked. -/
import Derived.Test.YtggiegfkmkaaeaaDoorTgv
import Derived.Test.YtggiegfkmkaaeaaDoorRwb
import Derived.Deep.DeepCutAuto
namespace Go.Proofs.YtggiegfkmkaaeaaDoor
open Go.RowKit

abbrev tvT (t : T4) : Value := tv t.1 t.2.1 t.2.2.1 t.2.2.2
theorem mulT_any (t u : T4) (ht : tkT t = true) (hu : tkT u = true) (w : World) : Calls Tryd.prog 14 #[tvT t, tvT u] w fun e w' => e = .returned (tvT (m4 t u)) ∧ Below w.heap.size w w' := by
  have h := implTurnMul_any t.1 t.2.1 t.2.2.1 t.2.2.2 u.1 u.2.1 u.2.2.1 u.2.2.2 w
  unfold tkT at ht hu
  unfold tmv tif at h
  simp only [ht, hu, Bool.and_self, if_true] at h
  exact h
theorem backT_any (t : T4) (ht : tkT t = true) (w : World) : Calls Tryd.prog 15 #[tvT t] w fun e w' => e = .returned (tvT (b4 t)) ∧ Below w.heap.size w w' := by
  have h := implTurnBack_any t.1 t.2.1 t.2.2.1 t.2.2.2 w
  unfold tkT at ht
  unfold tif at h
  simp only [ht, if_true] at h
  exact h

set_option maxRecDepth 100000 in
set_option maxHeartbeats 8000000 in
theorem fnTurnGroup_walk (c0 : Option Addr) (n0 k0 : Nat) (c1 : Option Addr) (n1 k1 : Nat) (w : World) (hy0 : Bytes c0 n0 w) (hy1 : Bytes c1 n1 w) (hT : Tbl w) :
    Calls Tryd.prog 4 #[.slice c0 n0 k0, .slice c1 n1 k1] w fun e w' => e = .returned (.bool true) ∧ Below w.heap.size w w' := by
  have b0 := big_any c0 n0 k0
  have b1 := big_any c1 n1 k1
  have HY0 := hide hy0
  have HY1 := hide hy1
  have HT := hide hT
  clear hy0 hy1 hT
  go_enter Tryd.func4, Tryd.ntmps4
  go_wp2_with fail
  refine (b0 _).mono ?_
  rintro e w1 ⟨rfl, h1⟩
  obtain rfl := h1.symm
  by_cases g0 : 1048576 < n0
  · have d0 : decide (1048576 < n0) = true := by simp [g0]
    clear b1 b0
    go_wp2_with fail
    go_ret
    exact ⟨rfl, Below.refl _ _⟩
  have d0 : decide (1048576 < n0) = false := by simp [g0]
  clear b0
  go_wp2_with fail
  refine (b1 _).mono ?_
  rintro e w2 ⟨rfl, h1⟩
  obtain rfl := h1.symm
  by_cases g1 : 1048576 < n1
  · have d1 : decide (1048576 < n1) = true := by simp [g1]
    clear b1
    go_wp2_with fail
    go_ret
    exact ⟨rfl, Below.refl _ _⟩
  have d1 : decide (1048576 < n1) = false := by simp [g1]
  clear b1
  have cA := drawTurnMul_any c0 n0 k0 _ HY0.out
  go_wp2_with fail
  refine cA.mono ?_
  rintro e w3 ⟨a0, a1, a2, a3, b0, b1, b2, b3, rfl, ia, ib, hb⟩
  have HS3 := hide ((St.start _).next hb)
  have HIA := hide ia
  have HIB := hide ib
  clear cA hb ia ib d0 d1 g0 g1
  go_upto_region 4 with fail
  have HS4 := hide ((HS3.out.box [.int .i64 a0, .int .i64 a1, .int .i64 a2, .int .i64 a3] 30).box' [.int .i64 b0, .int .i64 b1, .int .i64 b2, .int .i64 b3] 30 (b := w3.heap.size + 1) (by simp))
  generalize hw4 : (w3.alloc (.cells [.int .i64 a0, .int .i64 a1, .int .i64 a2, .int .i64 a3].toArray 30)).alloc (.cells [.int .i64 b0, .int .i64 b1, .int .i64 b2, .int .i64 b3].toArray 30) = w4 at HS4
  clear hw4 HS3
  generalize w3.heap.size + 1 = B at *
  generalize w3.heap.size = A at *
  have cA := drawTurnVolume_any c1 n1 k1 w4 (HY1.out.below HS4.out.below)
  go_wp2_with fail
  refine cA.mono ?_
  rintro e w5 ⟨V0, V1, V2, L, vf, vc, s0, s1, s2, s3, rfl, hL, ho, ic, hb⟩
  have HL := hide hL
  have HIC := hide ic
  obtain ⟨vb, hvo⟩ : ∃ vb, OwV vf vb L.length (fun k => .int .i64 (L.getD k 0)) w5 ∧ (L.length = 0 ∨ w4.heap.size ≤ vb) := by
    by_cases h0 : L.length = 0
    · exact ⟨0, .inl h0, .inl h0⟩
    · obtain ⟨b', cp', e', hB', hr'⟩ := own_row ho h0
      cases e'
      rw [Nat.mul_one] at hr'
      exact ⟨b', hr'.v, .inr hB'⟩
  have HS5 := hide (HS4.out.own hb hvo.1 hvo.2)
  clear cA hL ho ic hb hvo HS4 HY0 HY1
  go_upto_region 5 with fail
  have HS6 := hide ((HS5.out.box [.int .i64 V0, .int .i64 V1, .int .i64 V2, .slice vf L.length vc] 35).box' [.int .i64 s0, .int .i64 s1, .int .i64 s2, .int .i64 s3] 30 (b := w5.heap.size + 1) (by simp))
  generalize hw6 : (w5.alloc (.cells [.int .i64 V0, .int .i64 V1, .int .i64 V2, .slice vf L.length vc].toArray 35)).alloc (.cells [.int .i64 s0, .int .i64 s1, .int .i64 s2, .int .i64 s3].toArray 30) = w6 at HS6
  clear hw6 HS5
  generalize w5.heap.size + 1 = C at *
  generalize w5.heap.size = V at *
  have cA := fun w' => specTurnOk_any a0 a1 a2 a3 HIA.out.1 HIA.out.2.1 HIA.out.2.2.1 HIA.out.2.2.2 w'
  have cB := fun w' => specTurnOk_any b0 b1 b2 b3 HIB.out.1 HIB.out.2.1 HIB.out.2.2.1 HIB.out.2.2.2 w'
  have cC := fun w' => specTurnOk_any s0 s1 s2 s3 HIC.out.1 HIC.out.2.1 HIC.out.2.2.1 HIC.out.2.2.2 w'
  obtain ⟨x0, x1, x2, x3⟩ := HS6.out.im4 3 rfl
  go_wp2_with fail
  refine (cA _).mono ?_
  rintro e w7 ⟨rfl, hb⟩
  have HS7 := hide (HS6.out.next hb)
  clear hb HS6 cA x0 x1 x2 x3
  cases ha : tkB a0 a1 a2 a3
  · have HB := hide HS7.out.below
    clear cB cC HS7
    go_wp2_with fail
    go_ret
    exact ⟨rfl, HB.out⟩
  obtain ⟨x0, x1, x2, x3⟩ := HS7.out.im4 2 rfl
  go_wp2_with fail
  refine (cB _).mono ?_
  rintro e w8 ⟨rfl, hb⟩
  have HS8 := hide (HS7.out.next hb)
  clear hb HS7 cB x0 x1 x2 x3
  cases hb' : tkB b0 b1 b2 b3
  · have HB := hide HS8.out.below
    clear cC HS8
    go_wp2_with fail
    go_ret
    exact ⟨rfl, HB.out⟩
  obtain ⟨x0, x1, x2, x3⟩ := HS8.out.im4 0 rfl
  go_wp2_with fail
  refine (cC _).mono ?_
  rintro e w9 ⟨rfl, hb⟩
  have HS9 := hide (HS8.out.next hb)
  clear hb HS8 cC x0 x1 x2 x3
  cases hc : tkB s0 s1 s2 s3
  · have HB := hide HS9.out.below
    clear HS9
    go_wp2_with fail
    go_ret
    exact ⟨rfl, HB.out⟩
  go_upto_region 8 with fail
  have HS10 := hide (HS9.out.box [.int .i64 2, .int .i64 0, .int .i64 0, .int .i64 0] 30)
  generalize hw10 : w9.alloc (.cells [.int .i64 2, .int .i64 0, .int .i64 0, .int .i64 0].toArray 30) = w10 at *
  clear hw10 HS9
  generalize w9.heap.size = E at *
  have ta : tkT (a0, a1, a2, a3) = true := ha
  have tb : tkT (b0, b1, b2, b3) = true := hb'
  have ts : tkT (s0, s1, s2, s3) = true := hc
  clear ha hb' hc
  have tp := (pr_of ta tb).1
  have tq := (pr_of tb ts).1
  have easc := asc_of ta tb ts
  obtain ⟨tk, ek1, ek2, -⟩ := bk_of ta
  obtain ⟨-, -, -, eb⟩ := bk_of tb
  have GAB := hide (fun (X : Int) (hX : 1 ≤ X) (n : Nat) (hn : (n : Int) = X * X * X) (f : Nat → Int) (j : Nat) (hj : j < n) => tvs_mul ta tb hX hn f hj)
  have HTA := hide ta
  have HTB := hide tb
  obtain ⟨P, hP⟩ : ∃ P, P = m4 (a0, a1, a2, a3) (b0, b1, b2, b3) := ⟨_, rfl⟩
  obtain ⟨Q, hQ⟩ : ∃ Q, Q = m4 (b0, b1, b2, b3) (s0, s1, s2, s3) := ⟨_, rfl⟩
  rw [← hP] at tp easc GAB
  rw [← hQ] at tq easc
  obtain ⟨R, hR⟩ : ∃ R, R = m4 P (s0, s1, s2, s3) := ⟨_, rfl⟩
  rw [← hR] at easc
  obtain ⟨G, hG⟩ : ∃ G, G = b4 (a0, a1, a2, a3) := ⟨_, rfl⟩
  rw [← hG] at tk ek1 ek2
  have mAB := fun w' => mulT_any (a0, a1, a2, a3) (b0, b1, b2, b3) ta tb w'
  have mPS := fun w' => mulT_any P (s0, s1, s2, s3) tp ts w'
  have mBS := fun w' => mulT_any (b0, b1, b2, b3) (s0, s1, s2, s3) tb ts w'
  have mAQ := fun w' => mulT_any (a0, a1, a2, a3) Q ta tq w'
  have mBk := fun w' => backT_any (a0, a1, a2, a3) ta w'
  have mAG := fun w' => mulT_any (a0, a1, a2, a3) G ta tk w'
  have mGA := fun w' => mulT_any G (a0, a1, a2, a3) tk ta w'
  have m1B := fun w' => mulT_any (2, 0, 0, 0) (b0, b1, b2, b3) one_ok tb w'
  rw [← hP] at mAB
  rw [← hR] at mPS
  rw [← hQ] at mBS
  rw [← easc] at mAQ
  rw [← hG] at mBk
  rw [ek1] at mAG
  rw [ek2] at mGA
  rw [eb] at m1B
  have HTP := hide tp
  clear hP hQ hR hG easc ek1 ek2 eb ta tb ts tp tq tk
  obtain ⟨p0, p1, p2, p3⟩ := P
  obtain ⟨q0, q1, q2, q3⟩ := Q
  obtain ⟨r0, r1, r2, r3⟩ := R
  obtain ⟨g0, g1, g2, g3⟩ := G
  simp only [tvT] at mAB mPS mBS mAQ mBk mAG mGA m1B
  go_cut [78] (fun sl wd => sl = .bool false ∧ St w [(E, [.int .i64 2, .int .i64 0, .int .i64 0, .int .i64 0]), (C, [.int .i64 s0, .int .i64 s1, .int .i64 s2, .int .i64 s3]), (V, [.int .i64 V0, .int .i64 V1, .int .i64 V2, .slice vf L.length vc]), (B, [.int .i64 b0, .int .i64 b1, .int .i64 b2, .int .i64 b3]), (A, [.int .i64 a0, .int .i64 a1, .int .i64 a2, .int .i64 a3])] [(vf, vb, L.length, fun k => .int .i64 (L.getD k 0))] wd)
  case first =>
    obtain ⟨za0, za1, za2, za3⟩ := HS10.out.im4 4 rfl
    obtain ⟨zb0, zb1, zb2, zb3⟩ := HS10.out.im4 3 rfl
    obtain ⟨zs0, zs1, zs2, zs3⟩ := HS10.out.im4 1 rfl
    obtain ⟨ze0, ze1, ze2, ze3⟩ := HS10.out.im4 0 rfl
    have ua0 := fun pp : Up w10 => pp.cell za0
    have ua1 := fun pp : Up w10 => pp.cell za1
    have ua2 := fun pp : Up w10 => pp.cell za2
    have ua3 := fun pp : Up w10 => pp.cell za3
    have ub0 := fun pp : Up w10 => pp.cell zb0
    have ub1 := fun pp : Up w10 => pp.cell zb1
    have ub2 := fun pp : Up w10 => pp.cell zb2
    have ub3 := fun pp : Up w10 => pp.cell zb3
    have us0 := fun pp : Up w10 => pp.cell zs0
    have us1 := fun pp : Up w10 => pp.cell zs1
    have us2 := fun pp : Up w10 => pp.cell zs2
    have us3 := fun pp : Up w10 => pp.cell zs3
    have ue0 := fun pp : Up w10 => pp.cell ze0
    have ue1 := fun pp : Up w10 => pp.cell ze1
    have ue2 := fun pp : Up w10 => pp.cell ze2
    have ue3 := fun pp : Up w10 => pp.cell ze3
    refine region_up (by kernel_rfl) (by kernel_rfl) ?_
    repeat (go_big_quiet_step (first
      | exact rfl
      | (go_at_call 14; first | exact calls_up (mAB _) | exact calls_up (mPS _) | exact calls_up (mBS _) | exact calls_up (mAQ _) | exact calls_up (mAG _) | exact calls_up (mGA _) | exact calls_up (m1B _))
      | (go_at_call 15; exact calls_up (mBk _))))
    refine wpQuiet_nil ?_
    intro _ hw2
    obtain ⟨pq, hw3⟩ := hw2
    subst hw3
    go_wp2_with fail
    go_meet
    exact ⟨rfl, HS10.out.next pq.below⟩
  case rest =>
    obtain ⟨rfl, hs⟩ := hcut
    have HS11 := hide hs
    clear hs HS10 mPS mBS mAQ mBk mAG mGA m1B
    have cT := (implTurns_any _ (HT.out.below HS11.out.below (Nat.le_refl _))).mono (fun e u hu => hu.row)
    go_wp2_with fail
    refine cT.mono ?_
    rintro e w12 ⟨tt, tc, rfl, htt, hrow, hb⟩
    have HS12 := hide (HS11.out.own hb hrow.v (.inr htt))
    clear cT hb hrow htt HS11
    have cells4 : ∀ (wx : World), St w [(E, [.int .i64 2, .int .i64 0, .int .i64 0, .int .i64 0]), (C, [.int .i64 s0, .int .i64 s1, .int .i64 s2, .int .i64 s3]), (V, [.int .i64 V0, .int .i64 V1, .int .i64 V2, .slice vf L.length vc]), (B, [.int .i64 b0, .int .i64 b1, .int .i64 b2, .int .i64 b3]), (A, [.int .i64 a0, .int .i64 a1, .int .i64 a2, .int .i64 a3])] [(some ⟨tt, 0, none⟩, tt, 48, fun k => .int .i64 (tbA.getD k 0)), (vf, vb, L.length, fun k => .int .i64 (L.getD k 0))] wx → ∀ (k : Nat), k < 12 → wx.cell? ⟨tt, k * 4, none⟩ = some (.int .i64 (tbq k 0)) ∧ wx.cell? ⟨tt, k * 4 + 1, none⟩ = some (.int .i64 (tbq k 1)) ∧ wx.cell? ⟨tt, k * 4 + 2, none⟩ = some (.int .i64 (tbq k 2)) ∧ wx.cell? ⟨tt, k * 4 + 3, none⟩ = some (.int .i64 (tbq k 3)) := by
      intro wx h k hk
      rcases h.nthO 0 rfl with h0 | ⟨_, h0⟩
      · omega
      · exact ⟨(h0 (k * 4) (by omega)).1, (h0 (k * 4 + 1) (by omega)).1, (h0 (k * 4 + 2) (by omega)).1, (h0 (k * 4 + 3) (by omega)).1⟩
    go_wp2_with fail
    go_loopw [11] (fun s wr => ∃ i : Nat, i ≤ 12 ∧ s = .int .i64 (i : Int) ∧ St w [(E, [.int .i64 2, .int .i64 0, .int .i64 0, .int .i64 0]), (C, [.int .i64 s0, .int .i64 s1, .int .i64 s2, .int .i64 s3]), (V, [.int .i64 V0, .int .i64 V1, .int .i64 V2, .slice vf L.length vc]), (B, [.int .i64 b0, .int .i64 b1, .int .i64 b2, .int .i64 b3]), (A, [.int .i64 a0, .int .i64 a1, .int .i64 a2, .int .i64 a3])] [(some ⟨tt, 0, none⟩, tt, 48, fun k => .int .i64 (tbA.getD k 0)), (vf, vb, L.length, fun k => .int .i64 (L.getD k 0))] wr) (fun s _ => (12 - intOf s).toNat)
    case atStart => exact ⟨0, by omega, rfl, HS12.out⟩
    case round =>
      obtain ⟨i, hi, rfl, hs⟩ := hrel
      clear HS12
      have HS13 := hide hs
      clear hs
      by_cases hlt : i < 12
      · have cO := fun w' => implTurnOk_any (tbq i 0) (tbq i 1) (tbq i 2) (tbq i 3) w'
        have cM := fun w' => mtR_any (tbq i 0) (tbq i 1) (tbq i 2) (tbq i 3) (tb_ok i hlt) w'
        rw [tb_ok i hlt] at cO
        obtain ⟨x0, x1, x2, x3⟩ := cells4 _ HS13.out i hlt
        have CE := hide cells4
        clear cells4
        go_wp2_with fail
        refine (cO _).mono ?_
        rintro e w13 ⟨rfl, hb⟩
        have HS14 := hide (HS13.out.next hb)
        clear hb HS13 x0 x1 x2 x3 cO
        obtain ⟨x0, x1, x2, x3⟩ := CE.out _ HS14.out i hlt
        go_wp2_with fail
        refine (cM _).mono ?_
        rintro e w14 ⟨b9, c9, rfl, hB9, hr9, hb⟩
        have HS15 := hide (HS14.out.next hb)
        clear hb HS14 x0 x1 x2 x3 cM hr9 hB9
        go_wp2_with fail
        go_loopw [12] (fun s wr => ∃ k : Nat, k ≤ i ∧ s = .int .i64 (k : Int) ∧ St w [(E, [.int .i64 2, .int .i64 0, .int .i64 0, .int .i64 0]), (C, [.int .i64 s0, .int .i64 s1, .int .i64 s2, .int .i64 s3]), (V, [.int .i64 V0, .int .i64 V1, .int .i64 V2, .slice vf L.length vc]), (B, [.int .i64 b0, .int .i64 b1, .int .i64 b2, .int .i64 b3]), (A, [.int .i64 a0, .int .i64 a1, .int .i64 a2, .int .i64 a3])] [(some ⟨tt, 0, none⟩, tt, 48, fun k => .int .i64 (tbA.getD k 0)), (vf, vb, L.length, fun k => .int .i64 (L.getD k 0))] wr) (fun s _ => (i - intOf s).toNat)
        case atStart => exact ⟨0, by omega, rfl, HS15.out⟩
        case round =>
          obtain ⟨k, hk, rfl, hs⟩ := hrel
          clear HS15
          have HS16 := hide hs
          clear hs
          by_cases hki : k < i
          · have hk12 : (k : Int) < 12 := by omega
            have hi12 : (i : Int) < 12 := by omega
            go_upto_region 21 with fail
            have cells4 := CE.out
            refine region_ops (St w [(E, [.int .i64 2, .int .i64 0, .int .i64 0, .int .i64 0]), (C, [.int .i64 s0, .int .i64 s1, .int .i64 s2, .int .i64 s3]), (V, [.int .i64 V0, .int .i64 V1, .int .i64 V2, .slice vf L.length vc]), (B, [.int .i64 b0, .int .i64 b1, .int .i64 b2, .int .i64 b3]), (A, [.int .i64 a0, .int .i64 a1, .int .i64 a2, .int .i64 a3])] [(some ⟨tt, 0, none⟩, tt, 48, fun k => .int .i64 (tbA.getD k 0)), (vf, vb, L.length, fun k => .int .i64 (L.getD k 0))]) (tmF tt tc i k) (by kernel_rfl) (by kernel_rfl) (by kernel_rfl) HS16.out.drew ?_ ?_
            · refine ⟨?_, ?_, ?_, ?_, ?_, ?_, ?_, ?_, ?_, ?_, ?_, trivial⟩
              · intro u w15 au hau _ hF hp' K hK
                have t10 : au.tmps[10]?.getD undef = .slice (some ⟨tt, 0, none⟩) 12 tc := by rw [hau.out]; kernel_rfl
                refine step_plain rfl ?_
                go_simp
                exact hK.out (.slice (some ⟨tt, 0, none⟩) 12 tc) _ hF (upU_same _ _ _) (fun j hj _ h => tmF_stab (Below.refl _ _) u 0 _ j hj h)
              · intro u w15 au hau _ hF hp' K hK
                have t11 : au.tmps[11]?.getD undef = .int .i64 (i : Int) := by rw [hau.out]; kernel_rfl
                refine step_plain rfl ?_
                go_simp
                exact hK.out (.int .i64 (i : Int)) _ hF (upU_same _ _ _) (fun j hj _ h => tmF_stab (Below.refl _ _) u 1 _ j hj h)
              · intro u w15 au hau _ hF hp' K hK
                have h0 : u 0 = .slice (some ⟨tt, 0, none⟩) 12 tc := PreF.get hp' 0 (by kernel_rfl)
                have h1 : u 1 = .int .i64 (i : Int) := PreF.get hp' 1 (by kernel_rfl)
                have t107 : au.tmps[107]?.getD undef = u 0 := by rw [hau.out]; kernel_rfl
                rw [h0] at t107
                have t108 : au.tmps[108]?.getD undef = u 1 := by rw [hau.out]; kernel_rfl
                rw [h1] at t108
                refine step_plain rfl ?_
                go_simp
                exact hK.out (.pointer (some ⟨tt, i * 4, none⟩)) _ hF (upU_same _ _ _) (fun j hj _ h => tmF_stab (Below.refl _ _) u 2 _ j hj h)
              · intro u w15 au hau _ hF hp' K hK
                have h0 : u 2 = .pointer (some ⟨tt, i * 4, none⟩) := PreF.get hp' 2 (by kernel_rfl)
                have t109 : au.tmps[109]?.getD undef = u 2 := by rw [hau.out]; kernel_rfl
                rw [h0] at t109
                obtain ⟨r0, r1, r2, r3⟩ := cells4 _ hF i (by omega)
                refine step_plain rfl ?_
                go_simp
                exact hK.out (tv (tbq i 0) (tbq i 1) (tbq i 2) (tbq i 3)) _ hF (upU_same _ _ _) (fun j hj _ h => tmF_stab (Below.refl _ _) u 3 _ j hj h)
              · intro u w15 au hau _ hF hp' K hK
                have h0 : u 3 = tv (tbq i 0) (tbq i 1) (tbq i 2) (tbq i 3) := PreF.get hp' 3 (by kernel_rfl)
                have t110 : au.tmps[110]?.getD undef = u 3 := by rw [hau.out]; kernel_rfl
                rw [h0] at t110
                have c := mtR_any (tbq i 0) (tbq i 1) (tbq i 2) (tbq i 3) (tb_ok i (by omega)) w15
                refine step_plain rfl ?_
                go_simp
                refine c.mono ?_
                rintro e w16 ⟨b9, c9, rfl, hB9, hr9, hb9⟩
                exact hK.out (.slice (some ⟨b9, 0, none⟩) 9 c9) _ (hF.next hb9) ⟨b9, c9, upU_same _ _ _, hr9⟩ (fun j hj _ h => tmF_stab hb9 u 4 _ j hj h)
              · intro u w15 au hau _ hF hp' K hK
                have t10 : au.tmps[10]?.getD undef = .slice (some ⟨tt, 0, none⟩) 12 tc := by rw [hau.out]; kernel_rfl
                refine step_plain rfl ?_
                go_simp
                exact hK.out (.slice (some ⟨tt, 0, none⟩) 12 tc) _ hF (upU_same _ _ _) (fun j hj _ h => tmF_stab (Below.refl _ _) u 5 _ j hj h)
              · intro u w15 au hau _ hF hp' K hK
                have t12 : au.tmps[12]?.getD undef = .int .i64 (k : Int) := by rw [hau.out]; kernel_rfl
                refine step_plain rfl ?_
                go_simp
                exact hK.out (.int .i64 (k : Int)) _ hF (upU_same _ _ _) (fun j hj _ h => tmF_stab (Below.refl _ _) u 6 _ j hj h)
              · intro u w15 au hau _ hF hp' K hK
                have h0 : u 5 = .slice (some ⟨tt, 0, none⟩) 12 tc := PreF.get hp' 5 (by kernel_rfl)
                have h1 : u 6 = .int .i64 (k : Int) := PreF.get hp' 6 (by kernel_rfl)
                have t112 : au.tmps[112]?.getD undef = u 5 := by rw [hau.out]; kernel_rfl
                rw [h0] at t112
                have t113 : au.tmps[113]?.getD undef = u 6 := by rw [hau.out]; kernel_rfl
                rw [h1] at t113
                refine step_plain rfl ?_
                go_simp
                exact hK.out (.pointer (some ⟨tt, k * 4, none⟩)) _ hF (upU_same _ _ _) (fun j hj _ h => tmF_stab (Below.refl _ _) u 7 _ j hj h)
              · intro u w15 au hau _ hF hp' K hK
                have h0 : u 7 = .pointer (some ⟨tt, k * 4, none⟩) := PreF.get hp' 7 (by kernel_rfl)
                have t114 : au.tmps[114]?.getD undef = u 7 := by rw [hau.out]; kernel_rfl
                rw [h0] at t114
                obtain ⟨r0, r1, r2, r3⟩ := cells4 _ hF k (by omega)
                refine step_plain rfl ?_
                go_simp
                exact hK.out (tv (tbq k 0) (tbq k 1) (tbq k 2) (tbq k 3)) _ hF (upU_same _ _ _) (fun j hj _ h => tmF_stab (Below.refl _ _) u 8 _ j hj h)
              · intro u w15 au hau _ hF hp' K hK
                have h0 : u 8 = tv (tbq k 0) (tbq k 1) (tbq k 2) (tbq k 3) := PreF.get hp' 8 (by kernel_rfl)
                have t115 : au.tmps[115]?.getD undef = u 8 := by rw [hau.out]; kernel_rfl
                rw [h0] at t115
                have c := mtR_any (tbq k 0) (tbq k 1) (tbq k 2) (tbq k 3) (tb_ok k (by omega)) w15
                refine step_plain rfl ?_
                go_simp
                refine c.mono ?_
                rintro e w16 ⟨b9, c9, rfl, hB9, hr9, hb9⟩
                exact hK.out (.slice (some ⟨b9, 0, none⟩) 9 c9) _ (hF.next hb9) ⟨b9, c9, upU_same _ _ _, hr9⟩ (fun j hj _ h => tmF_stab hb9 u 9 _ j hj h)
              · intro u w15 au hau _ hF hp' K hK
                obtain ⟨b4', c4', h4, r4⟩ : tmF tt tc i k 4 u w15 := PreF.get hp' 4 (by kernel_rfl)
                obtain ⟨b9, c9, h9, r9⟩ : tmF tt tc i k 9 u w15 := PreF.get hp' 9 (by kernel_rfl)
                have t111 : au.tmps[111]?.getD undef = u 4 := by rw [hau.out]; kernel_rfl
                rw [h4] at t111
                have t116 : au.tmps[116]?.getD undef = u 9 := by rw [hau.out]; kernel_rfl
                rw [h9] at t116
                have c := sameIntsB_any (some ⟨b4', 0, none⟩) (some ⟨b9, 0, none⟩) 9 c4' c9 (tbm i) (tbm k) (by omega) w15 r4.px r9.px
                rw [tb_dif i (by omega) k hki] at c
                refine step_plain rfl ?_
                go_simp
                refine c.mono ?_
                rintro e w16 ⟨rfl, d, rfl⟩
                have hb9 : Below w15.heap.size w15 (w15.drewN d) := below_drewN (Below.refl _ _) d
                exact hK.out (.bool false) _ (hF.next hb9) (upU_same _ _ _) (fun j hj _ h => tmF_stab hb9 u 10 _ j hj h)
            · intro u w15 hF hall
              have h10 : u 10 = .bool false := hall 10 (by decide)
              have HS17 := hide hF
              clear hF hall cells4 HS16
              simp only [rgPut, Act.put, h10]
              go_simp
              go_wp2_with fail
              exact ⟨⟨k + 1, by omega, by simp, HS17.out⟩, by simp [intOf] <;> omega⟩
          · obtain rfl : k = i := by omega
            go_wp2_with fail
            exact ⟨⟨k + 1, by omega, by simp, HS16.out⟩, by simp [intOf] <;> omega⟩
      · obtain rfl : i = 12 := by omega
        clear cells4
        go_upto_region 23 with fail
        obtain ⟨v0, v1, v2, v3⟩ := HS13.out.im4 2 rfl
        obtain ⟨x0, x1, x2, x3⟩ := HS13.out.im4 1 rfl
        have cV := specTurnVolume_any V0 V1 V2 vf L.length vc (fun k => L.getD k 0) (by have := HL.out; omega) s0 s1 s2 s3 HIC.out.1 HIC.out.2.1 HIC.out.2.2.1 HIC.out.2.2.2 _ (HS13.out.nthO 1 rfl).px
        unfold VoR tvX at cV
        generalize tvN V0 V1 V2 L.length (fun k => L.getD k 0) s0 s1 s2 s3 = rn at cV
        generalize tvs (tg s0 s1 s2 s3 V0) (fun k => L.getD k 0) L.length = rs at cV
        cases hcb : tvB V0 V1 V2 L.length (fun k => L.getD k 0) s0 s1 s2 s3
        · rw [hcb] at cV
          simp only [Bool.false_eq_true, if_false] at cV
          go_wp2_with fail
          refine cV.mono ?_
          rintro e w20 ⟨xa, xc, xb, rfl, -, -, hb⟩
          have ff : (Instr.field 35 (vVolume 0 0 0 xa rn xc) 0).run Tryd.prog w20 = .ok (.int .i64 0) w20 := rfl
          have HB := hide (HS13.out.next hb).below
          clear cV hb HS13 v0 v1 v2 v3 x0 x1 x2 x3 hcb
          go_wp2_with fail
          go_ret
          exact ⟨rfl, HB.out⟩
        rw [hcb] at cV
        simp only [if_true] at cV
        have hcub : cubB V0 V1 V2 L.length (fun k => L.getD k 0) = true := by
          unfold tvB at hcb
          simp only [Bool.and_eq_true] at hcb
          exact hcb.1
        clear hcb
        obtain ⟨e1, e2, hX, hn, hn2⟩ := cubB_parts hcub
        have hz0 : (V0 == 0) = false := by simp; omega
        have HX := hide hX
        have HN := hide hn
        have HE12 := hide (And.intro e1 e2)
        clear e1 e2 hX hn hn2
        go_wp2_with fail
        refine cV.mono ?_
        rintro e w20 ⟨xa, xc, xb, rfl, -, -, hb⟩
        have ff : (Instr.field 35 (vVolume V0 V0 V0 xa rn xc) 0).run Tryd.prog w20 = .ok (.int .i64 V0) w20 := rfl
        have HS20 := hide (HS13.out.next hb)
        clear cV hb HS13 v0 v1 v2 v3 x0 x1 x2 x3
        go_upto_region 25 with fail
        obtain ⟨e1, e2⟩ := HE12.out
        subst e1 e2
        have hn1 := cub_pos hcub
        obtain ⟨hvf, hrv⟩ : vf = some ⟨vb, 0, none⟩ ∧ Row vb L.length (fun k => L.getD k 0) w20 := by
          rcases HS20.out.nthO 1 rfl with h0 | h0
          · omega
          · exact h0
        subst hvf
        have hl : L.length ≤ 1048576 := by have := HL.out; omega
        have BV : Hid (Bx V [.int .i64 V0, .int .i64 V0, .int .i64 V0, .slice (some ⟨vb, 0, none⟩) L.length vc] w20) := fun j v hv => ⟨HS20.out.cell 2 rfl j hv, HS20.out.free 2 rfl j hv⟩
        have BB : Hid (Bx B [.int .i64 b0, .int .i64 b1, .int .i64 b2, .int .i64 b3] w20) := fun j v hv => ⟨HS20.out.cell 3 rfl j hv, HS20.out.free 3 rfl j hv⟩
        have BA : Hid (Bx A [.int .i64 a0, .int .i64 a1, .int .i64 a2, .int .i64 a3] w20) := fun j v hv => ⟨HS20.out.cell 4 rfl j hv, HS20.out.free 4 rfl j hv⟩
        have BE : Hid (Bx E [.int .i64 2, .int .i64 0, .int .i64 0, .int .i64 0] w20) := fun j v hv => ⟨HS20.out.cell 0 rfl j hv, HS20.out.free 0 rfl j hv⟩
        have HW := hide HS20.out.below
        have HRV := hide hrv
        have GON := hide (fun (g : Nat → Int) (j : Nat) (hj : j < L.length) => tvs_one HX.out.1 HN.out g hj)
        have GAB' := hide (fun (j : Nat) (hj : j < L.length) => GAB.out V0 HX.out.1 L.length HN.out (fun k => L.getD k 0) j hj)
        clear HS20 hrv hz0 ff HE12 HL HN GAB
        generalize L.length = n at *
        generalize (fun k => L.getD k 0) = f at *
        have GONE := hide (GON.out f)
        clear GON
        have hcub1 := cub_turn HTB.out hcub
        have cCp := fun wx hx => copyVolume_any V0 V0 V0 (some ⟨vb, 0, none⟩) n vc f hl hn1 wx hx
        have cTb := fun b cp wx hr => turnC_any V0 n f hcub b0 b1 b2 b3 HTB.out b cp wx hr
        have cTa := fun b cp wx hr => turnC_any V0 n _ hcub1 a0 a1 a2 a3 HTA.out b cp wx hr
        have cTp := fun b cp wx hr => turnC_any V0 n f hcub p0 p1 p2 p3 HTP.out b cp wx hr
        have cT1 := fun b cp wx hr => turnC_any V0 n f hcub 2 0 0 0 one_ok b cp wx hr
        clear hcub hcub1
        generalize tvs (tgT (a0, a1, a2, a3) V0) (tvs (tgT (b0, b1, b2, b3) V0) f n) n = f2 at *
        generalize tvs (tgT (b0, b1, b2, b3) V0) f n = f1 at *
        generalize tvs (tgT (p0, p1, p2, p3) V0) f n = f3 at *
        generalize tvs (tgT (2, 0, 0, 0) V0) f n = f4 at *
        go_cut [13] (fun sl wc => ∃ M b c, sl = .pointer (some ⟨M, 0, none⟩) ∧ Below w20.heap.size w20 wc ∧ Bx M [.int .i64 V0, .int .i64 V0, .int .i64 V0, .slice (some ⟨b, 0, none⟩) n c] wc ∧ Row b n f2 wc)
        case first =>
          obtain ⟨GX, hGX⟩ : ∃ G : Nat → Value → Prop, G = (fun j v => match j, v with | 0, v => v = vVolume V0 V0 V0 (some ⟨vb, 0, none⟩) n vc | 2, v => v = tv b0 b1 b2 b3 | 4, v => v = tv a0 a1 a2 a3 | _, _ => True) := ⟨_, rfl⟩
          obtain ⟨OX, hOX⟩ : ∃ O : Nat → Option (Nat → Int), O = (fun j => match j with | 1 => some f | 3 => some f1 | 5 => some f2 | _ => none) := ⟨_, rfl⟩
          have GX0 : Hid (∀ v, GX 0 v ↔ v = vVolume V0 V0 V0 (some ⟨vb, 0, none⟩) n vc) := fun v => by rw [hGX]; exact Iff.rfl
          have OX0 : Hid (OX 0 = none) := by rw [hOX]; rfl
          have GX1 : Hid (∀ v, GX 1 v) := fun v => by rw [hGX]; trivial
          have OX1 : Hid (OX 1 = some f) := by rw [hOX]; rfl
          have GX2 : Hid (∀ v, GX 2 v ↔ v = tv b0 b1 b2 b3) := fun v => by rw [hGX]; exact Iff.rfl
          have OX2 : Hid (OX 2 = none) := by rw [hOX]; rfl
          have GX3 : Hid (∀ v, GX 3 v) := fun v => by rw [hGX]; trivial
          have OX3 : Hid (OX 3 = some f1) := by rw [hOX]; rfl
          have GX4 : Hid (∀ v, GX 4 v ↔ v = tv a0 a1 a2 a3) := fun v => by rw [hGX]; exact Iff.rfl
          have OX4 : Hid (OX 4 = none) := by rw [hOX]; rfl
          have GX5 : Hid (∀ v, GX 5 v) := fun v => by rw [hGX]; trivial
          have OX5 : Hid (OX 5 = some f2) := by rw [hOX]; rfl
          have GX6 : Hid (∀ v, GX 6 v ∧ GX 7 v) := fun v => by rw [hGX]; exact ⟨trivial, trivial⟩
          have OX6 : Hid (OX 6 = none ∧ OX 7 = none) := by rw [hOX]; exact ⟨rfl, rfl⟩
          clear hGX hOX
          refine region_opsU (tgR w20) (tgF w20 V0 n GX OX f2) (by kernel_rfl) (by kernel_rfl) (by kernel_rfl) ?_ ?_ ?_
          · refine ⟨(Below.refl _ _).drew, fun M hM => ?_⟩
            exact Value.noConfusion (Eq.trans (Eq.symm hM) (show _ = undef by kernel_rfl))
          · refine ⟨?_, ?_, ?_, ?_, ?_, ?_, ?_, ?_, trivial⟩
            · intro u w21 au hau hu hF hp' K hK
              have t7 : au.tmps[7]?.getD undef = .pointer (some ⟨V, 0, none⟩) := by rw [hau.out]; kernel_rfl
              have bx := BV.out.below hF.1 BV.out.lt
              obtain ⟨x0, -⟩ := bx 0 _ rfl
              obtain ⟨x1, -⟩ := bx 1 _ rfl
              obtain ⟨x2, -⟩ := bx 2 _ rfl
              obtain ⟨x3, -⟩ := bx 3 _ rfl
              clear bx
              refine step_plain rfl ?_
              go_simp
              exact hK.out (vVolume V0 V0 V0 (some ⟨vb, 0, none⟩) n vc) _ (tgR_up hF (Below.refl _ _) 0 (by omega) _) (tgF_val 0 (by omega) OX0.out ((GX0.out _).2 rfl)) (fun j hj _ h => tgF_up hn1 (Below.refl _ _) 0 (by omega) _ j hj h)
            · intro u w21 au hau hu hF hp' K hK
              have h0 : u 0 = vVolume V0 V0 V0 (some ⟨vb, 0, none⟩) n vc := (GX0.out _).1 (PreF.get hp' 0 (by kernel_rfl)).1
              have t123 : au.tmps[123]?.getD undef = u 0 := by rw [hau.out]; kernel_rfl
              rw [h0] at t123
              have h7 : u 7 = undef := (hu.out 7 (by decide) (.inr (by kernel_rfl))).trans (by kernel_rfl)
              have c := cCp w21 ((HRV.out.below hF.1 (HRV.out.lt hn1)).px)
              refine step_plain rfl ?_
              go_simp
              refine c.mono ?_
              rintro e w22 ⟨b9, c9, rfl, hr9, hB9, hb9⟩
              exact hK.out (vVolume V0 V0 V0 (some ⟨b9, 0, none⟩) n c9) _ (tgR_up hF hb9 1 (by omega) _) (tgF_vol 1 (by omega) OX1.out GX1.out hF h7 hB9 hr9) (fun j hj _ h => tgF_up hn1 hb9 1 (by omega) _ j hj h)
            · intro u w21 au hau hu hF hp' K hK
              have t6 : au.tmps[6]?.getD undef = .pointer (some ⟨B, 0, none⟩) := by rw [hau.out]; kernel_rfl
              have bx := BB.out.below hF.1 BB.out.lt
              obtain ⟨x0, -⟩ := bx 0 _ rfl
              obtain ⟨x1, -⟩ := bx 1 _ rfl
              obtain ⟨x2, -⟩ := bx 2 _ rfl
              obtain ⟨x3, -⟩ := bx 3 _ rfl
              clear bx
              refine step_plain rfl ?_
              go_simp
              exact hK.out (tv b0 b1 b2 b3) _ (tgR_up hF (Below.refl _ _) 2 (by omega) _) (tgF_val 2 (by omega) OX2.out ((GX2.out _).2 rfl)) (fun j hj _ h => tgF_up hn1 (Below.refl _ _) 2 (by omega) _ j hj h)
            · intro u w21 au hau hu hF hp' K hK
              have h7 : u 7 = undef := (hu.out 7 (by decide) (.inr (by kernel_rfl))).trans (by kernel_rfl)
              obtain ⟨b8, c8, h0, r8, -, -⟩ := ((PreF.get hp' 1 (by kernel_rfl)).2.1 f OX1.out).resolve_left (fun h => h h7)
              have h1 : u 2 = tv b0 b1 b2 b3 := (GX2.out _).1 (PreF.get hp' 2 (by kernel_rfl)).1
              have t124 : au.tmps[124]?.getD undef = u 1 := by rw [hau.out]; kernel_rfl
              rw [h0] at t124
              have t125 : au.tmps[125]?.getD undef = u 2 := by rw [hau.out]; kernel_rfl
              rw [h1] at t125
              have c := cTb b8 c8 w21 r8
              refine step_plain rfl ?_
              go_simp
              refine c.mono ?_
              rintro e w22 ⟨b9, c9, rfl, hB9, hr9, hb9⟩
              exact hK.out (vVolume V0 V0 V0 (some ⟨b9, 0, none⟩) n c9) _ (tgR_up hF hb9 3 (by omega) _) (tgF_vol 3 (by omega) OX3.out GX3.out hF h7 hB9 hr9) (fun j hj _ h => tgF_up hn1 hb9 3 (by omega) _ j hj h)
            · intro u w21 au hau hu hF hp' K hK
              have t5 : au.tmps[5]?.getD undef = .pointer (some ⟨A, 0, none⟩) := by rw [hau.out]; kernel_rfl
              have bx := BA.out.below hF.1 BA.out.lt
              obtain ⟨x0, -⟩ := bx 0 _ rfl
              obtain ⟨x1, -⟩ := bx 1 _ rfl
              obtain ⟨x2, -⟩ := bx 2 _ rfl
              obtain ⟨x3, -⟩ := bx 3 _ rfl
              clear bx
              refine step_plain rfl ?_
              go_simp
              exact hK.out (tv a0 a1 a2 a3) _ (tgR_up hF (Below.refl _ _) 4 (by omega) _) (tgF_val 4 (by omega) OX4.out ((GX4.out _).2 rfl)) (fun j hj _ h => tgF_up hn1 (Below.refl _ _) 4 (by omega) _ j hj h)
            · intro u w21 au hau hu hF hp' K hK
              have h7 : u 7 = undef := (hu.out 7 (by decide) (.inr (by kernel_rfl))).trans (by kernel_rfl)
              obtain ⟨b8, c8, h0, r8, -, -⟩ := ((PreF.get hp' 3 (by kernel_rfl)).2.1 f1 OX3.out).resolve_left (fun h => h h7)
              have h1 : u 4 = tv a0 a1 a2 a3 := (GX4.out _).1 (PreF.get hp' 4 (by kernel_rfl)).1
              have t126 : au.tmps[126]?.getD undef = u 3 := by rw [hau.out]; kernel_rfl
              rw [h0] at t126
              have t127 : au.tmps[127]?.getD undef = u 4 := by rw [hau.out]; kernel_rfl
              rw [h1] at t127
              have c := cTa b8 c8 w21 r8
              refine step_plain rfl ?_
              go_simp
              refine c.mono ?_
              rintro e w22 ⟨b9, c9, rfl, hB9, hr9, hb9⟩
              exact hK.out (vVolume V0 V0 V0 (some ⟨b9, 0, none⟩) n c9) _ (tgR_up hF hb9 5 (by omega) _) (tgF_vol 5 (by omega) OX5.out GX5.out hF h7 hB9 hr9) (fun j hj _ h => tgF_up hn1 hb9 5 (by omega) _ j hj h)
            · intro u w21 au hau hu hF hp' K hK
              refine step_plain rfl ?_
              go_simp
              exact hK.out (.pointer (some ⟨w21.heap.size, 0, none⟩)) _ (tgR_al hF _) ⟨(GX6.out _).1, fun f h => (by rw [OX6.out.1] at h; cases h), fun _ => ⟨_, upU_same _ _ _⟩, fun e => by omega⟩ (fun j hj hf h => tgF_al hn1 _ j hj (fun e => by subst e; exact absurd (Eq.trans (Eq.symm (by kernel_rfl)) hf) Bool.false_ne_true) h)
            · intro u w21 au hau hu hF hp' K hK
              have h7 : u 7 = undef := (hu.out 7 (by decide) (.inl rfl)).trans (by kernel_rfl)
              obtain ⟨M, h6⟩ := (PreF.get hp' 6 (by kernel_rfl)).2.2.1 rfl
              obtain ⟨b8, c8, h5, r8, hB8, hM8⟩ := ((PreF.get hp' 5 (by kernel_rfl)).2.1 f2 OX5.out).resolve_left (fun h => h h7)
              have hMb := hM8 M h6
              obtain ⟨hBM, hbx⟩ := (hF.2 M h6).resolve_left (fun h => h h7)
              have t13 : au.tmps[13]?.getD undef = u 6 := by rw [hau.out]; kernel_rfl
              rw [h6] at t13
              have t128 : au.tmps[128]?.getD undef = u 5 := by rw [hau.out]; kernel_rfl
              rw [h5] at t128
              obtain ⟨x0, y0⟩ := hbx 0 _ rfl
              obtain ⟨x1, y1⟩ := hbx 1 _ rfl
              obtain ⟨x2, y2⟩ := hbx 2 _ rfl
              obtain ⟨x3, y3⟩ := hbx 3 _ rfl
              have HMb := hide hMb
              clear hMb hM8
              refine step_plain rfl ?_
              go_simp
              exact hK.out (.bool true) _ (tgR_st hF hBM _ _ _ _ (by simp [undef])) ⟨(GX6.out _).2, fun f h => (by rw [OX6.out.2] at h; cases h), fun e => by omega, fun _ => ⟨M, b8, c8, (upU_other _ _ (by omega)).trans h6, hBM, hB8, HMb.out, hbx.to4 _ _ _ _, r8.far4 HMb.out _ _ _ _⟩⟩ (fun j hj _ h => tgF_st (by simp [undef]) j hj h)
          · intro u w30 hF hall
            obtain ⟨M9, b9, c9, h6, hBM, hBb, -, bx, r⟩ := (hall 7 (by decide)).2.2.2 rfl
            have HE9 := hide (And.intro hF.1 (And.intro bx r))
            clear hF hall bx r hBM hBb
            simp only [rgPut, Act.put, h6]
            clear h6
            go_simp
            go_wp2_with fail
            go_meet
            exact ⟨M9, b9, c9, rfl, HE9.out⟩
        case rest =>
          obtain ⟨MX, bX, cX, rfl, hwX, bxX, rX⟩ := hcut
          obtain ⟨wX, hwc⟩ : ∃ wX, wX = wc := ⟨_, rfl⟩
          rw [← hwc] at hwX bxX rX
          rw [← hwc]
          clear hwc
          have HWX := hide hwX
          have BX := hide bxX
          have RX := hide rX
          clear hwX bxX rX
          have BV' := hide (BV.out.below HWX.out BV.out.lt)
          have BB' := hide (BB.out.below HWX.out BB.out.lt)
          have BA' := hide (BA.out.below HWX.out BA.out.lt)
          have BE' := hide (BE.out.below HWX.out BE.out.lt)
          have HRV' := hide (HRV.out.below HWX.out (HRV.out.lt hn1))
          have HWw := hide (HW.out.trans (HWX.out.mono HW.out.size))
          clear BV BB BA BE HRV HW HWX cTb cTa
          go_upto_region 26 with fail
          go_cut [14] (fun sl wc => ∃ M b c, sl = .pointer (some ⟨M, 0, none⟩) ∧ Below wX.heap.size wX wc ∧ Bx M [.int .i64 V0, .int .i64 V0, .int .i64 V0, .slice (some ⟨b, 0, none⟩) n c] wc ∧ Row b n f3 wc)
          case first =>
            obtain ⟨GY, hGY⟩ : ∃ G : Nat → Value → Prop, G = (fun j v => match j, v with | 0, v => v = vVolume V0 V0 V0 (some ⟨vb, 0, none⟩) n vc | 2, v => v = tv a0 a1 a2 a3 | 3, v => v = tv b0 b1 b2 b3 | 4, v => v = tv p0 p1 p2 p3 | _, _ => True) := ⟨_, rfl⟩
            obtain ⟨OY, hOY⟩ : ∃ O : Nat → Option (Nat → Int), O = (fun j => match j with | 1 => some f | 5 => some f3 | _ => none) := ⟨_, rfl⟩
            have GY0 : Hid (∀ v, GY 0 v ↔ v = vVolume V0 V0 V0 (some ⟨vb, 0, none⟩) n vc) := fun v => by rw [hGY]; exact Iff.rfl
            have OY0 : Hid (OY 0 = none) := by rw [hOY]; rfl
            have GY1 : Hid (∀ v, GY 1 v) := fun v => by rw [hGY]; trivial
            have OY1 : Hid (OY 1 = some f) := by rw [hOY]; rfl
            have GY2 : Hid (∀ v, GY 2 v ↔ v = tv a0 a1 a2 a3) := fun v => by rw [hGY]; exact Iff.rfl
            have OY2 : Hid (OY 2 = none) := by rw [hOY]; rfl
            have GY3 : Hid (∀ v, GY 3 v ↔ v = tv b0 b1 b2 b3) := fun v => by rw [hGY]; exact Iff.rfl
            have OY3 : Hid (OY 3 = none) := by rw [hOY]; rfl
            have GY4 : Hid (∀ v, GY 4 v ↔ v = tv p0 p1 p2 p3) := fun v => by rw [hGY]; exact Iff.rfl
            have OY4 : Hid (OY 4 = none) := by rw [hOY]; rfl
            have GY5 : Hid (∀ v, GY 5 v) := fun v => by rw [hGY]; trivial
            have OY5 : Hid (OY 5 = some f3) := by rw [hOY]; rfl
            have GY6 : Hid (∀ v, GY 6 v ∧ GY 7 v) := fun v => by rw [hGY]; exact ⟨trivial, trivial⟩
            have OY6 : Hid (OY 6 = none ∧ OY 7 = none) := by rw [hOY]; exact ⟨rfl, rfl⟩
            clear hGY hOY
            refine region_opsU (tgR wX) (tgF wX V0 n GY OY f3) (by kernel_rfl) (by kernel_rfl) (by kernel_rfl) ?_ ?_ ?_
            · refine ⟨(Below.refl _ _).drew, fun M hM => ?_⟩
              exact Value.noConfusion (Eq.trans (Eq.symm hM) (show _ = undef by kernel_rfl))
            · refine ⟨?_, ?_, ?_, ?_, ?_, ?_, ?_, ?_, trivial⟩
              · intro u w21 au hau hu hF hp' K hK
                have t7 : au.tmps[7]?.getD undef = .pointer (some ⟨V, 0, none⟩) := by rw [hau.out]; kernel_rfl
                have bx := BV'.out.below hF.1 BV'.out.lt
                obtain ⟨x0, -⟩ := bx 0 _ rfl
                obtain ⟨x1, -⟩ := bx 1 _ rfl
                obtain ⟨x2, -⟩ := bx 2 _ rfl
                obtain ⟨x3, -⟩ := bx 3 _ rfl
                clear bx
                refine step_plain rfl ?_
                go_simp
                exact hK.out (vVolume V0 V0 V0 (some ⟨vb, 0, none⟩) n vc) _ (tgR_up hF (Below.refl _ _) 0 (by omega) _) (tgF_val 0 (by omega) OY0.out ((GY0.out _).2 rfl)) (fun j hj _ h => tgF_up hn1 (Below.refl _ _) 0 (by omega) _ j hj h)
              · intro u w21 au hau hu hF hp' K hK
                have h0 : u 0 = vVolume V0 V0 V0 (some ⟨vb, 0, none⟩) n vc := (GY0.out _).1 (PreF.get hp' 0 (by kernel_rfl)).1
                have t129 : au.tmps[129]?.getD undef = u 0 := by rw [hau.out]; kernel_rfl
                rw [h0] at t129
                have h7 : u 7 = undef := (hu.out 7 (by decide) (.inr (by kernel_rfl))).trans (by kernel_rfl)
                have c := cCp w21 ((HRV'.out.below hF.1 (HRV'.out.lt hn1)).px)
                refine step_plain rfl ?_
                go_simp
                refine c.mono ?_
                rintro e w22 ⟨b9, c9, rfl, hr9, hB9, hb9⟩
                exact hK.out (vVolume V0 V0 V0 (some ⟨b9, 0, none⟩) n c9) _ (tgR_up hF hb9 1 (by omega) _) (tgF_vol 1 (by omega) OY1.out GY1.out hF h7 hB9 hr9) (fun j hj _ h => tgF_up hn1 hb9 1 (by omega) _ j hj h)
              · intro u w21 au hau hu hF hp' K hK
                have t5 : au.tmps[5]?.getD undef = .pointer (some ⟨A, 0, none⟩) := by rw [hau.out]; kernel_rfl
                have bx := BA'.out.below hF.1 BA'.out.lt
                obtain ⟨x0, -⟩ := bx 0 _ rfl
                obtain ⟨x1, -⟩ := bx 1 _ rfl
                obtain ⟨x2, -⟩ := bx 2 _ rfl
                obtain ⟨x3, -⟩ := bx 3 _ rfl
                clear bx
                refine step_plain rfl ?_
                go_simp
                exact hK.out (tv a0 a1 a2 a3) _ (tgR_up hF (Below.refl _ _) 2 (by omega) _) (tgF_val 2 (by omega) OY2.out ((GY2.out _).2 rfl)) (fun j hj _ h => tgF_up hn1 (Below.refl _ _) 2 (by omega) _ j hj h)
              · intro u w21 au hau hu hF hp' K hK
                have t6 : au.tmps[6]?.getD undef = .pointer (some ⟨B, 0, none⟩) := by rw [hau.out]; kernel_rfl
                have bx := BB'.out.below hF.1 BB'.out.lt
                obtain ⟨x0, -⟩ := bx 0 _ rfl
                obtain ⟨x1, -⟩ := bx 1 _ rfl
                obtain ⟨x2, -⟩ := bx 2 _ rfl
                obtain ⟨x3, -⟩ := bx 3 _ rfl
                clear bx
                refine step_plain rfl ?_
                go_simp
                exact hK.out (tv b0 b1 b2 b3) _ (tgR_up hF (Below.refl _ _) 3 (by omega) _) (tgF_val 3 (by omega) OY3.out ((GY3.out _).2 rfl)) (fun j hj _ h => tgF_up hn1 (Below.refl _ _) 3 (by omega) _ j hj h)
              · intro u w21 au hau hu hF hp' K hK
                have h0 : u 2 = tv a0 a1 a2 a3 := (GY2.out _).1 (PreF.get hp' 2 (by kernel_rfl)).1
                have h1 : u 3 = tv b0 b1 b2 b3 := (GY3.out _).1 (PreF.get hp' 3 (by kernel_rfl)).1
                have t131 : au.tmps[131]?.getD undef = u 2 := by rw [hau.out]; kernel_rfl
                rw [h0] at t131
                have t132 : au.tmps[132]?.getD undef = u 3 := by rw [hau.out]; kernel_rfl
                rw [h1] at t132
                have c := mAB w21
                refine step_plain rfl ?_
                go_simp
                refine c.mono ?_
                rintro e w22 ⟨rfl, hb9⟩
                exact hK.out (tv p0 p1 p2 p3) _ (tgR_up hF hb9 4 (by omega) _) (tgF_val 4 (by omega) OY4.out ((GY4.out _).2 rfl)) (fun j hj _ h => tgF_up hn1 hb9 4 (by omega) _ j hj h)
              · intro u w21 au hau hu hF hp' K hK
                have h7 : u 7 = undef := (hu.out 7 (by decide) (.inr (by kernel_rfl))).trans (by kernel_rfl)
                obtain ⟨b8, c8, h0, r8, -, -⟩ := ((PreF.get hp' 1 (by kernel_rfl)).2.1 f OY1.out).resolve_left (fun h => h h7)
                have h1 : u 4 = tv p0 p1 p2 p3 := (GY4.out _).1 (PreF.get hp' 4 (by kernel_rfl)).1
                have t130 : au.tmps[130]?.getD undef = u 1 := by rw [hau.out]; kernel_rfl
                rw [h0] at t130
                have t133 : au.tmps[133]?.getD undef = u 4 := by rw [hau.out]; kernel_rfl
                rw [h1] at t133
                have c := cTp b8 c8 w21 r8
                refine step_plain rfl ?_
                go_simp
                refine c.mono ?_
                rintro e w22 ⟨b9, c9, rfl, hB9, hr9, hb9⟩
                exact hK.out (vVolume V0 V0 V0 (some ⟨b9, 0, none⟩) n c9) _ (tgR_up hF hb9 5 (by omega) _) (tgF_vol 5 (by omega) OY5.out GY5.out hF h7 hB9 hr9) (fun j hj _ h => tgF_up hn1 hb9 5 (by omega) _ j hj h)
              · intro u w21 au hau hu hF hp' K hK
                refine step_plain rfl ?_
                go_simp
                exact hK.out (.pointer (some ⟨w21.heap.size, 0, none⟩)) _ (tgR_al hF _) ⟨(GY6.out _).1, fun f h => (by rw [OY6.out.1] at h; cases h), fun _ => ⟨_, upU_same _ _ _⟩, fun e => by omega⟩ (fun j hj hf h => tgF_al hn1 _ j hj (fun e => by subst e; exact absurd (Eq.trans (Eq.symm (by kernel_rfl)) hf) Bool.false_ne_true) h)
              · intro u w21 au hau hu hF hp' K hK
                have h7 : u 7 = undef := (hu.out 7 (by decide) (.inl rfl)).trans (by kernel_rfl)
                obtain ⟨M, h6⟩ := (PreF.get hp' 6 (by kernel_rfl)).2.2.1 rfl
                obtain ⟨b8, c8, h5, r8, hB8, hM8⟩ := ((PreF.get hp' 5 (by kernel_rfl)).2.1 f3 OY5.out).resolve_left (fun h => h h7)
                have hMb := hM8 M h6
                obtain ⟨hBM, hbx⟩ := (hF.2 M h6).resolve_left (fun h => h h7)
                have t14 : au.tmps[14]?.getD undef = u 6 := by rw [hau.out]; kernel_rfl
                rw [h6] at t14
                have t134 : au.tmps[134]?.getD undef = u 5 := by rw [hau.out]; kernel_rfl
                rw [h5] at t134
                obtain ⟨x0, y0⟩ := hbx 0 _ rfl
                obtain ⟨x1, y1⟩ := hbx 1 _ rfl
                obtain ⟨x2, y2⟩ := hbx 2 _ rfl
                obtain ⟨x3, y3⟩ := hbx 3 _ rfl
                have HMb := hide hMb
                clear hMb hM8
                refine step_plain rfl ?_
                go_simp
                exact hK.out (.bool true) _ (tgR_st hF hBM _ _ _ _ (by simp [undef])) ⟨(GY6.out _).2, fun f h => (by rw [OY6.out.2] at h; cases h), fun e => by omega, fun _ => ⟨M, b8, c8, (upU_other _ _ (by omega)).trans h6, hBM, hB8, HMb.out, hbx.to4 _ _ _ _, r8.far4 HMb.out _ _ _ _⟩⟩ (fun j hj _ h => tgF_st (by simp [undef]) j hj h)
            · intro u w30 hF hall
              obtain ⟨M9, b9, c9, h6, hBM, hBb, -, bx, r⟩ := (hall 7 (by decide)).2.2.2 rfl
              have HE9 := hide (And.intro hF.1 (And.intro bx r))
              clear hF hall bx r hBM hBb
              simp only [rgPut, Act.put, h6]
              clear h6
              go_simp
              go_wp2_with fail
              go_meet
              exact ⟨M9, b9, c9, rfl, HE9.out⟩
          case rest =>
            obtain ⟨MY, bY, cY, rfl, hwY, bxY, rY⟩ := hcut
            obtain ⟨wY, hwc⟩ : ∃ wY, wY = wc := ⟨_, rfl⟩
            rw [← hwc] at hwY bxY rY
            rw [← hwc]
            clear hwc
            have HWY := hide hwY
            have BY := hide bxY
            have RY := hide rY
            clear hwY bxY rY
            have BV := hide (BV'.out.below HWY.out BV'.out.lt)
            have BE := hide (BE'.out.below HWY.out BE'.out.lt)
            have BX' := hide (BX.out.below HWY.out BX.out.lt)
            have RX' := hide (RX.out.below HWY.out (RX.out.lt hn1))
            have HRV := hide (HRV'.out.below HWY.out (HRV'.out.lt hn1))
            have HW := hide (HWw.out.trans (HWY.out.mono HWw.out.size))
            clear BV' BB' BA' BE' HRV' HWw HWY cTp mAB BX RX
            go_upto_region 27 with fail
            obtain ⟨GZ, hGZ⟩ : ∃ G : Nat → Value → Prop, G = (fun j v => match j, v with | 0, v => v = .pointer (some ⟨MX, 0, none⟩) | 1, v => v = .int .i64 V0 | 2, v => v = .pointer (some ⟨V, 0, none⟩) | 3, v => v = .int .i64 V0 | 4, v => v = .bool true | 5, v => v = .bool true | 6, v => v = vVolume V0 V0 V0 (some ⟨bX, 0, none⟩) n cX | 7, v => v = vVolume V0 V0 V0 (some ⟨bY, 0, none⟩) n cY | 8, v => v = .bool true | 9, v => v = .bool true | 10, v => v = .bool true | 11, v => v = vVolume V0 V0 V0 (some ⟨vb, 0, none⟩) n vc | 13, v => v = tv 2 0 0 0 | 15, v => v = vVolume V0 V0 V0 (some ⟨vb, 0, none⟩) n vc | 16, v => v = .bool true | 17, v => v = .bool true | 18, v => v = .bool true | _, _ => True) := ⟨_, rfl⟩
            obtain ⟨OZ, hOZ⟩ : ∃ O : Nat → Option (Nat → Int), O = (fun j => match j with | 12 => some f | 14 => some f4 | _ => none) := ⟨_, rfl⟩
            have GZ0 : Hid (∀ v, GZ 0 v ↔ v = .pointer (some ⟨MX, 0, none⟩)) := fun v => by rw [hGZ]; exact Iff.rfl
            have OZ0 : Hid (OZ 0 = none) := by rw [hOZ]; rfl
            have GZ1 : Hid (∀ v, GZ 1 v ↔ v = .int .i64 V0) := fun v => by rw [hGZ]; exact Iff.rfl
            have OZ1 : Hid (OZ 1 = none) := by rw [hOZ]; rfl
            have GZ2 : Hid (∀ v, GZ 2 v ↔ v = .pointer (some ⟨V, 0, none⟩)) := fun v => by rw [hGZ]; exact Iff.rfl
            have OZ2 : Hid (OZ 2 = none) := by rw [hOZ]; rfl
            have GZ3 : Hid (∀ v, GZ 3 v ↔ v = .int .i64 V0) := fun v => by rw [hGZ]; exact Iff.rfl
            have OZ3 : Hid (OZ 3 = none) := by rw [hOZ]; rfl
            have GZ4 : Hid (∀ v, GZ 4 v ↔ v = .bool true) := fun v => by rw [hGZ]; exact Iff.rfl
            have OZ4 : Hid (OZ 4 = none) := by rw [hOZ]; rfl
            have GZ5 : Hid (∀ v, GZ 5 v ↔ v = .bool true) := fun v => by rw [hGZ]; exact Iff.rfl
            have OZ5 : Hid (OZ 5 = none) := by rw [hOZ]; rfl
            have GZ6 : Hid (∀ v, GZ 6 v ↔ v = vVolume V0 V0 V0 (some ⟨bX, 0, none⟩) n cX) := fun v => by rw [hGZ]; exact Iff.rfl
            have OZ6 : Hid (OZ 6 = none) := by rw [hOZ]; rfl
            have GZ7 : Hid (∀ v, GZ 7 v ↔ v = vVolume V0 V0 V0 (some ⟨bY, 0, none⟩) n cY) := fun v => by rw [hGZ]; exact Iff.rfl
            have OZ7 : Hid (OZ 7 = none) := by rw [hOZ]; rfl
            have GZ8 : Hid (∀ v, GZ 8 v ↔ v = .bool true) := fun v => by rw [hGZ]; exact Iff.rfl
            have OZ8 : Hid (OZ 8 = none) := by rw [hOZ]; rfl
            have GZ9 : Hid (∀ v, GZ 9 v ↔ v = .bool true) := fun v => by rw [hGZ]; exact Iff.rfl
            have OZ9 : Hid (OZ 9 = none) := by rw [hOZ]; rfl
            have GZ10 : Hid (∀ v, GZ 10 v ↔ v = .bool true) := fun v => by rw [hGZ]; exact Iff.rfl
            have OZ10 : Hid (OZ 10 = none) := by rw [hOZ]; rfl
            have GZ11 : Hid (∀ v, GZ 11 v ↔ v = vVolume V0 V0 V0 (some ⟨vb, 0, none⟩) n vc) := fun v => by rw [hGZ]; exact Iff.rfl
            have OZ11 : Hid (OZ 11 = none) := by rw [hOZ]; rfl
            have GZ12 : Hid (∀ v, GZ 12 v) := fun v => by rw [hGZ]; trivial
            have OZ12 : Hid (OZ 12 = some f) := by rw [hOZ]; rfl
            have GZ13 : Hid (∀ v, GZ 13 v ↔ v = tv 2 0 0 0) := fun v => by rw [hGZ]; exact Iff.rfl
            have OZ13 : Hid (OZ 13 = none) := by rw [hOZ]; rfl
            have GZ14 : Hid (∀ v, GZ 14 v) := fun v => by rw [hGZ]; trivial
            have OZ14 : Hid (OZ 14 = some f4) := by rw [hOZ]; rfl
            have GZ15 : Hid (∀ v, GZ 15 v ↔ v = vVolume V0 V0 V0 (some ⟨vb, 0, none⟩) n vc) := fun v => by rw [hGZ]; exact Iff.rfl
            have OZ15 : Hid (OZ 15 = none) := by rw [hOZ]; rfl
            have GZ16 : Hid (∀ v, GZ 16 v ↔ v = .bool true) := fun v => by rw [hGZ]; exact Iff.rfl
            have OZ16 : Hid (OZ 16 = none) := by rw [hOZ]; rfl
            have GZ17 : Hid (∀ v, GZ 17 v ↔ v = .bool true) := fun v => by rw [hGZ]; exact Iff.rfl
            have OZ17 : Hid (OZ 17 = none) := by rw [hOZ]; rfl
            have GZ18 : Hid (∀ v, GZ 18 v ↔ v = .bool true) := fun v => by rw [hGZ]; exact Iff.rfl
            have OZ18 : Hid (OZ 18 = none) := by rw [hOZ]; rfl
            clear hGZ hOZ
            have qV : (V0 == V0) = true := by simp
            refine region_ops (fun w' => Below wY.heap.size wY w') (tzF V0 n GZ OZ) (by kernel_rfl) (by kernel_rfl) (by kernel_rfl) (Below.refl _ _).drew ?_ ?_
            · refine ⟨?_, ?_, ?_, ?_, ?_, ?_, ?_, ?_, ?_, ?_, ?_, ?_, ?_, ?_, ?_, ?_, ?_, ?_, ?_, trivial⟩
              · intro u w21 au hau hu hF hp' K hK
                have t13 : au.tmps[13]?.getD undef = .pointer (some ⟨MX, 0, none⟩) := by rw [hau.out]; kernel_rfl
                refine step_plain rfl ?_
                go_simp
                exact hK.out (.pointer (some ⟨MX, 0, none⟩)) _ hF (tzF_val 0 OZ0.out ((GZ0.out _).2 rfl)) (fun j hj _ h => tzF_up hn1 (Below.refl _ _) 0 _ j hj h)
              · intro u w21 au hau hu hF hp' K hK
                have h0 : u 0 = .pointer (some ⟨MX, 0, none⟩) := (GZ0.out _).1 (PreF.get hp' 0 (by kernel_rfl)).1
                have t135 : au.tmps[135]?.getD undef = u 0 := by rw [hau.out]; kernel_rfl
                rw [h0] at t135
                have bx := BX'.out.below hF BX'.out.lt
                obtain ⟨x0, -⟩ := bx 0 _ rfl
                clear bx
                refine step_plain rfl ?_
                go_simp
                exact hK.out (.int .i64 V0) _ hF (tzF_val 1 OZ1.out ((GZ1.out _).2 rfl)) (fun j hj _ h => tzF_up hn1 (Below.refl _ _) 1 _ j hj h)
              · intro u w21 au hau hu hF hp' K hK
                have t7 : au.tmps[7]?.getD undef = .pointer (some ⟨V, 0, none⟩) := by rw [hau.out]; kernel_rfl
                refine step_plain rfl ?_
                go_simp
                exact hK.out (.pointer (some ⟨V, 0, none⟩)) _ hF (tzF_val 2 OZ2.out ((GZ2.out _).2 rfl)) (fun j hj _ h => tzF_up hn1 (Below.refl _ _) 2 _ j hj h)
              · intro u w21 au hau hu hF hp' K hK
                have h2 : u 2 = .pointer (some ⟨V, 0, none⟩) := (GZ2.out _).1 (PreF.get hp' 2 (by kernel_rfl)).1
                have t137 : au.tmps[137]?.getD undef = u 2 := by rw [hau.out]; kernel_rfl
                rw [h2] at t137
                have bx := BV.out.below hF BV.out.lt
                obtain ⟨x0, -⟩ := bx 0 _ rfl
                clear bx
                refine step_plain rfl ?_
                go_simp
                exact hK.out (.int .i64 V0) _ hF (tzF_val 3 OZ3.out ((GZ3.out _).2 rfl)) (fun j hj _ h => tzF_up hn1 (Below.refl _ _) 3 _ j hj h)
              · intro u w21 au hau hu hF hp' K hK
                have h1 : u 1 = .int .i64 V0 := (GZ1.out _).1 (PreF.get hp' 1 (by kernel_rfl)).1
                have t136 : au.tmps[136]?.getD undef = u 1 := by rw [hau.out]; kernel_rfl
                rw [h1] at t136
                have h3 : u 3 = .int .i64 V0 := (GZ3.out _).1 (PreF.get hp' 3 (by kernel_rfl)).1
                have t138 : au.tmps[138]?.getD undef = u 3 := by rw [hau.out]; kernel_rfl
                rw [h3] at t138
                refine step_plain rfl ?_
                go_simp
                exact hK.out (.bool true) _ hF (tzF_val 4 OZ4.out ((GZ4.out _).2 rfl)) (fun j hj _ h => tzF_up hn1 (Below.refl _ _) 4 _ j hj h)
              · intro u w21 au hau hu hF hp' K hK
                have h4 : u 4 = .bool true := (GZ4.out _).1 (PreF.get hp' 4 (by kernel_rfl)).1
                have t139 : au.tmps[139]?.getD undef = u 4 := by rw [hau.out]; kernel_rfl
                rw [h4] at t139
                refine step_plain rfl ?_
                go_simp
                exact hK.out (.bool true) _ hF (tzF_val 5 OZ5.out ((GZ5.out _).2 rfl)) (fun j hj _ h => tzF_up hn1 (Below.refl _ _) 5 _ j hj h)
              · intro u w21 au hau hu hF hp' K hK
                have t13 : au.tmps[13]?.getD undef = .pointer (some ⟨MX, 0, none⟩) := by rw [hau.out]; kernel_rfl
                have bx := BX'.out.below hF BX'.out.lt
                obtain ⟨x0, -⟩ := bx 0 _ rfl
                obtain ⟨x1, -⟩ := bx 1 _ rfl
                obtain ⟨x2, -⟩ := bx 2 _ rfl
                obtain ⟨x3, -⟩ := bx 3 _ rfl
                clear bx
                have hg : u 5 = .bool true := (GZ5.out _).1 (PreF.get hp' 5 (by kernel_rfl)).1
                have tg : au.tmps[140]?.getD undef = u 5 := by rw [hau.out]; kernel_rfl
                rw [hg] at tg
                have hs : 140 < au.tmps.size := by rw [hau.out]; exact of_decide_eq_true (by kernel_rfl)
                refine step_guard rfl rfl rfl hs tg ?_
                clear tg hs hg
                go_simp
                exact hK.out (vVolume V0 V0 V0 (some ⟨bX, 0, none⟩) n cX) _ hF (tzF_val 6 OZ6.out ((GZ6.out _).2 rfl)) (fun j hj _ h => tzF_up hn1 (Below.refl _ _) 6 _ j hj h)
              · intro u w21 au hau hu hF hp' K hK
                have t14 : au.tmps[14]?.getD undef = .pointer (some ⟨MY, 0, none⟩) := by rw [hau.out]; kernel_rfl
                have bx := BY.out.below hF BY.out.lt
                obtain ⟨x0, -⟩ := bx 0 _ rfl
                obtain ⟨x1, -⟩ := bx 1 _ rfl
                obtain ⟨x2, -⟩ := bx 2 _ rfl
                obtain ⟨x3, -⟩ := bx 3 _ rfl
                clear bx
                have hg : u 5 = .bool true := (GZ5.out _).1 (PreF.get hp' 5 (by kernel_rfl)).1
                have tg : au.tmps[140]?.getD undef = u 5 := by rw [hau.out]; kernel_rfl
                rw [hg] at tg
                have hs : 140 < au.tmps.size := by rw [hau.out]; exact of_decide_eq_true (by kernel_rfl)
                refine step_guard rfl rfl rfl hs tg ?_
                clear tg hs hg
                go_simp
                exact hK.out (vVolume V0 V0 V0 (some ⟨bY, 0, none⟩) n cY) _ hF (tzF_val 7 OZ7.out ((GZ7.out _).2 rfl)) (fun j hj _ h => tzF_up hn1 (Below.refl _ _) 7 _ j hj h)
              · intro u w21 au hau hu hF hp' K hK
                have h6 : u 6 = vVolume V0 V0 V0 (some ⟨bX, 0, none⟩) n cX := (GZ6.out _).1 (PreF.get hp' 6 (by kernel_rfl)).1
                have t141 : au.tmps[141]?.getD undef = u 6 := by rw [hau.out]; kernel_rfl
                rw [h6] at t141
                have h7 : u 7 = vVolume V0 V0 V0 (some ⟨bY, 0, none⟩) n cY := (GZ7.out _).1 (PreF.get hp' 7 (by kernel_rfl)).1
                have t142 : au.tmps[142]?.getD undef = u 7 := by rw [hau.out]; kernel_rfl
                rw [h7] at t142
                have c := sameVolume_any V0 V0 V0 (some ⟨bX, 0, none⟩) (some ⟨bY, 0, none⟩) n cX cY f2 f3 GAB'.out hl w21 ((RX'.out.below hF (RX'.out.lt hn1)).px) ((RY.out.below hF (RY.out.lt hn1)).px)
                have hg : u 5 = .bool true := (GZ5.out _).1 (PreF.get hp' 5 (by kernel_rfl)).1
                have tg : au.tmps[140]?.getD undef = u 5 := by rw [hau.out]; kernel_rfl
                rw [hg] at tg
                have hs : 140 < au.tmps.size := by rw [hau.out]; exact of_decide_eq_true (by kernel_rfl)
                refine step_guard rfl rfl rfl hs tg ?_
                clear tg hs hg
                go_simp
                refine c.mono ?_
                rintro e w22 ⟨rfl, hb9⟩
                exact hK.out (.bool true) _ (hF.trans (hb9.mono hF.size)) (tzF_val 8 OZ8.out ((GZ8.out _).2 rfl)) (fun j hj _ h => tzF_up hn1 hb9 8 _ j hj h)
              · intro u w21 au hau hu hF hp' K hK
                have h5 : u 5 = .bool true := (GZ5.out _).1 (PreF.get hp' 5 (by kernel_rfl)).1
                have t140 : au.tmps[140]?.getD undef = u 5 := by rw [hau.out]; kernel_rfl
                rw [h5] at t140
                have h8 : u 8 = .bool true := (GZ8.out _).1 (PreF.get hp' 8 (by kernel_rfl)).1
                have t143 : au.tmps[143]?.getD undef = u 8 := by rw [hau.out]; kernel_rfl
                rw [h8] at t143
                refine step_plain rfl ?_
                go_simp
                exact hK.out (.bool true) _ hF (tzF_val 9 OZ9.out ((GZ9.out _).2 rfl)) (fun j hj _ h => tzF_up hn1 (Below.refl _ _) 9 _ j hj h)
              · intro u w21 au hau hu hF hp' K hK
                have h9 : u 9 = .bool true := (GZ9.out _).1 (PreF.get hp' 9 (by kernel_rfl)).1
                have t144 : au.tmps[144]?.getD undef = u 9 := by rw [hau.out]; kernel_rfl
                rw [h9] at t144
                refine step_plain rfl ?_
                go_simp
                exact hK.out (.bool true) _ hF (tzF_val 10 OZ10.out ((GZ10.out _).2 rfl)) (fun j hj _ h => tzF_up hn1 (Below.refl _ _) 10 _ j hj h)
              · intro u w21 au hau hu hF hp' K hK
                have t7 : au.tmps[7]?.getD undef = .pointer (some ⟨V, 0, none⟩) := by rw [hau.out]; kernel_rfl
                have bx := BV.out.below hF BV.out.lt
                obtain ⟨x0, -⟩ := bx 0 _ rfl
                obtain ⟨x1, -⟩ := bx 1 _ rfl
                obtain ⟨x2, -⟩ := bx 2 _ rfl
                obtain ⟨x3, -⟩ := bx 3 _ rfl
                clear bx
                have hg : u 10 = .bool true := (GZ10.out _).1 (PreF.get hp' 10 (by kernel_rfl)).1
                have tg : au.tmps[145]?.getD undef = u 10 := by rw [hau.out]; kernel_rfl
                rw [hg] at tg
                have hs : 145 < au.tmps.size := by rw [hau.out]; exact of_decide_eq_true (by kernel_rfl)
                refine step_guard rfl rfl rfl hs tg ?_
                clear tg hs hg
                go_simp
                exact hK.out (vVolume V0 V0 V0 (some ⟨vb, 0, none⟩) n vc) _ hF (tzF_val 11 OZ11.out ((GZ11.out _).2 rfl)) (fun j hj _ h => tzF_up hn1 (Below.refl _ _) 11 _ j hj h)
              · intro u w21 au hau hu hF hp' K hK
                have h11 : u 11 = vVolume V0 V0 V0 (some ⟨vb, 0, none⟩) n vc := (GZ11.out _).1 (PreF.get hp' 11 (by kernel_rfl)).1
                have t146 : au.tmps[146]?.getD undef = u 11 := by rw [hau.out]; kernel_rfl
                rw [h11] at t146
                have c := cCp w21 ((HRV.out.below hF (HRV.out.lt hn1)).px)
                have hg : u 10 = .bool true := (GZ10.out _).1 (PreF.get hp' 10 (by kernel_rfl)).1
                have tg : au.tmps[145]?.getD undef = u 10 := by rw [hau.out]; kernel_rfl
                rw [hg] at tg
                have hs : 145 < au.tmps.size := by rw [hau.out]; exact of_decide_eq_true (by kernel_rfl)
                refine step_guard rfl rfl rfl hs tg ?_
                clear tg hs hg
                go_simp
                refine c.mono ?_
                rintro e w22 ⟨b9, c9, rfl, hr9, hB9, hb9⟩
                exact hK.out (vVolume V0 V0 V0 (some ⟨b9, 0, none⟩) n c9) _ (hF.trans (hb9.mono hF.size)) (tzF_vol 12 OZ12.out GZ12.out hr9) (fun j hj _ h => tzF_up hn1 hb9 12 _ j hj h)
              · intro u w21 au hau hu hF hp' K hK
                have t9 : au.tmps[9]?.getD undef = .pointer (some ⟨E, 0, none⟩) := by rw [hau.out]; kernel_rfl
                have bx := BE.out.below hF BE.out.lt
                obtain ⟨x0, -⟩ := bx 0 _ rfl
                obtain ⟨x1, -⟩ := bx 1 _ rfl
                obtain ⟨x2, -⟩ := bx 2 _ rfl
                obtain ⟨x3, -⟩ := bx 3 _ rfl
                clear bx
                have hg : u 10 = .bool true := (GZ10.out _).1 (PreF.get hp' 10 (by kernel_rfl)).1
                have tg : au.tmps[145]?.getD undef = u 10 := by rw [hau.out]; kernel_rfl
                rw [hg] at tg
                have hs : 145 < au.tmps.size := by rw [hau.out]; exact of_decide_eq_true (by kernel_rfl)
                refine step_guard rfl rfl rfl hs tg ?_
                clear tg hs hg
                go_simp
                exact hK.out (tv 2 0 0 0) _ hF (tzF_val 13 OZ13.out ((GZ13.out _).2 rfl)) (fun j hj _ h => tzF_up hn1 (Below.refl _ _) 13 _ j hj h)
              · intro u w21 au hau hu hF hp' K hK
                obtain ⟨b8, c8, h12, r8⟩ := (PreF.get hp' 12 (by kernel_rfl)).2 f OZ12.out
                have t147 : au.tmps[147]?.getD undef = u 12 := by rw [hau.out]; kernel_rfl
                rw [h12] at t147
                have h13 : u 13 = tv 2 0 0 0 := (GZ13.out _).1 (PreF.get hp' 13 (by kernel_rfl)).1
                have t148 : au.tmps[148]?.getD undef = u 13 := by rw [hau.out]; kernel_rfl
                rw [h13] at t148
                have c := cT1 b8 c8 w21 r8
                have hg : u 10 = .bool true := (GZ10.out _).1 (PreF.get hp' 10 (by kernel_rfl)).1
                have tg : au.tmps[145]?.getD undef = u 10 := by rw [hau.out]; kernel_rfl
                rw [hg] at tg
                have hs : 145 < au.tmps.size := by rw [hau.out]; exact of_decide_eq_true (by kernel_rfl)
                refine step_guard rfl rfl rfl hs tg ?_
                clear tg hs hg
                go_simp
                refine c.mono ?_
                rintro e w22 ⟨b9, c9, rfl, hB9, hr9, hb9⟩
                exact hK.out (vVolume V0 V0 V0 (some ⟨b9, 0, none⟩) n c9) _ (hF.trans (hb9.mono hF.size)) (tzF_vol 14 OZ14.out GZ14.out hr9) (fun j hj _ h => tzF_up hn1 hb9 14 _ j hj h)
              · intro u w21 au hau hu hF hp' K hK
                have t7 : au.tmps[7]?.getD undef = .pointer (some ⟨V, 0, none⟩) := by rw [hau.out]; kernel_rfl
                have bx := BV.out.below hF BV.out.lt
                obtain ⟨x0, -⟩ := bx 0 _ rfl
                obtain ⟨x1, -⟩ := bx 1 _ rfl
                obtain ⟨x2, -⟩ := bx 2 _ rfl
                obtain ⟨x3, -⟩ := bx 3 _ rfl
                clear bx
                have hg : u 10 = .bool true := (GZ10.out _).1 (PreF.get hp' 10 (by kernel_rfl)).1
                have tg : au.tmps[145]?.getD undef = u 10 := by rw [hau.out]; kernel_rfl
                rw [hg] at tg
                have hs : 145 < au.tmps.size := by rw [hau.out]; exact of_decide_eq_true (by kernel_rfl)
                refine step_guard rfl rfl rfl hs tg ?_
                clear tg hs hg
                go_simp
                exact hK.out (vVolume V0 V0 V0 (some ⟨vb, 0, none⟩) n vc) _ hF (tzF_val 15 OZ15.out ((GZ15.out _).2 rfl)) (fun j hj _ h => tzF_up hn1 (Below.refl _ _) 15 _ j hj h)
              · intro u w21 au hau hu hF hp' K hK
                obtain ⟨b8, c8, h14, r8⟩ := (PreF.get hp' 14 (by kernel_rfl)).2 f4 OZ14.out
                have t149 : au.tmps[149]?.getD undef = u 14 := by rw [hau.out]; kernel_rfl
                rw [h14] at t149
                have h15 : u 15 = vVolume V0 V0 V0 (some ⟨vb, 0, none⟩) n vc := (GZ15.out _).1 (PreF.get hp' 15 (by kernel_rfl)).1
                have t150 : au.tmps[150]?.getD undef = u 15 := by rw [hau.out]; kernel_rfl
                rw [h15] at t150
                have c := sameVolume_any V0 V0 V0 (some ⟨b8, 0, none⟩) (some ⟨vb, 0, none⟩) n c8 vc f4 f GONE.out hl w21 r8.px ((HRV.out.below hF (HRV.out.lt hn1)).px)
                have hg : u 10 = .bool true := (GZ10.out _).1 (PreF.get hp' 10 (by kernel_rfl)).1
                have tg : au.tmps[145]?.getD undef = u 10 := by rw [hau.out]; kernel_rfl
                rw [hg] at tg
                have hs : 145 < au.tmps.size := by rw [hau.out]; exact of_decide_eq_true (by kernel_rfl)
                refine step_guard rfl rfl rfl hs tg ?_
                clear tg hs hg
                go_simp
                refine c.mono ?_
                rintro e w22 ⟨rfl, hb9⟩
                exact hK.out (.bool true) _ (hF.trans (hb9.mono hF.size)) (tzF_val 16 OZ16.out ((GZ16.out _).2 rfl)) (fun j hj _ h => tzF_up hn1 hb9 16 _ j hj h)
              · intro u w21 au hau hu hF hp' K hK
                have h10 : u 10 = .bool true := (GZ10.out _).1 (PreF.get hp' 10 (by kernel_rfl)).1
                have t145 : au.tmps[145]?.getD undef = u 10 := by rw [hau.out]; kernel_rfl
                rw [h10] at t145
                have h16 : u 16 = .bool true := (GZ16.out _).1 (PreF.get hp' 16 (by kernel_rfl)).1
                have t151 : au.tmps[151]?.getD undef = u 16 := by rw [hau.out]; kernel_rfl
                rw [h16] at t151
                refine step_plain rfl ?_
                go_simp
                exact hK.out (.bool true) _ hF (tzF_val 17 OZ17.out ((GZ17.out _).2 rfl)) (fun j hj _ h => tzF_up hn1 (Below.refl _ _) 17 _ j hj h)
              · intro u w21 au hau hu hF hp' K hK
                have h17 : u 17 = .bool true := (GZ17.out _).1 (PreF.get hp' 17 (by kernel_rfl)).1
                have t152 : au.tmps[152]?.getD undef = u 17 := by rw [hau.out]; kernel_rfl
                rw [h17] at t152
                refine step_plain rfl ?_
                go_simp
                exact hK.out (.bool true) _ hF (tzF_val 18 OZ18.out ((GZ18.out _).2 rfl)) (fun j hj _ h => tzF_up hn1 (Below.refl _ _) 18 _ j hj h)
            · intro u w30 hF hall
              have h18 : u 18 = .bool true := (GZ18.out _).1 (hall 18 (by decide)).1
              have HE := hide (HW.out.trans (hF.mono HW.out.size))
              clear hF hall
              simp only [rgPut, Act.put, h18]
              go_simp
              go_wp2_with fail
              go_ret
              exact ⟨rfl, HE.out⟩

end Go.Proofs.YtggiegfkmkaaeaaDoor

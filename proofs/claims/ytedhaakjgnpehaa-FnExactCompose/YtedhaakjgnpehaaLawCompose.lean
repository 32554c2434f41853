/- The law on Compose, walked. -/
import Derived.Test.YtedhaakjgnpehaaCps
import Derived.Test.YtedhaakjgnpehaaCpi
import Derived.Test.YtedhaakjgnpehaaBxf
import Derived.Deep.RegionHeld3
import Derived.Deep.DrawnRows
namespace Go.Proofs.Ytedhaakjgnpehaa
open Go.RowKit

set_option maxRecDepth 100000 in
set_option maxHeartbeats 8000000 in
theorem fnExactCompose_walk (D0 : Int) (a0 : Option Addr) (n0 cap0 : Nat) (f0 : Nat → Int) (hl0 : n0 ≤ maxLen) (d0 : Option Addr) (m0 dap0 : Nat) (g0 : Nat → Int) (hm0 : m0 ≤ maxLen) (D1 : Int) (a1 : Option Addr) (n1 cap1 : Nat) (f1 : Nat → Int) (hl1 : n1 ≤ maxLen) (d1 : Option Addr) (m1 dap1 : Nat) (g1 : Nat → Int) (hm1 : m1 ≤ maxLen) (w : World) (h0 : Px a0 (n0) f0 w) (k0 : Px d0 m0 g0 w) (h1 : Px a1 (n1) f1 w) (k1 : Px d1 m1 g1 w) :
    Calls Try.prog 3 #[vFrame D0 a0 n0 cap0 d0 m0 dap0, vFrame D1 a1 n1 cap1 d1 m1 dap1] w fun e w' => e = .returned (.bool true) ∧ Below w.heap.size w w' := by
  unfold maxLen at hl0 hm0 hl1 hm1
  have HS0 := hide (((St.start w).box [.slice a0 n0 cap0, .slice d0 m0 dap0, .int .i64 D0] 24).box' [.slice a1 n1 cap1, .slice d1 m1 dap1, .int .i64 D1] 24 (b := w.heap.size + 1) (by simp))
  have HP0 := hide h0
  have HK0 := hide k0
  clear h0 k0
  have HP1 := hide h1
  have HK1 := hide k1
  clear h1 k1
  have hz0 := szFrame_any D0 a0 n0 cap0 d0 m0 dap0 (1048576) (by omega) (by omega) (by omega) (by omega)
  by_cases hb0 : (1048576 : Int) < ((n0 : Int) + (m0 : Int))
  · rw [if_pos hb0] at hz0
    clear hb0 hl0 hm0 hl1 hm1
    go_enter Try.func3, Try.ntmps3
    go_wp2_with fail
    refine (hz0 _).mono ?_
    rintro e wz0 ⟨rfl, hb⟩
    have HZ0 := hide (HS0.out.next hb)
    clear hb
    have HB := hide HZ0.out.below
    go_wp2_with fail
    go_ret
    exact ⟨rfl, HB.out⟩
  rw [if_neg hb0] at hz0
  have hn0 : ¬ (1048576 - ((n0 : Int) + (m0 : Int)) : Int) < 0 := by omega
  have hz1 := szFrame_any D1 a1 n1 cap1 d1 m1 dap1 (1048576 - ((n0 : Int) + (m0 : Int))) (by omega) (by omega) (by omega) (by omega)
  by_cases hb1 : (1048576 - ((n0 : Int) + (m0 : Int)) : Int) < ((n1 : Int) + (m1 : Int))
  · rw [if_pos hb1] at hz1
    clear hb1 hl0 hm0 hl1 hm1
    go_enter Try.func3, Try.ntmps3
    go_wp2_with fail
    refine (hz0 _).mono ?_
    rintro e wz0 ⟨rfl, hb⟩
    have HZ0 := hide (HS0.out.next hb)
    clear hb
    obtain ⟨i0, i1, i2⟩ := HZ0.out.im3 0 rfl
    go_wp2_with fail
    refine (hz1 _).mono ?_
    rintro e wz1 ⟨rfl, hb⟩
    have HZ1 := hide (HZ0.out.next hb)
    clear hb
    have HB := hide HZ1.out.below
    go_wp2_with fail
    go_ret
    exact ⟨rfl, HB.out⟩
  rw [if_neg hb1] at hz1
  have hn1 : ¬ (1048576 - ((n0 : Int) + (m0 : Int)) - ((n1 : Int) + (m1 : Int)) : Int) < 0 := by omega
  have hL0 : n0 ≤ 1048576 := by omega
  have hM0 : m0 ≤ 1048576 := by omega
  have hL1 : n1 ≤ 1048576 := by omega
  have hM1 : m1 ≤ 1048576 := by omega
  have hN : n0 + m0 + n1 + m1 ≤ 1048576 := by omega
  have cT0 := fun w' h k => toFrame_any D0 a0 n0 cap0 f0 hL0 d0 m0 dap0 g0 hM0 w' h k
  have cA0 := fun b b' d d' w' h h' k k' => eqFrame_any D0 (some ⟨b, 0, none⟩) (some ⟨b', 0, none⟩) n0 n0 n0 f0 hL0 (some ⟨d, 0, none⟩) (some ⟨d', 0, none⟩) m0 m0 m0 g0 hM0 w' h h' k k'
  have cT1 := fun w' h k => toFrame_any D1 a1 n1 cap1 f1 hL1 d1 m1 dap1 g1 hM1 w' h k
  have cA1 := fun b b' d d' w' h h' k k' => eqFrame_any D1 (some ⟨b, 0, none⟩) (some ⟨b', 0, none⟩) n1 n1 n1 f1 hL1 (some ⟨d, 0, none⟩) (some ⟨d', 0, none⟩) m1 m1 m1 g1 hM1 w' h h' k k'
  have cM0 := fun b e => markFrame_any D0 (some ⟨b, 0, none⟩) b n0 n0 f0 hL0 (some ⟨e, 0, none⟩) e m0 m0 g0 hM0 (1) (by omega) (by omega)
  have cM1 := fun b e => markFrame_any D1 (some ⟨b, 0, none⟩) b n1 n1 f1 hL1 (some ⟨e, 0, none⟩) e m1 m1 g1 hM1 (1 + (n0 : Int) + (m0 : Int)) (by omega) (by omega)
  have hkk : ¬ (1 + (n0 : Int) + (m0 : Int) + (n1 : Int) + (m1 : Int) : Int) < 0 := by omega
  have cS := fun b0 c0 e0 o0 b1 c1 e1 o1 w' h0 k0 h1 k1 => (specCompose_any D0 b0 n0 c0 f0 hL0 e0 m0 o0 g0 hM0 D1 b1 n1 c1 f1 hL1 e1 m1 o1 g1 hM1 w' h0 k0 h1 k1).mono (fun e wx h => FrX.u h)
  have cI := fun b0 c0 e0 o0 b1 c1 e1 o1 w' h0 k0 h1 k1 => (implCompose_any D0 b0 n0 c0 f0 hL0 e0 m0 o0 g0 hM0 D1 b1 n1 c1 f1 hL1 e1 m1 o1 g1 hM1 w' h0 k0 h1 k1).mono (fun e wx h => FrX.u h)
  generalize cmQ D0 n0 f0 m0 g0 D1 n1 f1 m1 g1 = q at *
  have hrn := qn_le q 9
  have hrm := qn_le q 3
  generalize qD q (cmD D0 f0 g0 D1 f1 g1) = rD at *
  generalize cmM D0 f0 g0 D1 f1 g1 = rM at *
  generalize cmT D0 f0 g0 D1 f1 g1 = rT at *
  generalize qn q 9 = N9 at *
  generalize qn q 3 = N3 at *
  have cE := fun a a' c c' b b' d d' => eqFrame_any rD a a' N9 c c' rM (by omega) b b' N3 d d' rT (by omega)
  have cMg := fun a b c a' b' c' => markFrame_any rD a b N9 c rM (by omega) a' b' N3 c' rT (by omega) 1 (by omega) (by omega)
  have cHg := fun a b c a' b' c' => heldFrame_any rD a b N9 c (by omega) a' b' N3 c' (by omega) 1 (by omega) (by omega)
  have hk9 : ¬ (1 + (N9 : Int) + (N3 : Int)) < 0 := by omega
  have qb : (q != q) = false := by cases q <;> rfl
  have HN := hide (And.intro hrn hrm)
  clear hl0 hm0 hl1 hm1 hN hrn hrm
  go_enter Try.func3, Try.ntmps3
  go_wp2_with fail
  refine (hz0 _).mono ?_
  rintro e v1 ⟨rfl, hb⟩
  have HS1 := hide (HS0.out.next hb)
  clear HS0 hb hz0
  obtain ⟨i0, i1, i2⟩ := HS1.out.im3 0 rfl
  go_wp2_with fail
  refine (hz1 _).mono ?_
  rintro e v2 ⟨rfl, hb⟩
  have HS2 := hide (HS1.out.next hb)
  clear HS1 hb hz1 i0 i1 i2
  go_upto_region 8 with fail
  go_cut [6, 7] (fun s t wc => ∃ Q A B C A' B' C', s = .pointer (some ⟨Q, 0, none⟩) ∧ t = .bool q ∧ St w ((Q, [.slice A N9 C, .slice A' N3 C', .int .i64 rD]) :: [(w.heap.size + 1, [.slice a1 n1 cap1, .slice d1 m1 dap1, .int .i64 D1]), (w.heap.size, [.slice a0 n0 cap0, .slice d0 m0 dap0, .int .i64 D0])]) ((A', B', N3, fun k => .int .i64 (rT k)) :: (A, B, N9, fun k => .int .i64 (rM k)) :: []) wc)
  case first =>
    obtain ⟨G, hG⟩ : ∃ G : Nat → Value → Prop, G = (fun j v => match j with | 0 => v = vFrame D0 a0 n0 cap0 d0 m0 dap0 | 2 => v = vFrame D1 a1 n1 cap1 d1 m1 dap1 | 5 => (∃ x, v = .tuple #[x, .bool q]) | 7 => v = .bool q | 10 => v = .bool q | _ => True) := ⟨_, rfl⟩
    have G0 : Hid (∀ v, G 0 v ↔ v = vFrame D0 a0 n0 cap0 d0 m0 dap0) := fun v => by rw [hG]; exact Iff.rfl
    have G2 : Hid (∀ v, G 2 v ↔ v = vFrame D1 a1 n1 cap1 d1 m1 dap1) := fun v => by rw [hG]; exact Iff.rfl
    have G7 : Hid (∀ v, G 7 v ↔ v = .bool q) := fun v => by rw [hG]; exact Iff.rfl
    have G10 : Hid (∀ v, G 10 v ↔ v = .bool q) := fun v => by rw [hG]; exact Iff.rfl
    have G5 : Hid (∀ x, G 5 (.tuple #[x, .bool q])) := fun x => by rw [hG]; exact ⟨x, rfl⟩
    have G5x : Hid (∀ v, G 5 v → ∃ x, v = .tuple #[x, .bool q]) := fun v h => by rw [hG] at h; exact h
    have G1 : Hid (∀ v, G 1 v) := fun v => by rw [hG]; trivial
    have G3 : Hid (∀ v, G 3 v) := fun v => by rw [hG]; trivial
    have G4 : Hid (∀ v, G 4 v) := fun v => by rw [hG]; trivial
    have G6 : Hid (∀ v, G 6 v) := fun v => by rw [hG]; trivial
    have G8 : Hid (∀ v, G 8 v) := fun v => by rw [hG]; trivial
    have G9 : Hid (∀ v, G 9 v) := fun v => by rw [hG]; trivial
    clear hG
    obtain ⟨fo, hfo⟩ : ∃ fo : Nat → Option FrT, fo = (fun j => match j with | 1 => some (none, n0, m0, D0, f0, g0) | 3 => some (none, n1, m1, D1, f1, g1) | 4 => some (some q, N9, N3, rD, rM, rT) | 5 => some (some q, N9, N3, rD, rM, rT) | 6 => some (none, N9, N3, rD, rM, rT) | _ => none) := ⟨_, rfl⟩
    have O0 : Hid (fo 0 = none) := by rw [hfo]; exact rfl
    have O1 : Hid (fo 1 = some (none, n0, m0, D0, f0, g0)) := by rw [hfo]; exact rfl
    have O2 : Hid (fo 2 = none) := by rw [hfo]; exact rfl
    have O3 : Hid (fo 3 = some (none, n1, m1, D1, f1, g1)) := by rw [hfo]; exact rfl
    have O4 : Hid (fo 4 = some (some q, N9, N3, rD, rM, rT)) := by rw [hfo]; exact rfl
    have O5 : Hid (fo 5 = some (some q, N9, N3, rD, rM, rT)) := by rw [hfo]; exact rfl
    have O6 : Hid (fo 6 = some (none, N9, N3, rD, rM, rT)) := by rw [hfo]; exact rfl
    have O7 : Hid (fo 7 = none) := by rw [hfo]; exact rfl
    have O8 : Hid (fo 8 = none) := by rw [hfo]; exact rfl
    have O9 : Hid (fo 9 = none) := by rw [hfo]; exact rfl
    have O10 : Hid (fo 10 = none) := by rw [hfo]; exact rfl
    clear hfo
    obtain ⟨PX, hPX⟩ : ∃ P : Nat → World → Prop, P = (FrP v2 N9 N3 rD rM rT) := ⟨_, rfl⟩
    have HPX : Hid (∀ (Q : Nat) (wx wy : World), Below wx.heap.size wx wy → PX Q wx → PX Q wy) := by
      intro Q wx wy hb hp
      rw [hPX] at hp ⊢
      exact hp.below hb
    have HPY : Hid (PX = FrP v2 N9 N3 rD rM rT) := hPX
    clear hPX
    refine region_opsU (bR 8 9 (.slice none 0 0) [.slice none 0 0, .int .i64 0] v2) (fF 8 9 v2 G fo PX) (by kernel_rfl) (by kernel_rfl) (by kernel_rfl) ?_ ?_ ?_
    · refine ⟨(Below.refl _ _).drew, fun B hB hBB => ?_⟩
      have h := hB.symm.trans (show _ = undef by kernel_rfl)
      simp [undef] at h
    · refine ⟨?_, ?_, ?_, ?_, ?_, ?_, ?_, ?_, ?_, ?_, ?_, trivial⟩
      ·
        intro u w21 au hau hu hF hp' K hK
        have t2 : au.tmps[2]?.getD undef = .pointer (some ⟨w.heap.size, 0, none⟩) := by rw [hau.out]; kernel_rfl
        obtain ⟨x0, x1, x2⟩ := (HS2.out.next hF.1).im3 1 rfl
        refine step_plain rfl ?_
        go_simp
        exact hK.out (vFrame D0 a0 n0 cap0 d0 m0 dap0) _ (bR_up hF (Below.refl _ _) 0 (by omega) (by omega) _) (fF_val 0 (by omega) (by omega) O0.out ((G0.out _).2 rfl)) (fun j hj hf h => fF_up (fun M hM => HPX.out M _ _ (Below.refl _ _) hM) (Below.refl _ _) 0 (by omega) (by omega) _ j hj h)
      ·
        intro u w21 au hau hu hF hp' K hK
        have h0 : u 0 = vFrame D0 a0 n0 cap0 d0 m0 dap0 := (G0.out _).1 (PreF.get hp' 0 (by kernel_rfl)).1
        have t28 : au.tmps[28]?.getD undef = u 0 := by rw [hau.out]; kernel_rfl
        rw [h0] at t28
        have h7 : u 9 = undef := (hu.out 9 (by decide) (.inr (by kernel_rfl))).trans (by kernel_rfl)
        have c := cT0 w21 (HP0.out.below (HS2.out.next hF.1).below) (HK0.out.below (HS2.out.next hF.1).below)
        refine step_plain rfl ?_
        go_simp
        refine c.mono ?_
        rintro e w22 ⟨bb, dd, rfl, r2, r3, r4, r5, r6, hb9⟩
        exact hK.out (vFrame D0 (some ⟨bb, 0, none⟩) n0 n0 (some ⟨dd, 0, none⟩) m0 m0) _ (bR_up hF hb9 1 (by omega) (by omega) _) (fF_frm 1 (by omega) (by omega) O1.out (G1.out _) (FrB.new hF h7 n0 m0 (.inr ⟨rfl, r3⟩) (.inr ⟨rfl, r5⟩) (.inr r2) (.inr r4) (.inr (.inr r6)))) (fun j hj hf h => fF_up (fun M hM => HPX.out M _ _ hb9 hM) hb9 1 (by omega) (by omega) _ j hj h)
      ·
        intro u w21 au hau hu hF hp' K hK
        have t3 : au.tmps[3]?.getD undef = .pointer (some ⟨w.heap.size + 1, 0, none⟩) := by rw [hau.out]; kernel_rfl
        obtain ⟨x0, x1, x2⟩ := (HS2.out.next hF.1).im3 0 rfl
        refine step_plain rfl ?_
        go_simp
        exact hK.out (vFrame D1 a1 n1 cap1 d1 m1 dap1) _ (bR_up hF (Below.refl _ _) 2 (by omega) (by omega) _) (fF_val 2 (by omega) (by omega) O2.out ((G2.out _).2 rfl)) (fun j hj hf h => fF_up (fun M hM => HPX.out M _ _ (Below.refl _ _) hM) (Below.refl _ _) 2 (by omega) (by omega) _ j hj h)
      ·
        intro u w21 au hau hu hF hp' K hK
        have h2 : u 2 = vFrame D1 a1 n1 cap1 d1 m1 dap1 := (G2.out _).1 (PreF.get hp' 2 (by kernel_rfl)).1
        have t30 : au.tmps[30]?.getD undef = u 2 := by rw [hau.out]; kernel_rfl
        rw [h2] at t30
        have h7 : u 9 = undef := (hu.out 9 (by decide) (.inr (by kernel_rfl))).trans (by kernel_rfl)
        have c := cT1 w21 (HP1.out.below (HS2.out.next hF.1).below) (HK1.out.below (HS2.out.next hF.1).below)
        refine step_plain rfl ?_
        go_simp
        refine c.mono ?_
        rintro e w22 ⟨bb, dd, rfl, r2, r3, r4, r5, r6, hb9⟩
        exact hK.out (vFrame D1 (some ⟨bb, 0, none⟩) n1 n1 (some ⟨dd, 0, none⟩) m1 m1) _ (bR_up hF hb9 3 (by omega) (by omega) _) (fF_frm 3 (by omega) (by omega) O3.out (G3.out _) (FrB.new hF h7 n1 m1 (.inr ⟨rfl, r3⟩) (.inr ⟨rfl, r5⟩) (.inr r2) (.inr r4) (.inr (.inr r6)))) (fun j hj hf h => fF_up (fun M hM => HPX.out M _ _ hb9 hM) hb9 3 (by omega) (by omega) _ j hj h)
      ·
        intro u w21 au hau hu hF hp' K hK
        have h7 : u 9 = undef := (hu.out 9 (by decide) (.inr (by kernel_rfl))).trans (by kernel_rfl)
        obtain ⟨A1, B1, C1, X1, Y1, Z1, e1, r1, s1, hx1, hy1, hz1, hv1⟩ := ((PreF.get hp' 1 (by kernel_rfl)).2.1 _ O1.out).resolve_left (fun hx => hx h7)
        try dsimp only [wrq] at e1
        try dsimp only [wrq] at r1
        try dsimp only [wrq] at s1
        try dsimp only [wrq] at hx1
        try dsimp only [wrq] at hy1
        try dsimp only [wrq] at hz1
        try dsimp only [wrq] at hv1
        have t29 : au.tmps[29]?.getD undef = u 1 := by rw [hau.out]; kernel_rfl
        rw [e1] at t29
        obtain ⟨A3, B3, C3, X3, Y3, Z3, e3, r3, s3, hx3, hy3, hz3, hv3⟩ := ((PreF.get hp' 3 (by kernel_rfl)).2.1 _ O3.out).resolve_left (fun hx => hx h7)
        try dsimp only [wrq] at e3
        try dsimp only [wrq] at r3
        try dsimp only [wrq] at s3
        try dsimp only [wrq] at hx3
        try dsimp only [wrq] at hy3
        try dsimp only [wrq] at hz3
        try dsimp only [wrq] at hv3
        have t31 : au.tmps[31]?.getD undef = u 3 := by rw [hau.out]; kernel_rfl
        rw [e3] at t31
        have c := cS A1 C1 X1 Z1 A3 C3 X3 Z3 w21 (Ow.px r1) (Ow.px s1) (Ow.px r3) (Ow.px s3)
        refine step_plain rfl ?_
        go_simp
        refine c.mono ?_
        rintro e w22 ⟨p0, p1, p2, p3, p4, p5, rfl, p6, p7, p8, p9, p10, hb9⟩
        exact hK.out (.tuple #[vFrame rD p0 N9 p2 p3 N3 p5, .bool q]) _ (bR_up hF hb9 4 (by omega) (by omega) _) (fF_frm 4 (by omega) (by omega) O4.out (G4.out _) (FrB.new hF h7 p2 p5 p6 p7 p8 p9 p10)) (fun j hj hf h => fF_up (fun M hM => HPX.out M _ _ hb9 hM) hb9 4 (by omega) (by omega) _ j hj h)
      ·
        intro u w21 au hau hu hF hp' K hK
        have h7 : u 9 = undef := (hu.out 9 (by decide) (.inr (by kernel_rfl))).trans (by kernel_rfl)
        obtain ⟨A4, B4, C4, X4, Y4, Z4, e4, r4, s4, hx4, hy4, hz4, hv4⟩ := ((PreF.get hp' 4 (by kernel_rfl)).2.1 _ O4.out).resolve_left (fun hx => hx h7)
        try dsimp only [wrq] at e4
        try dsimp only [wrq] at r4
        try dsimp only [wrq] at s4
        try dsimp only [wrq] at hx4
        try dsimp only [wrq] at hy4
        try dsimp only [wrq] at hz4
        try dsimp only [wrq] at hv4
        have t32 : au.tmps[32]?.getD undef = u 4 := by rw [hau.out]; kernel_rfl
        rw [e4] at t32
        refine step_plain rfl ?_
        go_simp
        exact hK.out (.tuple #[vFrame rD A4 N9 C4 X4 N3 Z4, .bool q]) _ (bR_up hF (Below.refl _ _) 5 (by omega) (by omega) _) (fF_frm 5 (by omega) (by omega) O5.out (G5.out _) ⟨A4, B4, C4, X4, Y4, Z4, rfl, r4, s4, hx4, hy4, hz4, hv4⟩) (fun j hj hf h => fF_up (fun M hM => HPX.out M _ _ (Below.refl _ _) hM) (Below.refl _ _) 5 (by omega) (by omega) _ j hj h)
      ·
        intro u w21 au hau hu hF hp' K hK
        have h7 : u 9 = undef := (hu.out 9 (by decide) (.inr (by kernel_rfl))).trans (by kernel_rfl)
        obtain ⟨A5, B5, C5, X5, Y5, Z5, e5, r5, s5, hx5, hy5, hz5, hv5⟩ := ((PreF.get hp' 5 (by kernel_rfl)).2.1 _ O5.out).resolve_left (fun hx => hx h7)
        try dsimp only [wrq] at e5
        try dsimp only [wrq] at r5
        try dsimp only [wrq] at s5
        try dsimp only [wrq] at hx5
        try dsimp only [wrq] at hy5
        try dsimp only [wrq] at hz5
        try dsimp only [wrq] at hv5
        have t27 : au.tmps[27]?.getD undef = u 5 := by rw [hau.out]; kernel_rfl
        rw [e5] at t27
        refine step_plain rfl ?_
        go_simp
        exact hK.out (vFrame rD A5 N9 C5 X5 N3 Z5) _ (bR_up hF (Below.refl _ _) 6 (by omega) (by omega) _) (fF_frm 6 (by omega) (by omega) O6.out (G6.out _) ⟨A5, B5, C5, X5, Y5, Z5, rfl, r5, s5, hx5, hy5, hz5, hv5⟩) (fun j hj hf h => fF_up (fun M hM => HPX.out M _ _ (Below.refl _ _) hM) (Below.refl _ _) 6 (by omega) (by omega) _ j hj h)
      ·
        intro u w21 au hau hu hF hp' K hK
        obtain ⟨tq, htq⟩ := G5x.out _ (PreF.get hp' 5 (by kernel_rfl)).1
        have t27 : au.tmps[27]?.getD undef = u 5 := by rw [hau.out]; kernel_rfl
        rw [htq] at t27
        refine step_plain rfl ?_
        go_simp
        exact hK.out (.bool q) _ (bR_up hF (Below.refl _ _) 7 (by omega) (by omega) _) (fF_val 7 (by omega) (by omega) O7.out ((G7.out _).2 rfl)) (fun j hj hf h => fF_up (fun M hM => HPX.out M _ _ (Below.refl _ _) hM) (Below.refl _ _) 7 (by omega) (by omega) _ j hj h)
      ·
        intro u w21 au hau hu hF hp' K hK
        refine step_plain rfl ?_
        go_simp
        exact hK.out (.pointer (some ⟨w21.heap.size, 0, none⟩)) _ (bR_al hF (Bx.new [.slice none 0 0, .slice none 0 0, .int .i64 0] 26 w21)) (fF_ptr (by omega) (G8.out) O8.out hF.1.size) (fun j hj hf h => fF_al (by omega) _ j hj (fun e => by subst e; exact absurd (Eq.trans (Eq.symm (by kernel_rfl)) hf) Bool.false_ne_true) h)
      ·
        intro u w21 au hau hu hF hp' K hK
        have h7 : u 9 = undef := (hu.out 9 (by decide) (.inl rfl)).trans (by kernel_rfl)
        obtain ⟨A6, B6, C6, X6, Y6, Z6, e6, r6, s6, hx6, hy6, hz6, hv6⟩ := ((PreF.get hp' 6 (by kernel_rfl)).2.1 _ O6.out).resolve_left (fun hx => hx h7)
        try dsimp only [wrq] at e6
        try dsimp only [wrq] at r6
        try dsimp only [wrq] at s6
        try dsimp only [wrq] at hx6
        try dsimp only [wrq] at hy6
        try dsimp only [wrq] at hz6
        try dsimp only [wrq] at hv6
        have t33 : au.tmps[33]?.getD undef = u 6 := by rw [hau.out]; kernel_rfl
        rw [e6] at t33
        obtain ⟨Q, hQ, hQB⟩ := (PreF.get hp' 8 (by kernel_rfl)).2.2.1 rfl
        have t6 : au.tmps[6]?.getD undef = u 8 := by rw [hau.out]; kernel_rfl
        rw [hQ] at t6
        have hx := (hF.2 Q hQ hQB).resolve_left (fun hx => hx h7)
        obtain ⟨c0, k0⟩ := hx 0 _ rfl
        obtain ⟨c1, k1⟩ := hx 1 _ rfl
        obtain ⟨c2, k2⟩ := hx 2 _ rfl
        refine step_plain rfl ?_
        go_simp
        exact hK.out (.bool true) _ (bR_st (below_set3f hF.1 hQB _ _ _) (by simp [undef])) (fF_done (by omega) (G9.out) O9.out hQ hQB (by rw [HPY.out]; exact FrP.stored (A := 8) (u := u) r6 s6 hx6 hy6 hz6 hv6 hQ hx)) (fun j hj hf h => fF_st (by omega) (by simp [undef]) j hj h)
      ·
        intro u w21 au hau hu hF hp' K hK
        have h7 : u 7 = .bool q := (G7.out _).1 (PreF.get hp' 7 (by kernel_rfl)).1
        have t34 : au.tmps[34]?.getD undef = u 7 := by rw [hau.out]; kernel_rfl
        rw [h7] at t34
        refine step_plain rfl ?_
        go_simp
        exact hK.out (.bool q) _ (bR_up hF (Below.refl _ _) 10 (by omega) (by omega) _) (fF_val 10 (by omega) (by omega) O10.out ((G10.out _).2 rfl)) (fun j hj hf h => fF_up (fun M hM => HPX.out M _ _ (Below.refl _ _) hM) (Below.refl _ _) 10 (by omega) (by omega) _ j hj h)
    · intro u w30 hF hall
      obtain ⟨Q, hQ, hQB, hP⟩ := (hall 9 (by decide)).2.2.2 rfl
      rw [HPY.out] at hP
      obtain ⟨A, B, C, A', B', C', hst⟩ := FrP.st HS2.out hF.1 hP hQB
      have hq10 := (G10.out _).1 (hall 10 (by decide)).1
      have HST := hide hst
      clear hF hall hP hst
      simp only [rgPut, Act.put, hQ, hq10]
      clear hQ hq10 hQB
      go_simp
      go_wp2_with fail
      go_meet
      exact ⟨Q, A, B, C, A', B', C', rfl, rfl, HST.out⟩
  case rest =>
    obtain ⟨Qs, As, Bs, Cs, As', Bs', Cs', rfl, rfl, hst⟩ := hcut
    obtain ⟨v3, hwc⟩ : ∃ wn, wn = wc := ⟨_, rfl⟩
    rw [← hwc] at hst
    rw [← hwc]
    have HS3 := hide hst
    clear hst hwc HS2
    obtain ⟨i0, i1, i2⟩ := HS3.out.im3 2 rfl
    go_wp2_with fail
    refine (cT0 _ (HP0.out.below HS3.out.below) (HK0.out.below HS3.out.below)).mono ?_
    rintro e v4 ⟨xb, xe, rfl, h2, hr, h2', hr', hne, hb⟩
    have HS4 := hide (HS3.out.own2 hb hr.v (.inr h2) hr'.v (.inr h2') (.inr (.inr hne)))
    clear HS3 hb hr h2 hr' h2' hne i0 i1 i2
    have HS5 := hide (HS4.out.box [.slice (some ⟨xb, 0, none⟩) n0 n0, .slice (some ⟨xe, 0, none⟩) m0 m0, .int .i64 D0] 26)
    go_upto_region 10 with fail
    generalize hx : World.alloc v4 (.cells [.slice (some ⟨xb, 0, none⟩) n0 n0, .slice (some ⟨xe, 0, none⟩) m0 m0, .int .i64 D0].toArray 26) = v5 at HS5
    have hy' : World.alloc v4 (.cells #[.slice (some ⟨xb, 0, none⟩) n0 n0, .slice (some ⟨xe, 0, none⟩) m0 m0, .int .i64 D0] 26) = v5 := hx
    try rw [hy']
    clear hx hy' HS4
    generalize v4.heap.size = Qx at *
    obtain ⟨i0, i1, i2⟩ := HS5.out.im3 2 rfl
    go_wp2_with fail
    refine (cT1 _ (HP1.out.below HS5.out.below) (HK1.out.below HS5.out.below)).mono ?_
    rintro e v6 ⟨yb, ye, rfl, h2, hr, h2', hr', hne, hb⟩
    have HS6 := hide (HS5.out.own2 hb hr.v (.inr h2) hr'.v (.inr h2') (.inr (.inr hne)))
    clear HS5 hb hr h2 hr' h2' hne i0 i1 i2
    have HS7 := hide (HS6.out.box [.slice (some ⟨yb, 0, none⟩) n1 n1, .slice (some ⟨ye, 0, none⟩) m1 m1, .int .i64 D1] 26)
    go_upto_region 11 with fail
    generalize hx : World.alloc v6 (.cells [.slice (some ⟨yb, 0, none⟩) n1 n1, .slice (some ⟨ye, 0, none⟩) m1 m1, .int .i64 D1].toArray 26) = v7 at HS7
    have hy' : World.alloc v6 (.cells #[.slice (some ⟨yb, 0, none⟩) n1 n1, .slice (some ⟨ye, 0, none⟩) m1 m1, .int .i64 D1] 26) = v7 := hx
    try rw [hy']
    clear hx hy' HS6
    generalize v6.heap.size = Qy at *
    obtain ⟨i0, i1, i2⟩ := HS7.out.im3 1 rfl
    obtain ⟨j0, j1, j2⟩ := HS7.out.im3 0 rfl
    go_wp2_with fail
    refine (cI _ _ _ _ _ _ _ _ _ (HS7.out.nthO 3 rfl).px (HS7.out.nthO 2 rfl).px (HS7.out.nthO 1 rfl).px (HS7.out.nthO 0 rfl).px).mono ?_
    rintro e v8 ⟨Ag, Bg, Cg, Ag', Bg', Cg', rfl, p6, p7, p8, p9, p10, hb⟩
    have HS8 := hide (HS7.out.own2 hb p6.v p8 p7.v p9 p10)
    clear HS7 hb p6 p7 p8 p9 p10
    have HS9 := hide (HS8.out.box [.slice Ag N9 Cg, .slice Ag' N3 Cg', .int .i64 rD] 26)
    go_upto_region 12 with fail
    generalize hx : World.alloc v8 (.cells [.slice Ag N9 Cg, .slice Ag' N3 Cg', .int .i64 rD].toArray 26) = v9 at HS9
    have hy' : World.alloc v8 (.cells #[.slice Ag N9 Cg, .slice Ag' N3 Cg', .int .i64 rD] 26) = v9 := hx
    try rw [hy']
    clear hx hy' HS8
    generalize v8.heap.size = Qg at *
    clear i0 i1 i2 j0 j1 j2
    obtain ⟨i0, i1, i2⟩ := HS9.out.im3 0 rfl
    obtain ⟨j0, j1, j2⟩ := HS9.out.im3 3 rfl
    go_wp2_with fail
    refine (cE _ _ _ _ _ _ _ _ _ (HS9.out.nthO 1 rfl).px (HS9.out.nthO 7 rfl).px (HS9.out.nthO 0 rfl).px (HS9.out.nthO 6 rfl).px).mono ?_
    rintro e v10 ⟨rfl, hb⟩
    have HS10 := hide (HS9.out.next hb)
    clear HS9 hb i0 i1 i2 j0 j1 j2
    obtain ⟨i0, i1, i2⟩ := HS10.out.im3 5 rfl
    obtain ⟨j0, j1, j2⟩ := HS10.out.im3 2 rfl
    go_upto_region 14 with fail
    go_cut [58] (fun s wc => s = .bool false ∧ St w [(Qg, [.slice Ag N9 Cg, .slice Ag' N3 Cg', .int .i64 rD]), (Qy, [.slice (some ⟨yb, 0, none⟩) n1 n1, .slice (some ⟨ye, 0, none⟩) m1 m1, .int .i64 D1]), (Qx, [.slice (some ⟨xb, 0, none⟩) n0 n0, .slice (some ⟨xe, 0, none⟩) m0 m0, .int .i64 D0]), (Qs, [.slice As N9 Cs, .slice As' N3 Cs', .int .i64 rD]), (w.heap.size + 1, [.slice a1 n1 cap1, .slice d1 m1 dap1, .int .i64 D1]), (w.heap.size, [.slice a0 n0 cap0, .slice d0 m0 dap0, .int .i64 D0])] [(Ag', Bg', N3, fun k => .int .i64 (rT k)), (Ag, Bg, N9, fun k => .int .i64 (rM k)), (some ⟨ye, 0, none⟩, ye, m1, fun k => .int .i64 (g1 k)), (some ⟨yb, 0, none⟩, yb, n1, fun k => .int .i64 (f1 k)), (some ⟨xe, 0, none⟩, xe, m0, fun k => .int .i64 (g0 k)), (some ⟨xb, 0, none⟩, xb, n0, fun k => .int .i64 (f0 k)), (As', Bs', N3, fun k => .int .i64 (rT k)), (As, Bs, N9, fun k => .int .i64 (rM k))] wc)
    case first =>
      go_region_with (first
        | (go_at_call 8; (with_reducible refine (cT0 _ (HP0.out.below HS10.out.drew.below) (HK0.out.below HS10.out.drew.below)).mono ?_); rintro e wq ⟨b3, b3e, rfl, -, hr, -, hr', -, hb⟩; have HQ := hide (HS10.out.drew.next hb); obtain ⟨k0, k1, k2⟩ := HQ.out.im3 2 rfl)
        | (go_at_call 10; (with_reducible refine (cA0 _ _ _ _ _ (HQ.out.nthO 5 rfl).px hr.px (HQ.out.nthO 4 rfl).px hr'.px).mono ?_); rintro e wp ⟨rfl, hb11⟩))
      all_goals
        have HST := hide (HQ.out.next hb11)
        clear hb hr hb11 HQ HS10 k0 k1 k2 i0 i1 i2 j0 j1 j2 hr'
        go_wp2_with fail
        go_meet
        exact ⟨rfl, HST.out⟩
    case rest =>
      obtain ⟨rfl, hst⟩ := hcut
      obtain ⟨v11, hwc⟩ : ∃ wn, wn = wc := ⟨_, rfl⟩
      rw [← hwc] at hst
      rw [← hwc]
      have HS11 := hide hst
      clear hst hwc HS10 i0 i1 i2 j0 j1 j2
      obtain ⟨i0, i1, i2⟩ := HS11.out.im3 4 rfl
      obtain ⟨j0, j1, j2⟩ := HS11.out.im3 1 rfl
      go_upto_region 16 with fail
      go_cut [63] (fun s wc => s = .bool false ∧ St w [(Qg, [.slice Ag N9 Cg, .slice Ag' N3 Cg', .int .i64 rD]), (Qy, [.slice (some ⟨yb, 0, none⟩) n1 n1, .slice (some ⟨ye, 0, none⟩) m1 m1, .int .i64 D1]), (Qx, [.slice (some ⟨xb, 0, none⟩) n0 n0, .slice (some ⟨xe, 0, none⟩) m0 m0, .int .i64 D0]), (Qs, [.slice As N9 Cs, .slice As' N3 Cs', .int .i64 rD]), (w.heap.size + 1, [.slice a1 n1 cap1, .slice d1 m1 dap1, .int .i64 D1]), (w.heap.size, [.slice a0 n0 cap0, .slice d0 m0 dap0, .int .i64 D0])] [(Ag', Bg', N3, fun k => .int .i64 (rT k)), (Ag, Bg, N9, fun k => .int .i64 (rM k)), (some ⟨ye, 0, none⟩, ye, m1, fun k => .int .i64 (g1 k)), (some ⟨yb, 0, none⟩, yb, n1, fun k => .int .i64 (f1 k)), (some ⟨xe, 0, none⟩, xe, m0, fun k => .int .i64 (g0 k)), (some ⟨xb, 0, none⟩, xb, n0, fun k => .int .i64 (f0 k)), (As', Bs', N3, fun k => .int .i64 (rT k)), (As, Bs, N9, fun k => .int .i64 (rM k))] wc)
      case first =>
        go_region_with (first
          | (go_at_call 8; (with_reducible refine (cT1 _ (HP1.out.below HS11.out.drew.below) (HK1.out.below HS11.out.drew.below)).mono ?_); rintro e wq ⟨b3, b3e, rfl, -, hr, -, hr', -, hb⟩; have HQ := hide (HS11.out.drew.next hb); obtain ⟨k0, k1, k2⟩ := HQ.out.im3 1 rfl)
          | (go_at_call 10; (with_reducible refine (cA1 _ _ _ _ _ (HQ.out.nthO 3 rfl).px hr.px (HQ.out.nthO 2 rfl).px hr'.px).mono ?_); rintro e wp ⟨rfl, hb11⟩))
        all_goals
          have HST := hide (HQ.out.next hb11)
          clear hb hr hb11 HQ HS11 k0 k1 k2 i0 i1 i2 j0 j1 j2 hr'
          go_wp2_with fail
          go_meet
          exact ⟨rfl, HST.out⟩
      case rest =>
        obtain ⟨rfl, hst⟩ := hcut
        obtain ⟨v12, hwc⟩ : ∃ wn, wn = wc := ⟨_, rfl⟩
        rw [← hwc] at hst
        rw [← hwc]
        have HS12 := hide hst
        clear hst hwc HS11 i0 i1 i2 j0 j1 j2
        obtain ⟨i0, i1, i2⟩ := HS12.out.im3 2 rfl
        go_wp2_with fail
        refine (cM0 _ _ _ (HS12.out.nthO 5 rfl).i (HS12.out.nthO 4 rfl).i (HS12.out.neL 5 4 (by omega) rfl rfl)).mono ?_
        rintro e v13 ⟨rfl, w1', w2', hb, o1, kp1, o2, kp2⟩
        have HS13 : Hid (St w [(Qg, [.slice Ag N9 Cg, .slice Ag' N3 Cg', .int .i64 rD]), (Qy, [.slice (some ⟨yb, 0, none⟩) n1 n1, .slice (some ⟨ye, 0, none⟩) m1 m1, .int .i64 D1]), (Qx, [.slice (some ⟨xb, 0, none⟩) n0 n0, .slice (some ⟨xe, 0, none⟩) m0 m0, .int .i64 D0]), (Qs, [.slice As N9 Cs, .slice As' N3 Cs', .int .i64 rD]), (w.heap.size + 1, [.slice a1 n1 cap1, .slice d1 m1 dap1, .int .i64 D1]), (w.heap.size, [.slice a0 n0 cap0, .slice d0 m0 dap0, .int .i64 D0])] [(Ag', Bg', N3, fun k => .int .i64 (rT k)), (Ag, Bg, N9, fun k => .int .i64 (rM k)), (some ⟨ye, 0, none⟩, ye, m1, fun k => .int .i64 (g1 k)), (some ⟨yb, 0, none⟩, yb, n1, fun k => .int .i64 (f1 k)), (some ⟨xe, 0, none⟩, xe, m0, fun k => .int .i64 (1 + (n0 : Int) + (k : Int))), (some ⟨xb, 0, none⟩, xb, n0, fun k => .int .i64 (1 + (k : Int))), (As', Bs', N3, fun k => .int .i64 (rT k)), (As, Bs, N9, fun k => .int .i64 (rM k))] v13) := ((HS12.out.next hb).mark (O1 := [_, _, _, _, _]) kp1 o1.v).mark (O1 := [_, _, _, _]) kp2 o2.v
        clear HS12 hb o1 kp1 o2 kp2 i0 i1 i2
        obtain ⟨i0, i1, i2⟩ := HS13.out.im3 1 rfl
        go_wp2_with fail
        refine (cM1 _ _ _ (HS13.out.nthO 3 rfl).i (HS13.out.nthO 2 rfl).i (HS13.out.neL 3 2 (by omega) rfl rfl)).mono ?_
        rintro e v14 ⟨rfl, w1', w2', hb, o1, kp1, o2, kp2⟩
        have HS14 : Hid (St w [(Qg, [.slice Ag N9 Cg, .slice Ag' N3 Cg', .int .i64 rD]), (Qy, [.slice (some ⟨yb, 0, none⟩) n1 n1, .slice (some ⟨ye, 0, none⟩) m1 m1, .int .i64 D1]), (Qx, [.slice (some ⟨xb, 0, none⟩) n0 n0, .slice (some ⟨xe, 0, none⟩) m0 m0, .int .i64 D0]), (Qs, [.slice As N9 Cs, .slice As' N3 Cs', .int .i64 rD]), (w.heap.size + 1, [.slice a1 n1 cap1, .slice d1 m1 dap1, .int .i64 D1]), (w.heap.size, [.slice a0 n0 cap0, .slice d0 m0 dap0, .int .i64 D0])] [(Ag', Bg', N3, fun k => .int .i64 (rT k)), (Ag, Bg, N9, fun k => .int .i64 (rM k)), (some ⟨ye, 0, none⟩, ye, m1, fun k => .int .i64 (1 + (n0 : Int) + (m0 : Int) + (n1 : Int) + (k : Int))), (some ⟨yb, 0, none⟩, yb, n1, fun k => .int .i64 (1 + (n0 : Int) + (m0 : Int) + (k : Int))), (some ⟨xe, 0, none⟩, xe, m0, fun k => .int .i64 (1 + (n0 : Int) + (k : Int))), (some ⟨xb, 0, none⟩, xb, n0, fun k => .int .i64 (1 + (k : Int))), (As', Bs', N3, fun k => .int .i64 (rT k)), (As, Bs, N9, fun k => .int .i64 (rM k))] v14) := ((HS13.out.next hb).mark (O1 := [_, _, _]) kp1 o1.v).mark (O1 := [_, _]) kp2 o2.v
        clear HS13 hb o1 kp1 o2 kp2 i0 i1 i2
        obtain ⟨i0, i1, i2⟩ := HS14.out.im3 0 rfl
        obtain ⟨j0, j1, j2⟩ := HS14.out.im3 3 rfl
        go_wp2_with fail
        refine (cE _ _ _ _ _ _ _ _ _ (HS14.out.nthO 1 rfl).px (HS14.out.nthO 7 rfl).px (HS14.out.nthO 0 rfl).px (HS14.out.nthO 6 rfl).px).mono ?_
        rintro e v15 ⟨rfl, hb⟩
        have HS15 := hide (HS14.out.next hb)
        clear HS14 hb i0 i1 i2 j0 j1 j2
        obtain ⟨i0, i1, i2⟩ := HS15.out.im3 0 rfl
        go_wp2_with fail
        refine (cMg _ _ _ _ _ _ _ (HS15.out.nthO 1 rfl).i (HS15.out.nthO 0 rfl).i (HS15.out.neL 1 0 (by omega) rfl rfl)).mono ?_
        rintro e v16 ⟨rfl, w1', w2', hb, o1, kp1, o2, kp2⟩
        have HS16 : Hid (St w [(Qg, [.slice Ag N9 Cg, .slice Ag' N3 Cg', .int .i64 rD]), (Qy, [.slice (some ⟨yb, 0, none⟩) n1 n1, .slice (some ⟨ye, 0, none⟩) m1 m1, .int .i64 D1]), (Qx, [.slice (some ⟨xb, 0, none⟩) n0 n0, .slice (some ⟨xe, 0, none⟩) m0 m0, .int .i64 D0]), (Qs, [.slice As N9 Cs, .slice As' N3 Cs', .int .i64 rD]), (w.heap.size + 1, [.slice a1 n1 cap1, .slice d1 m1 dap1, .int .i64 D1]), (w.heap.size, [.slice a0 n0 cap0, .slice d0 m0 dap0, .int .i64 D0])] [(Ag', Bg', N3, fun k => .int .i64 (1 + (N9 : Int) + (k : Int))), (Ag, Bg, N9, fun k => .int .i64 (1 + (k : Int))), (some ⟨ye, 0, none⟩, ye, m1, fun k => .int .i64 (1 + (n0 : Int) + (m0 : Int) + (n1 : Int) + (k : Int))), (some ⟨yb, 0, none⟩, yb, n1, fun k => .int .i64 (1 + (n0 : Int) + (m0 : Int) + (k : Int))), (some ⟨xe, 0, none⟩, xe, m0, fun k => .int .i64 (1 + (n0 : Int) + (k : Int))), (some ⟨xb, 0, none⟩, xb, n0, fun k => .int .i64 (1 + (k : Int))), (As', Bs', N3, fun k => .int .i64 (rT k)), (As, Bs, N9, fun k => .int .i64 (rM k))] v16) := ((HS15.out.next hb).mark (O1 := [_]) kp1 o1.v).mark (O1 := []) kp2 o2.v
        clear HS15 hb o1 kp1 o2 kp2 i0 i1 i2
        obtain ⟨i0, i1, i2⟩ := HS16.out.im3 0 rfl
        go_wp2_with fail
        refine (cHg _ _ _ _ _ _ _ (HS16.out.nthO 1 rfl).i (HS16.out.nthO 0 rfl).i).mono ?_
        rintro e v17 ⟨rfl, hb⟩
        have HS17 := hide (HS16.out.next hb)
        clear HS16 hb i0 i1 i2
        go_upto_region 31 with fail
        go_cut [15, 16] (fun s t wc => ∃ Q A B C A' B' C', s = .pointer (some ⟨Q, 0, none⟩) ∧ t = .bool q ∧ St w ((Q, [.slice A N9 C, .slice A' N3 C', .int .i64 rD]) :: [(Qg, [.slice Ag N9 Cg, .slice Ag' N3 Cg', .int .i64 rD]), (Qy, [.slice (some ⟨yb, 0, none⟩) n1 n1, .slice (some ⟨ye, 0, none⟩) m1 m1, .int .i64 D1]), (Qx, [.slice (some ⟨xb, 0, none⟩) n0 n0, .slice (some ⟨xe, 0, none⟩) m0 m0, .int .i64 D0]), (Qs, [.slice As N9 Cs, .slice As' N3 Cs', .int .i64 rD]), (w.heap.size + 1, [.slice a1 n1 cap1, .slice d1 m1 dap1, .int .i64 D1]), (w.heap.size, [.slice a0 n0 cap0, .slice d0 m0 dap0, .int .i64 D0])]) ((A', B', N3, fun k => .int .i64 (rT k)) :: (A, B, N9, fun k => .int .i64 (rM k)) :: [(Ag', Bg', N3, fun k => .int .i64 (1 + (N9 : Int) + (k : Int))), (Ag, Bg, N9, fun k => .int .i64 (1 + (k : Int))), (some ⟨ye, 0, none⟩, ye, m1, fun k => .int .i64 (1 + (n0 : Int) + (m0 : Int) + (n1 : Int) + (k : Int))), (some ⟨yb, 0, none⟩, yb, n1, fun k => .int .i64 (1 + (n0 : Int) + (m0 : Int) + (k : Int))), (some ⟨xe, 0, none⟩, xe, m0, fun k => .int .i64 (1 + (n0 : Int) + (k : Int))), (some ⟨xb, 0, none⟩, xb, n0, fun k => .int .i64 (1 + (k : Int))), (As', Bs', N3, fun k => .int .i64 (rT k)), (As, Bs, N9, fun k => .int .i64 (rM k))]) wc)
        case first =>
          obtain ⟨G, hG⟩ : ∃ G : Nat → Value → Prop, G = (fun j v => match j with | 0 => v = vFrame D0 a0 n0 cap0 d0 m0 dap0 | 2 => v = vFrame D1 a1 n1 cap1 d1 m1 dap1 | 5 => (∃ x, v = .tuple #[x, .bool q]) | 7 => v = .bool q | 10 => v = .bool q | _ => True) := ⟨_, rfl⟩
          have G0 : Hid (∀ v, G 0 v ↔ v = vFrame D0 a0 n0 cap0 d0 m0 dap0) := fun v => by rw [hG]; exact Iff.rfl
          have G2 : Hid (∀ v, G 2 v ↔ v = vFrame D1 a1 n1 cap1 d1 m1 dap1) := fun v => by rw [hG]; exact Iff.rfl
          have G7 : Hid (∀ v, G 7 v ↔ v = .bool q) := fun v => by rw [hG]; exact Iff.rfl
          have G10 : Hid (∀ v, G 10 v ↔ v = .bool q) := fun v => by rw [hG]; exact Iff.rfl
          have G5 : Hid (∀ x, G 5 (.tuple #[x, .bool q])) := fun x => by rw [hG]; exact ⟨x, rfl⟩
          have G5x : Hid (∀ v, G 5 v → ∃ x, v = .tuple #[x, .bool q]) := fun v h => by rw [hG] at h; exact h
          have G1 : Hid (∀ v, G 1 v) := fun v => by rw [hG]; trivial
          have G3 : Hid (∀ v, G 3 v) := fun v => by rw [hG]; trivial
          have G4 : Hid (∀ v, G 4 v) := fun v => by rw [hG]; trivial
          have G6 : Hid (∀ v, G 6 v) := fun v => by rw [hG]; trivial
          have G8 : Hid (∀ v, G 8 v) := fun v => by rw [hG]; trivial
          have G9 : Hid (∀ v, G 9 v) := fun v => by rw [hG]; trivial
          clear hG
          obtain ⟨fo, hfo⟩ : ∃ fo : Nat → Option FrT, fo = (fun j => match j with | 1 => some (none, n0, m0, D0, f0, g0) | 3 => some (none, n1, m1, D1, f1, g1) | 4 => some (some q, N9, N3, rD, rM, rT) | 5 => some (some q, N9, N3, rD, rM, rT) | 6 => some (none, N9, N3, rD, rM, rT) | _ => none) := ⟨_, rfl⟩
          have O0 : Hid (fo 0 = none) := by rw [hfo]; exact rfl
          have O1 : Hid (fo 1 = some (none, n0, m0, D0, f0, g0)) := by rw [hfo]; exact rfl
          have O2 : Hid (fo 2 = none) := by rw [hfo]; exact rfl
          have O3 : Hid (fo 3 = some (none, n1, m1, D1, f1, g1)) := by rw [hfo]; exact rfl
          have O4 : Hid (fo 4 = some (some q, N9, N3, rD, rM, rT)) := by rw [hfo]; exact rfl
          have O5 : Hid (fo 5 = some (some q, N9, N3, rD, rM, rT)) := by rw [hfo]; exact rfl
          have O6 : Hid (fo 6 = some (none, N9, N3, rD, rM, rT)) := by rw [hfo]; exact rfl
          have O7 : Hid (fo 7 = none) := by rw [hfo]; exact rfl
          have O8 : Hid (fo 8 = none) := by rw [hfo]; exact rfl
          have O9 : Hid (fo 9 = none) := by rw [hfo]; exact rfl
          have O10 : Hid (fo 10 = none) := by rw [hfo]; exact rfl
          clear hfo
          obtain ⟨PX, hPX⟩ : ∃ P : Nat → World → Prop, P = (FrP v17 N9 N3 rD rM rT) := ⟨_, rfl⟩
          have HPX : Hid (∀ (Q : Nat) (wx wy : World), Below wx.heap.size wx wy → PX Q wx → PX Q wy) := by
            intro Q wx wy hb hp
            rw [hPX] at hp ⊢
            exact hp.below hb
          have HPY : Hid (PX = FrP v17 N9 N3 rD rM rT) := hPX
          clear hPX
          refine region_opsU (bR 8 9 (.slice none 0 0) [.slice none 0 0, .int .i64 0] v17) (fF 8 9 v17 G fo PX) (by kernel_rfl) (by kernel_rfl) (by kernel_rfl) ?_ ?_ ?_
          · refine ⟨(Below.refl _ _).drew, fun B hB hBB => ?_⟩
            have h := hB.symm.trans (show _ = undef by kernel_rfl)
            simp [undef] at h
          · refine ⟨?_, ?_, ?_, ?_, ?_, ?_, ?_, ?_, ?_, ?_, ?_, trivial⟩
            ·
              intro u w21 au hau hu hF hp' K hK
              have t2 : au.tmps[2]?.getD undef = .pointer (some ⟨w.heap.size, 0, none⟩) := by rw [hau.out]; kernel_rfl
              obtain ⟨x0, x1, x2⟩ := (HS17.out.next hF.1).im3 5 rfl
              refine step_plain rfl ?_
              go_simp
              exact hK.out (vFrame D0 a0 n0 cap0 d0 m0 dap0) _ (bR_up hF (Below.refl _ _) 0 (by omega) (by omega) _) (fF_val 0 (by omega) (by omega) O0.out ((G0.out _).2 rfl)) (fun j hj hf h => fF_up (fun M hM => HPX.out M _ _ (Below.refl _ _) hM) (Below.refl _ _) 0 (by omega) (by omega) _ j hj h)
            ·
              intro u w21 au hau hu hF hp' K hK
              have h0 : u 0 = vFrame D0 a0 n0 cap0 d0 m0 dap0 := (G0.out _).1 (PreF.get hp' 0 (by kernel_rfl)).1
              have t95 : au.tmps[95]?.getD undef = u 0 := by rw [hau.out]; kernel_rfl
              rw [h0] at t95
              have h7 : u 9 = undef := (hu.out 9 (by decide) (.inr (by kernel_rfl))).trans (by kernel_rfl)
              have c := cT0 w21 (HP0.out.below (HS17.out.next hF.1).below) (HK0.out.below (HS17.out.next hF.1).below)
              refine step_plain rfl ?_
              go_simp
              refine c.mono ?_
              rintro e w22 ⟨bb, dd, rfl, r2, r3, r4, r5, r6, hb9⟩
              exact hK.out (vFrame D0 (some ⟨bb, 0, none⟩) n0 n0 (some ⟨dd, 0, none⟩) m0 m0) _ (bR_up hF hb9 1 (by omega) (by omega) _) (fF_frm 1 (by omega) (by omega) O1.out (G1.out _) (FrB.new hF h7 n0 m0 (.inr ⟨rfl, r3⟩) (.inr ⟨rfl, r5⟩) (.inr r2) (.inr r4) (.inr (.inr r6)))) (fun j hj hf h => fF_up (fun M hM => HPX.out M _ _ hb9 hM) hb9 1 (by omega) (by omega) _ j hj h)
            ·
              intro u w21 au hau hu hF hp' K hK
              have t3 : au.tmps[3]?.getD undef = .pointer (some ⟨w.heap.size + 1, 0, none⟩) := by rw [hau.out]; kernel_rfl
              obtain ⟨x0, x1, x2⟩ := (HS17.out.next hF.1).im3 4 rfl
              refine step_plain rfl ?_
              go_simp
              exact hK.out (vFrame D1 a1 n1 cap1 d1 m1 dap1) _ (bR_up hF (Below.refl _ _) 2 (by omega) (by omega) _) (fF_val 2 (by omega) (by omega) O2.out ((G2.out _).2 rfl)) (fun j hj hf h => fF_up (fun M hM => HPX.out M _ _ (Below.refl _ _) hM) (Below.refl _ _) 2 (by omega) (by omega) _ j hj h)
            ·
              intro u w21 au hau hu hF hp' K hK
              have h2 : u 2 = vFrame D1 a1 n1 cap1 d1 m1 dap1 := (G2.out _).1 (PreF.get hp' 2 (by kernel_rfl)).1
              have t97 : au.tmps[97]?.getD undef = u 2 := by rw [hau.out]; kernel_rfl
              rw [h2] at t97
              have h7 : u 9 = undef := (hu.out 9 (by decide) (.inr (by kernel_rfl))).trans (by kernel_rfl)
              have c := cT1 w21 (HP1.out.below (HS17.out.next hF.1).below) (HK1.out.below (HS17.out.next hF.1).below)
              refine step_plain rfl ?_
              go_simp
              refine c.mono ?_
              rintro e w22 ⟨bb, dd, rfl, r2, r3, r4, r5, r6, hb9⟩
              exact hK.out (vFrame D1 (some ⟨bb, 0, none⟩) n1 n1 (some ⟨dd, 0, none⟩) m1 m1) _ (bR_up hF hb9 3 (by omega) (by omega) _) (fF_frm 3 (by omega) (by omega) O3.out (G3.out _) (FrB.new hF h7 n1 m1 (.inr ⟨rfl, r3⟩) (.inr ⟨rfl, r5⟩) (.inr r2) (.inr r4) (.inr (.inr r6)))) (fun j hj hf h => fF_up (fun M hM => HPX.out M _ _ hb9 hM) hb9 3 (by omega) (by omega) _ j hj h)
            ·
              intro u w21 au hau hu hF hp' K hK
              have h7 : u 9 = undef := (hu.out 9 (by decide) (.inr (by kernel_rfl))).trans (by kernel_rfl)
              obtain ⟨A1, B1, C1, X1, Y1, Z1, e1, r1, s1, hx1, hy1, hz1, hv1⟩ := ((PreF.get hp' 1 (by kernel_rfl)).2.1 _ O1.out).resolve_left (fun hx => hx h7)
              try dsimp only [wrq] at e1
              try dsimp only [wrq] at r1
              try dsimp only [wrq] at s1
              try dsimp only [wrq] at hx1
              try dsimp only [wrq] at hy1
              try dsimp only [wrq] at hz1
              try dsimp only [wrq] at hv1
              have t96 : au.tmps[96]?.getD undef = u 1 := by rw [hau.out]; kernel_rfl
              rw [e1] at t96
              obtain ⟨A3, B3, C3, X3, Y3, Z3, e3, r3, s3, hx3, hy3, hz3, hv3⟩ := ((PreF.get hp' 3 (by kernel_rfl)).2.1 _ O3.out).resolve_left (fun hx => hx h7)
              try dsimp only [wrq] at e3
              try dsimp only [wrq] at r3
              try dsimp only [wrq] at s3
              try dsimp only [wrq] at hx3
              try dsimp only [wrq] at hy3
              try dsimp only [wrq] at hz3
              try dsimp only [wrq] at hv3
              have t98 : au.tmps[98]?.getD undef = u 3 := by rw [hau.out]; kernel_rfl
              rw [e3] at t98
              have c := cI A1 C1 X1 Z1 A3 C3 X3 Z3 w21 (Ow.px r1) (Ow.px s1) (Ow.px r3) (Ow.px s3)
              refine step_plain rfl ?_
              go_simp
              refine c.mono ?_
              rintro e w22 ⟨p0, p1, p2, p3, p4, p5, rfl, p6, p7, p8, p9, p10, hb9⟩
              exact hK.out (.tuple #[vFrame rD p0 N9 p2 p3 N3 p5, .bool q]) _ (bR_up hF hb9 4 (by omega) (by omega) _) (fF_frm 4 (by omega) (by omega) O4.out (G4.out _) (FrB.new hF h7 p2 p5 p6 p7 p8 p9 p10)) (fun j hj hf h => fF_up (fun M hM => HPX.out M _ _ hb9 hM) hb9 4 (by omega) (by omega) _ j hj h)
            ·
              intro u w21 au hau hu hF hp' K hK
              have h7 : u 9 = undef := (hu.out 9 (by decide) (.inr (by kernel_rfl))).trans (by kernel_rfl)
              obtain ⟨A4, B4, C4, X4, Y4, Z4, e4, r4, s4, hx4, hy4, hz4, hv4⟩ := ((PreF.get hp' 4 (by kernel_rfl)).2.1 _ O4.out).resolve_left (fun hx => hx h7)
              try dsimp only [wrq] at e4
              try dsimp only [wrq] at r4
              try dsimp only [wrq] at s4
              try dsimp only [wrq] at hx4
              try dsimp only [wrq] at hy4
              try dsimp only [wrq] at hz4
              try dsimp only [wrq] at hv4
              have t99 : au.tmps[99]?.getD undef = u 4 := by rw [hau.out]; kernel_rfl
              rw [e4] at t99
              refine step_plain rfl ?_
              go_simp
              exact hK.out (.tuple #[vFrame rD A4 N9 C4 X4 N3 Z4, .bool q]) _ (bR_up hF (Below.refl _ _) 5 (by omega) (by omega) _) (fF_frm 5 (by omega) (by omega) O5.out (G5.out _) ⟨A4, B4, C4, X4, Y4, Z4, rfl, r4, s4, hx4, hy4, hz4, hv4⟩) (fun j hj hf h => fF_up (fun M hM => HPX.out M _ _ (Below.refl _ _) hM) (Below.refl _ _) 5 (by omega) (by omega) _ j hj h)
            ·
              intro u w21 au hau hu hF hp' K hK
              have h7 : u 9 = undef := (hu.out 9 (by decide) (.inr (by kernel_rfl))).trans (by kernel_rfl)
              obtain ⟨A5, B5, C5, X5, Y5, Z5, e5, r5, s5, hx5, hy5, hz5, hv5⟩ := ((PreF.get hp' 5 (by kernel_rfl)).2.1 _ O5.out).resolve_left (fun hx => hx h7)
              try dsimp only [wrq] at e5
              try dsimp only [wrq] at r5
              try dsimp only [wrq] at s5
              try dsimp only [wrq] at hx5
              try dsimp only [wrq] at hy5
              try dsimp only [wrq] at hz5
              try dsimp only [wrq] at hv5
              have t94 : au.tmps[94]?.getD undef = u 5 := by rw [hau.out]; kernel_rfl
              rw [e5] at t94
              refine step_plain rfl ?_
              go_simp
              exact hK.out (vFrame rD A5 N9 C5 X5 N3 Z5) _ (bR_up hF (Below.refl _ _) 6 (by omega) (by omega) _) (fF_frm 6 (by omega) (by omega) O6.out (G6.out _) ⟨A5, B5, C5, X5, Y5, Z5, rfl, r5, s5, hx5, hy5, hz5, hv5⟩) (fun j hj hf h => fF_up (fun M hM => HPX.out M _ _ (Below.refl _ _) hM) (Below.refl _ _) 6 (by omega) (by omega) _ j hj h)
            ·
              intro u w21 au hau hu hF hp' K hK
              obtain ⟨tq, htq⟩ := G5x.out _ (PreF.get hp' 5 (by kernel_rfl)).1
              have t94 : au.tmps[94]?.getD undef = u 5 := by rw [hau.out]; kernel_rfl
              rw [htq] at t94
              refine step_plain rfl ?_
              go_simp
              exact hK.out (.bool q) _ (bR_up hF (Below.refl _ _) 7 (by omega) (by omega) _) (fF_val 7 (by omega) (by omega) O7.out ((G7.out _).2 rfl)) (fun j hj hf h => fF_up (fun M hM => HPX.out M _ _ (Below.refl _ _) hM) (Below.refl _ _) 7 (by omega) (by omega) _ j hj h)
            ·
              intro u w21 au hau hu hF hp' K hK
              refine step_plain rfl ?_
              go_simp
              exact hK.out (.pointer (some ⟨w21.heap.size, 0, none⟩)) _ (bR_al hF (Bx.new [.slice none 0 0, .slice none 0 0, .int .i64 0] 26 w21)) (fF_ptr (by omega) (G8.out) O8.out hF.1.size) (fun j hj hf h => fF_al (by omega) _ j hj (fun e => by subst e; exact absurd (Eq.trans (Eq.symm (by kernel_rfl)) hf) Bool.false_ne_true) h)
            ·
              intro u w21 au hau hu hF hp' K hK
              have h7 : u 9 = undef := (hu.out 9 (by decide) (.inl rfl)).trans (by kernel_rfl)
              obtain ⟨A6, B6, C6, X6, Y6, Z6, e6, r6, s6, hx6, hy6, hz6, hv6⟩ := ((PreF.get hp' 6 (by kernel_rfl)).2.1 _ O6.out).resolve_left (fun hx => hx h7)
              try dsimp only [wrq] at e6
              try dsimp only [wrq] at r6
              try dsimp only [wrq] at s6
              try dsimp only [wrq] at hx6
              try dsimp only [wrq] at hy6
              try dsimp only [wrq] at hz6
              try dsimp only [wrq] at hv6
              have t100 : au.tmps[100]?.getD undef = u 6 := by rw [hau.out]; kernel_rfl
              rw [e6] at t100
              obtain ⟨Q, hQ, hQB⟩ := (PreF.get hp' 8 (by kernel_rfl)).2.2.1 rfl
              have t15 : au.tmps[15]?.getD undef = u 8 := by rw [hau.out]; kernel_rfl
              rw [hQ] at t15
              have hx := (hF.2 Q hQ hQB).resolve_left (fun hx => hx h7)
              obtain ⟨c0, k0⟩ := hx 0 _ rfl
              obtain ⟨c1, k1⟩ := hx 1 _ rfl
              obtain ⟨c2, k2⟩ := hx 2 _ rfl
              refine step_plain rfl ?_
              go_simp
              exact hK.out (.bool true) _ (bR_st (below_set3f hF.1 hQB _ _ _) (by simp [undef])) (fF_done (by omega) (G9.out) O9.out hQ hQB (by rw [HPY.out]; exact FrP.stored (A := 8) (u := u) r6 s6 hx6 hy6 hz6 hv6 hQ hx)) (fun j hj hf h => fF_st (by omega) (by simp [undef]) j hj h)
            ·
              intro u w21 au hau hu hF hp' K hK
              have h7 : u 7 = .bool q := (G7.out _).1 (PreF.get hp' 7 (by kernel_rfl)).1
              have t101 : au.tmps[101]?.getD undef = u 7 := by rw [hau.out]; kernel_rfl
              rw [h7] at t101
              refine step_plain rfl ?_
              go_simp
              exact hK.out (.bool q) _ (bR_up hF (Below.refl _ _) 10 (by omega) (by omega) _) (fF_val 10 (by omega) (by omega) O10.out ((G10.out _).2 rfl)) (fun j hj hf h => fF_up (fun M hM => HPX.out M _ _ (Below.refl _ _) hM) (Below.refl _ _) 10 (by omega) (by omega) _ j hj h)
          · intro u w30 hF hall
            obtain ⟨Q, hQ, hQB, hP⟩ := (hall 9 (by decide)).2.2.2 rfl
            rw [HPY.out] at hP
            obtain ⟨A, B, C, A', B', C', hst⟩ := FrP.st HS17.out hF.1 hP hQB
            have hq10 := (G10.out _).1 (hall 10 (by decide)).1
            have HST := hide hst
            clear hF hall hP hst
            simp only [rgPut, Act.put, hQ, hq10]
            clear hQ hq10 hQB
            go_simp
            go_wp2_with fail
            go_meet
            exact ⟨Q, A, B, C, A', B', C', rfl, rfl, HST.out⟩
        case rest =>
          obtain ⟨Qt, At, Bt, Ct, At', Bt', Ct', rfl, rfl, hst⟩ := hcut
          obtain ⟨v18, hwc⟩ : ∃ wn, wn = wc := ⟨_, rfl⟩
          rw [← hwc] at hst
          rw [← hwc]
          have HS18 := hide hst
          clear hst hwc HS17
          obtain ⟨i0, i1, i2⟩ := HS18.out.im3 0 rfl
          obtain ⟨j0, j1, j2⟩ := HS18.out.im3 4 rfl
          go_wp2_with fail
          refine (cE _ _ _ _ _ _ _ _ _ (HS18.out.nthO 1 rfl).px (HS18.out.nthO 9 rfl).px (HS18.out.nthO 0 rfl).px (HS18.out.nthO 8 rfl).px).mono ?_
          rintro e v19 ⟨rfl, hb⟩
          have HS19 := hide (HS18.out.next hb)
          clear HS18 hb i0 i1 i2 j0 j1 j2
          obtain ⟨i0, i1, i2⟩ := HS19.out.im3 1 rfl
          go_wp2_with fail
          refine (cHg _ _ _ _ _ _ _ (HS19.out.nthO 3 rfl).i (HS19.out.nthO 2 rfl).i).mono ?_
          rintro e v20 ⟨rfl, hb⟩
          have HS20 := hide (HS19.out.next hb)
          clear HS19 hb i0 i1 i2
          have HB := hide HS20.out.below
          clear HS20
          go_wp2_with fail
          go_ret
          exact ⟨rfl, HB.out⟩

end Go.Proofs.Ytedhaakjgnpehaa

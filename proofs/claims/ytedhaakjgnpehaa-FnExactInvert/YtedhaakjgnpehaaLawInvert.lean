/- The law on Invert, walked. -/
import Derived.Test.YtedhaakjgnpehaaIvs
import Derived.Test.YtedhaakjgnpehaaIvi
import Derived.Test.YtedhaakjgnpehaaBxf
import Derived.Deep.RegionHeld3
import Derived.Deep.DrawnRows
namespace Go.Proofs.Ytedhaakjgnpehaa
open Go.RowKit

set_option maxRecDepth 100000 in
set_option maxHeartbeats 8000000 in
theorem fnExactInvert_walk (D0 : Int) (a0 : Option Addr) (n0 cap0 : Nat) (f0 : Nat → Int) (hl0 : n0 ≤ maxLen) (d0 : Option Addr) (m0 dap0 : Nat) (g0 : Nat → Int) (hm0 : m0 ≤ maxLen) (w : World) (h0 : Px a0 (n0) f0 w) (k0 : Px d0 m0 g0 w) :
    Calls Try.prog 4 #[vFrame D0 a0 n0 cap0 d0 m0 dap0] w fun e w' => e = .returned (.bool true) ∧ Below w.heap.size w w' := by
  unfold maxLen at hl0 hm0
  have HS0 := hide ((St.start w).box [.slice a0 n0 cap0, .slice d0 m0 dap0, .int .i64 D0] 24)
  have HP0 := hide h0
  have HK0 := hide k0
  clear h0 k0
  have hz0 := szFrame_any D0 a0 n0 cap0 d0 m0 dap0 (1048576) (by omega) (by omega) (by omega) (by omega)
  by_cases hb0 : (1048576 : Int) < ((n0 : Int) + (m0 : Int))
  · rw [if_pos hb0] at hz0
    clear hb0 hl0 hm0
    go_enter Try.func4, Try.ntmps4
    go_wp2_with fail
    refine (hz0 _).mono ?_
    rintro e wz0 ⟨rfl, hb⟩
    have HZ0 := hide (HS0.out.next hb)
    clear hb
    have HB := hide HZ0.out.below
    go_wp2_with fail
    go_ret
    exact ⟨rfl, HB.out⟩
  rw [if_neg hb0] at hz0
  have hn0 : ¬ (1048576 - ((n0 : Int) + (m0 : Int)) : Int) < 0 := by omega
  have hL0 : n0 ≤ 1048576 := by omega
  have hM0 : m0 ≤ 1048576 := by omega
  have hN : n0 + m0 ≤ 1048576 := by omega
  have cT0 := fun w' h k => toFrame_any D0 a0 n0 cap0 f0 hL0 d0 m0 dap0 g0 hM0 w' h k
  have cA0 := fun b b' d d' w' h h' k k' => eqFrame_any D0 (some ⟨b, 0, none⟩) (some ⟨b', 0, none⟩) n0 n0 n0 f0 hL0 (some ⟨d, 0, none⟩) (some ⟨d', 0, none⟩) m0 m0 m0 g0 hM0 w' h h' k k'
  have cM0 := fun b e => markFrame_any D0 (some ⟨b, 0, none⟩) b n0 n0 f0 hL0 (some ⟨e, 0, none⟩) e m0 m0 g0 hM0 (1) (by omega) (by omega)
  have hkk : ¬ (1 + (n0 : Int) + (m0 : Int) : Int) < 0 := by omega
  have cS := fun b0 c0 e0 o0 w' h0 k0 => (specInvert_any D0 b0 n0 c0 f0 hL0 e0 m0 o0 g0 hM0 w' h0 k0).mono (fun e wx h => FrX.u h)
  have cI := fun b0 c0 e0 o0 w' h0 k0 => (implInvert_any D0 b0 n0 c0 f0 hL0 e0 m0 o0 g0 hM0 w' h0 k0).mono (fun e wx h => FrX.u h)
  generalize ivQ D0 n0 f0 m0 g0 = q at *
  have hrn := qn_le q 9
  have hrm := qn_le q 3
  generalize qD q (ivD D0 f0 g0) = rD at *
  generalize ivM D0 f0 g0 = rM at *
  generalize ivT D0 f0 g0 = rT at *
  generalize qn q 9 = N9 at *
  generalize qn q 3 = N3 at *
  have cE := fun a a' c c' b b' d d' => eqFrame_any rD a a' N9 c c' rM (by omega) b b' N3 d d' rT (by omega)
  have cMg := fun a b c a' b' c' => markFrame_any rD a b N9 c rM (by omega) a' b' N3 c' rT (by omega) 1 (by omega) (by omega)
  have cHg := fun a b c a' b' c' => heldFrame_any rD a b N9 c (by omega) a' b' N3 c' (by omega) 1 (by omega) (by omega)
  have hk9 : ¬ (1 + (N9 : Int) + (N3 : Int)) < 0 := by omega
  have qb : (q != q) = false := by cases q <;> rfl
  have HN := hide (And.intro hrn hrm)
  clear hl0 hm0 hN hrn hrm
  go_enter Try.func4, Try.ntmps4
  go_wp2_with fail
  refine (hz0 _).mono ?_
  rintro e v1 ⟨rfl, hb⟩
  have HS1 := hide (HS0.out.next hb)
  clear HS0 hb hz0
  obtain ⟨i0, i1, i2⟩ := HS1.out.im3 0 rfl
  go_wp2_with fail
  refine (cT0 _ (HP0.out.below HS1.out.below) (HK0.out.below HS1.out.below)).mono ?_
  rintro e v2 ⟨zb, ze, rfl, h2, hr, h2', hr', hne, hb⟩
  have HS2 := hide (HS1.out.own2 hb hr.v (.inr h2) hr'.v (.inr h2') (.inr (.inr hne)))
  clear HS1 hb hr h2 hr' h2' hne i0 i1 i2
  go_wp2_with fail
  refine (cS _ _ _ _ _ (HS2.out.nthO 1 rfl).px (HS2.out.nthO 0 rfl).px).mono ?_
  rintro e v3 ⟨As, Bs, Cs, As', Bs', Cs', rfl, p6, p7, p8, p9, p10, hb⟩
  have HS3 := hide (HS2.out.own2 hb p6.v p8 p7.v p9 p10)
  clear HS2 hb p6 p7 p8 p9 p10
  have HS4 := hide (HS3.out.box [.slice As N9 Cs, .slice As' N3 Cs', .int .i64 rD] 26)
  go_upto_region 6 with fail
  generalize hx : World.alloc v3 (.cells [.slice As N9 Cs, .slice As' N3 Cs', .int .i64 rD].toArray 26) = v4 at HS4
  have hy' : World.alloc v3 (.cells #[.slice As N9 Cs, .slice As' N3 Cs', .int .i64 rD] 26) = v4 := hx
  try rw [hy']
  clear hx hy' HS3
  generalize v3.heap.size = Qs at *
  obtain ⟨i0, i1, i2⟩ := HS4.out.im3 1 rfl
  go_wp2_with fail
  refine (cT0 _ (HP0.out.below HS4.out.below) (HK0.out.below HS4.out.below)).mono ?_
  rintro e v5 ⟨xb, xe, rfl, h2, hr, h2', hr', hne, hb⟩
  have HS5 := hide (HS4.out.own2 hb hr.v (.inr h2) hr'.v (.inr h2') (.inr (.inr hne)))
  clear HS4 hb hr h2 hr' h2' hne i0 i1 i2
  have HS6 := hide (HS5.out.box [.slice (some ⟨xb, 0, none⟩) n0 n0, .slice (some ⟨xe, 0, none⟩) m0 m0, .int .i64 D0] 26)
  go_upto_region 7 with fail
  generalize hx : World.alloc v5 (.cells [.slice (some ⟨xb, 0, none⟩) n0 n0, .slice (some ⟨xe, 0, none⟩) m0 m0, .int .i64 D0].toArray 26) = v6 at HS6
  have hy' : World.alloc v5 (.cells #[.slice (some ⟨xb, 0, none⟩) n0 n0, .slice (some ⟨xe, 0, none⟩) m0 m0, .int .i64 D0] 26) = v6 := hx
  try rw [hy']
  clear hx hy' HS5
  generalize v5.heap.size = Qx at *
  obtain ⟨i0, i1, i2⟩ := HS6.out.im3 0 rfl
  go_wp2_with fail
  refine (cI _ _ _ _ _ (HS6.out.nthO 1 rfl).px (HS6.out.nthO 0 rfl).px).mono ?_
  rintro e v7 ⟨Ag, Bg, Cg, Ag', Bg', Cg', rfl, p6, p7, p8, p9, p10, hb⟩
  have HS7 := hide (HS6.out.own2 hb p6.v p8 p7.v p9 p10)
  clear HS6 hb p6 p7 p8 p9 p10
  have HS8 := hide (HS7.out.box [.slice Ag N9 Cg, .slice Ag' N3 Cg', .int .i64 rD] 26)
  go_upto_region 8 with fail
  generalize hx : World.alloc v7 (.cells [.slice Ag N9 Cg, .slice Ag' N3 Cg', .int .i64 rD].toArray 26) = v8 at HS8
  have hy' : World.alloc v7 (.cells #[.slice Ag N9 Cg, .slice Ag' N3 Cg', .int .i64 rD] 26) = v8 := hx
  try rw [hy']
  clear hx hy' HS7
  generalize v7.heap.size = Qg at *
  clear i0 i1 i2
  obtain ⟨i0, i1, i2⟩ := HS8.out.im3 0 rfl
  obtain ⟨j0, j1, j2⟩ := HS8.out.im3 2 rfl
  go_wp2_with fail
  refine (cE _ _ _ _ _ _ _ _ _ (HS8.out.nthO 1 rfl).px (HS8.out.nthO 5 rfl).px (HS8.out.nthO 0 rfl).px (HS8.out.nthO 4 rfl).px).mono ?_
  rintro e v9 ⟨rfl, hb⟩
  have HS9 := hide (HS8.out.next hb)
  clear HS8 hb i0 i1 i2 j0 j1 j2
  obtain ⟨i0, i1, i2⟩ := HS9.out.im3 3 rfl
  obtain ⟨j0, j1, j2⟩ := HS9.out.im3 1 rfl
  go_upto_region 10 with fail
  go_cut [45] (fun s wc => s = .bool false ∧ St w [(Qg, [.slice Ag N9 Cg, .slice Ag' N3 Cg', .int .i64 rD]), (Qx, [.slice (some ⟨xb, 0, none⟩) n0 n0, .slice (some ⟨xe, 0, none⟩) m0 m0, .int .i64 D0]), (Qs, [.slice As N9 Cs, .slice As' N3 Cs', .int .i64 rD]), (w.heap.size, [.slice a0 n0 cap0, .slice d0 m0 dap0, .int .i64 D0])] [(Ag', Bg', N3, fun k => .int .i64 (rT k)), (Ag, Bg, N9, fun k => .int .i64 (rM k)), (some ⟨xe, 0, none⟩, xe, m0, fun k => .int .i64 (g0 k)), (some ⟨xb, 0, none⟩, xb, n0, fun k => .int .i64 (f0 k)), (As', Bs', N3, fun k => .int .i64 (rT k)), (As, Bs, N9, fun k => .int .i64 (rM k)), (some ⟨ze, 0, none⟩, ze, m0, fun k => .int .i64 (g0 k)), (some ⟨zb, 0, none⟩, zb, n0, fun k => .int .i64 (f0 k))] wc)
  case first =>
    go_region_with (first
      | (go_at_call 8; (with_reducible refine (cT0 _ (HP0.out.below HS9.out.drew.below) (HK0.out.below HS9.out.drew.below)).mono ?_); rintro e wq ⟨b3, b3e, rfl, -, hr, -, hr', -, hb⟩; have HQ := hide (HS9.out.drew.next hb); obtain ⟨k0, k1, k2⟩ := HQ.out.im3 1 rfl)
      | (go_at_call 10; (with_reducible refine (cA0 _ _ _ _ _ (HQ.out.nthO 3 rfl).px hr.px (HQ.out.nthO 2 rfl).px hr'.px).mono ?_); rintro e wp ⟨rfl, hb11⟩))
    all_goals
      have HST := hide (HQ.out.next hb11)
      clear hb hr hb11 HQ HS9 k0 k1 k2 i0 i1 i2 j0 j1 j2 hr'
      go_wp2_with fail
      go_meet
      exact ⟨rfl, HST.out⟩
  case rest =>
    obtain ⟨rfl, hst⟩ := hcut
    obtain ⟨v10, hwc⟩ : ∃ wn, wn = wc := ⟨_, rfl⟩
    rw [← hwc] at hst
    rw [← hwc]
    have HS10 := hide hst
    clear hst hwc HS9 i0 i1 i2 j0 j1 j2
    obtain ⟨i0, i1, i2⟩ := HS10.out.im3 1 rfl
    go_wp2_with fail
    refine (cM0 _ _ _ (HS10.out.nthO 3 rfl).i (HS10.out.nthO 2 rfl).i (HS10.out.neL 3 2 (by omega) rfl rfl)).mono ?_
    rintro e v11 ⟨rfl, w1', w2', hb, o1, kp1, o2, kp2⟩
    have HS11 : Hid (St w [(Qg, [.slice Ag N9 Cg, .slice Ag' N3 Cg', .int .i64 rD]), (Qx, [.slice (some ⟨xb, 0, none⟩) n0 n0, .slice (some ⟨xe, 0, none⟩) m0 m0, .int .i64 D0]), (Qs, [.slice As N9 Cs, .slice As' N3 Cs', .int .i64 rD]), (w.heap.size, [.slice a0 n0 cap0, .slice d0 m0 dap0, .int .i64 D0])] [(Ag', Bg', N3, fun k => .int .i64 (rT k)), (Ag, Bg, N9, fun k => .int .i64 (rM k)), (some ⟨xe, 0, none⟩, xe, m0, fun k => .int .i64 (1 + (n0 : Int) + (k : Int))), (some ⟨xb, 0, none⟩, xb, n0, fun k => .int .i64 (1 + (k : Int))), (As', Bs', N3, fun k => .int .i64 (rT k)), (As, Bs, N9, fun k => .int .i64 (rM k)), (some ⟨ze, 0, none⟩, ze, m0, fun k => .int .i64 (g0 k)), (some ⟨zb, 0, none⟩, zb, n0, fun k => .int .i64 (f0 k))] v11) := ((HS10.out.next hb).mark (O1 := [_, _, _]) kp1 o1.v).mark (O1 := [_, _]) kp2 o2.v
    clear HS10 hb o1 kp1 o2 kp2 i0 i1 i2
    obtain ⟨i0, i1, i2⟩ := HS11.out.im3 0 rfl
    obtain ⟨j0, j1, j2⟩ := HS11.out.im3 2 rfl
    go_wp2_with fail
    refine (cE _ _ _ _ _ _ _ _ _ (HS11.out.nthO 1 rfl).px (HS11.out.nthO 5 rfl).px (HS11.out.nthO 0 rfl).px (HS11.out.nthO 4 rfl).px).mono ?_
    rintro e v12 ⟨rfl, hb⟩
    have HS12 := hide (HS11.out.next hb)
    clear HS11 hb i0 i1 i2 j0 j1 j2
    obtain ⟨i0, i1, i2⟩ := HS12.out.im3 0 rfl
    go_wp2_with fail
    refine (cMg _ _ _ _ _ _ _ (HS12.out.nthO 1 rfl).i (HS12.out.nthO 0 rfl).i (HS12.out.neL 1 0 (by omega) rfl rfl)).mono ?_
    rintro e v13 ⟨rfl, w1', w2', hb, o1, kp1, o2, kp2⟩
    have HS13 : Hid (St w [(Qg, [.slice Ag N9 Cg, .slice Ag' N3 Cg', .int .i64 rD]), (Qx, [.slice (some ⟨xb, 0, none⟩) n0 n0, .slice (some ⟨xe, 0, none⟩) m0 m0, .int .i64 D0]), (Qs, [.slice As N9 Cs, .slice As' N3 Cs', .int .i64 rD]), (w.heap.size, [.slice a0 n0 cap0, .slice d0 m0 dap0, .int .i64 D0])] [(Ag', Bg', N3, fun k => .int .i64 (1 + (N9 : Int) + (k : Int))), (Ag, Bg, N9, fun k => .int .i64 (1 + (k : Int))), (some ⟨xe, 0, none⟩, xe, m0, fun k => .int .i64 (1 + (n0 : Int) + (k : Int))), (some ⟨xb, 0, none⟩, xb, n0, fun k => .int .i64 (1 + (k : Int))), (As', Bs', N3, fun k => .int .i64 (rT k)), (As, Bs, N9, fun k => .int .i64 (rM k)), (some ⟨ze, 0, none⟩, ze, m0, fun k => .int .i64 (g0 k)), (some ⟨zb, 0, none⟩, zb, n0, fun k => .int .i64 (f0 k))] v13) := ((HS12.out.next hb).mark (O1 := [_]) kp1 o1.v).mark (O1 := []) kp2 o2.v
    clear HS12 hb o1 kp1 o2 kp2 i0 i1 i2
    obtain ⟨i0, i1, i2⟩ := HS13.out.im3 0 rfl
    go_wp2_with fail
    refine (cHg _ _ _ _ _ _ _ (HS13.out.nthO 1 rfl).i (HS13.out.nthO 0 rfl).i).mono ?_
    rintro e v14 ⟨rfl, hb⟩
    have HS14 := hide (HS13.out.next hb)
    clear HS13 hb i0 i1 i2
    obtain ⟨i0, i1, i2⟩ := HS14.out.im3 3 rfl
    go_wp2_with fail
    refine (cT0 _ (HP0.out.below HS14.out.below) (HK0.out.below HS14.out.below)).mono ?_
    rintro e v15 ⟨ub, ue, rfl, h2, hr, h2', hr', hne, hb⟩
    have HS15 := hide (HS14.out.own2 hb hr.v (.inr h2) hr'.v (.inr h2') (.inr (.inr hne)))
    clear HS14 hb hr h2 hr' h2' hne i0 i1 i2
    go_wp2_with fail
    refine (cI _ _ _ _ _ (HS15.out.nthO 1 rfl).px (HS15.out.nthO 0 rfl).px).mono ?_
    rintro e v16 ⟨At, Bt, Ct, At', Bt', Ct', rfl, p6, p7, p8, p9, p10, hb⟩
    have HS16 := hide (HS15.out.own2 hb p6.v p8 p7.v p9 p10)
    clear HS15 hb p6 p7 p8 p9 p10
    have HS17 := hide (HS16.out.box [.slice At N9 Ct, .slice At' N3 Ct', .int .i64 rD] 26)
    go_upto_region 25 with fail
    generalize hx : World.alloc v16 (.cells [.slice At N9 Ct, .slice At' N3 Ct', .int .i64 rD].toArray 26) = v17 at HS17
    have hy' : World.alloc v16 (.cells #[.slice At N9 Ct, .slice At' N3 Ct', .int .i64 rD] 26) = v17 := hx
    try rw [hy']
    clear hx hy' HS16
    generalize v16.heap.size = Qt at *
    obtain ⟨i0, i1, i2⟩ := HS17.out.im3 0 rfl
    obtain ⟨j0, j1, j2⟩ := HS17.out.im3 3 rfl
    go_wp2_with fail
    refine (cE _ _ _ _ _ _ _ _ _ (HS17.out.nthO 1 rfl).px (HS17.out.nthO 9 rfl).px (HS17.out.nthO 0 rfl).px (HS17.out.nthO 8 rfl).px).mono ?_
    rintro e v18 ⟨rfl, hb⟩
    have HS18 := hide (HS17.out.next hb)
    clear HS17 hb i0 i1 i2 j0 j1 j2
    obtain ⟨i0, i1, i2⟩ := HS18.out.im3 1 rfl
    go_wp2_with fail
    refine (cHg _ _ _ _ _ _ _ (HS18.out.nthO 5 rfl).i (HS18.out.nthO 4 rfl).i).mono ?_
    rintro e v19 ⟨rfl, hb⟩
    have HS19 := hide (HS18.out.next hb)
    clear HS18 hb i0 i1 i2
    have HB := hide HS19.out.below
    clear HS19
    go_wp2_with fail
    go_ret
    exact ⟨rfl, HB.out⟩

end Go.Proofs.Ytedhaakjgnpehaa

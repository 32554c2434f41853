/- Archives: is it right: the specification. -/
import Derived.Test.YtcdpnofjahdieaaArv
import Derived.Test.YtcdpnofjahdieaaAru
namespace Go.Proofs.Ytcdpnofjahdieaa
open Go.RowKit

theorem idxB_all (I : Nat → SEntry) (n : Nat) : idxB I n = (decide (n ≤ 200) && allG (fun k => ((keyB (I k).f0 (I k).f1 && prvB (fun k => (I k).f0) (fun k => (I k).f1) k) && (sumB (I k).f2 && inB (I k).f3 1 2 && inB (I k).f4 0 8))) n) := by
  unfold idxB ordB
  rw [allG_and (fun k => keyB (I k).f0 (I k).f1 && prvB (fun k => (I k).f0) (fun k => (I k).f1) k) (fun k => sumB (I k).f2 && inB (I k).f3 1 2 && inB (I k).f4 0 8), Bool.and_assoc]

set_option maxRecDepth 100000 in
set_option maxHeartbeats 8000000 in
theorem specArchOk_any (aI : Option Addr) (nI cI : Nat) (I : Nat → SEntry) (aL : Option Addr) (nL cL : Nat) (L : Nat → SCopy) (aR : Option Addr) (nR cR : Nat) (R : Nat → SCopy) (aA : Option Addr) (nA cA : Nat) (A : Nat → SNote) (clock : Int) (hz : SzA nI I nL L nR R nA A) (w : World) (h : PxA aI nI I aL nL L aR nR R aA nA A w) :
    Calls Try.prog 14 #[vArch aI nI cI aL nL cL aR nR cR aA nA cA clock] w fun e w' => e = .returned (.bool (archB I nI L nL R nR A nA clock)) ∧ Below w.heap.size w w' := by
  obtain ⟨W, hW⟩ : ∃ W, W = w.alloc (.cells #[.slice aI nI cI, .slice aL nL cL, .slice aR nR cR, .slice aA nA cA, .int .i64 clock] 32) := ⟨_, rfl⟩
  have hWB : Below w.heap.size w W := by rw [hW]; exact bnew _ _
  have hWs : w.heap.size < W.heap.size := by rw [hW]; simp
  have i0 : W.cell? ⟨w.heap.size, 0, none⟩ = some (.slice aI nI cI) := by rw [hW]; simp [go_sem]
  have i1 : W.cell? ⟨w.heap.size, 1, none⟩ = some (.slice aL nL cL) := by rw [hW]; simp [go_sem]
  have i2 : W.cell? ⟨w.heap.size, 2, none⟩ = some (.slice aR nR cR) := by rw [hW]; simp [go_sem]
  have i3 : W.cell? ⟨w.heap.size, 3, none⟩ = some (.slice aA nA cA) := by rw [hW]; simp [go_sem]
  have i4 : W.cell? ⟨w.heap.size, 4, none⟩ = some (.int .i64 clock) := by rw [hW]; simp [go_sem]
  have hW' := hW.symm
  have HKP : Hid (∀ wz, Below W.heap.size W wz → (wz.cell? ⟨w.heap.size, 0, none⟩ = some (.slice aI nI cI) ∧ wz.cell? ⟨w.heap.size, 1, none⟩ = some (.slice aL nL cL) ∧ wz.cell? ⟨w.heap.size, 2, none⟩ = some (.slice aR nR cR) ∧ wz.cell? ⟨w.heap.size, 3, none⟩ = some (.slice aA nA cA) ∧ wz.cell? ⟨w.heap.size, 4, none⟩ = some (.int .i64 clock))) := fun wz hb => ⟨(hb.cell (p := ⟨w.heap.size, 0, none⟩) hWs).trans i0, (hb.cell (p := ⟨w.heap.size, 1, none⟩) hWs).trans i1, (hb.cell (p := ⟨w.heap.size, 2, none⟩) hWs).trans i2, (hb.cell (p := ⟨w.heap.size, 3, none⟩) hWs).trans i3, (hb.cell (p := ⟨w.heap.size, 4, none⟩) hWs).trans i4⟩
  have HP := hide (h.below hWB)
  have HWB := hide hWB
  have HZ := hide hz
  have HAB : Hid (archB I nI L nL R nR A nA clock = (inB clock 0 1000000000 && idxB I nI && shfB L nL && shfB R nR && bokB A nA clock)) := rfl
  have hnI := hz.ni
  have hnA := hz.na
  generalize archB I nI L nL R nR A nA clock = AB at *
  clear h hW hWB hz
  by_cases g1 : 200 < nI
  · have HF : Hid (AB = false) := by
      show _ = _
      rw [HAB.out, idxB_all, decide_eq_false (by omega)]; simp
    clear HAB HP HZ HKP
    go_enter Try.func14, Try.ntmps14
    go_wp2_with fail
    go_ret
    exact ⟨by rw [HF.out]; rfl, HWB.out⟩
  by_cases g2 : 4000 < nA
  · have HF : Hid (AB = false) := by
      show _ = _
      have e : bokB A nA clock = false := by unfold bokB; rw [decide_eq_false (by omega)]; rfl
      rw [HAB.out, e]; simp
    clear HAB HP HZ HKP
    go_enter Try.func14, Try.ntmps14
    go_wp2_with fail
    go_ret
    exact ⟨by rw [HF.out]; rfl, HWB.out⟩
  have cC := l1In_any clock 0 1000000000 W
  cases g3 : inB clock 0 1000000000 with
  | false =>
    have HF : Hid (AB = false) := by show _ = _; rw [HAB.out, g3]; simp
    rw [g3] at cC
    clear HAB HP HZ HKP g3
    go_enter Try.func14, Try.ntmps14
    go_wp2_with fail
    refine cC.mono ?_
    rintro e w1 ⟨rfl, rfl⟩
    clear cC
    go_wp2_with fail
    go_ret
    exact ⟨by rw [HF.out]; rfl, HWB.out⟩
  | true =>
  rw [g3] at cC
  have HAB2 : Hid (AB = (allG (fun k => ((keyB (I k).f0 (I k).f1 && prvB (fun k => (I k).f0) (fun k => (I k).f1) k) && (sumB (I k).f2 && inB (I k).f3 1 2 && inB (I k).f4 0 8))) nI && shfB L nL && shfB R nR && allG (notB A clock) nA)) := by
    show _ = _
    have e : bokB A nA clock = allG (notB A clock) nA := by unfold bokB; rw [decide_eq_true (by omega)]; rfl
    rw [HAB.out, g3, idxB_all, decide_eq_true (by omega), e]; rfl
  clear HAB g3
  go_enter Try.func14, Try.ntmps14
  go_wp2_with fail
  refine cC.mono ?_
  rintro e w1 ⟨rfl, rfl⟩
  clear cC
  go_wp2_with fail
  clear hW' i0 i1 i2 i3 i4
  go_loopw [3, 4] (fun i _ wr => ∃ k : Nat, k ≤ nI ∧ i = .int .i64 k ∧ Hid (allG (fun k => ((keyB (I k).f0 (I k).f1 && prvB (fun k => (I k).f0) (fun k => (I k).f1) k) && (sumB (I k).f2 && inB (I k).f3 1 2 && inB (I k).f4 0 8))) k = true) ∧ Below w1.heap.size w1 wr) (fun i _ _ => nI - (intOf i).toNat)
  case atStart => exact ⟨0, by omega, rfl, hide rfl, Below.refl _ _⟩
  case round =>
    obtain ⟨k, hk, rfl, HG, hb⟩ := hrel
    obtain ⟨j0, j1, j2, j3, j4⟩ := HKP.out wr hb
    by_cases hlt : k < nI
    · have HPw := hide (HP.out.i.below hb)
      obtain ⟨b, off, rfl, z0, z1, z2, z3, z4⟩ := HPw.out.atEntry hlt
      have hsz := HZ.out.si k hlt
      unfold eEntry at hsz
      have HNO : Hid (((keyB (I k).f0 (I k).f1 && prvB (fun k => (I k).f0) (fun k => (I k).f1) k) && (sumB (I k).f2 && inB (I k).f3 1 2 && inB (I k).f4 0 8)) = false → AB = false) := fun h9 => by rw [HAB2.out, allG_no k hlt h9]; simp
      have HYE : Hid (((keyB (I k).f0 (I k).f1 && prvB (fun k => (I k).f0) (fun k => (I k).f1) k) && (sumB (I k).f2 && inB (I k).f3 1 2 && inB (I k).f4 0 8)) = true → allG (fun k => ((keyB (I k).f0 (I k).f1 && prvB (fun k => (I k).f0) (fun k => (I k).f1) k) && (sumB (I k).f2 && inB (I k).f3 1 2 && inB (I k).f4 0 8))) (k + 1) = true) := fun h9 => by simp only [allG]; rw [HG.out, h9]; rfl
      have HBr := hide hb
      clear hb HG HAB2
      obtain ⟨W2, hW2⟩ : ∃ W2, W2 = wr.alloc (.cells #[.string (I k).f0, .int .i64 (I k).f1, .int .i64 (I k).f2, .int .i64 (I k).f3, .int .i64 (I k).f4] 64) := ⟨_, rfl⟩
      have n0 : W2.cell? ⟨wr.heap.size, 0, none⟩ = some (.string (I k).f0) := by rw [hW2]; simp [go_sem]
      have n1 : W2.cell? ⟨wr.heap.size, 1, none⟩ = some (.int .i64 (I k).f1) := by rw [hW2]; simp [go_sem]
      have n2 : W2.cell? ⟨wr.heap.size, 2, none⟩ = some (.int .i64 (I k).f2) := by rw [hW2]; simp [go_sem]
      have n3 : W2.cell? ⟨wr.heap.size, 3, none⟩ = some (.int .i64 (I k).f3) := by rw [hW2]; simp [go_sem]
      have n4 : W2.cell? ⟨wr.heap.size, 4, none⟩ = some (.int .i64 (I k).f4) := by rw [hW2]; simp [go_sem]
      have HBs : Hid (Below wr.heap.size wr W2) := by show Below _ _ _; rw [hW2]; exact bnew _ _
      have HB : Hid (Below w1.heap.size w1 W2) := bnext HBr.out (Nat.le_refl _) HBs.out
      have HBw : Hid (Below w.heap.size w W2) := bnext HWB.out (Nat.le_refl _) HB.out
      have hW2' := hW2.symm
      have HPw2 := hide (HPw.out.below HBs.out)
      obtain ⟨l0, -, -, -, -⟩ := HKP.out W2 HB.out
      clear hW2 HBr HBs HPw
      have HIPE : Hid (((keyB (I k).f0 (I k).f1 && prvB (fun k => (I k).f0) (fun k => (I k).f1) k) && (sumB (I k).f2 && inB (I k).f3 1 2 && inB (I k).f4 0 8)) = ((keyB (I k).f0 (I k).f1 && prvB (fun k => (I k).f0) (fun k => (I k).f1) k) && (sumB (I k).f2 && inB (I k).f3 1 2 && inB (I k).f4 0 8))) := rfl
      have c1 := l14Key_any (I k).f0 (I k).f1 hsz W2
      have c2 := l1In_any (I k).f2 0 2305843009213693950 W2
      have c3 := l1In_any (I k).f3 1 2 W2
      have c4 := l1In_any (I k).f4 0 8 W2
      have hsum : inB (I k).f2 0 2305843009213693950 = sumB (I k).f2 := rfl
      rw [hsum] at c2
      clear hsum
      cases h1 : keyB (I k).f0 (I k).f1 with
      | false =>
        have HF := hide (HNO.out (by rw [h1]; simp))
        rw [h1] at c1
        clear HNO HYE HIPE HP HZ HKP HPw2 HB h1 c2 c3 c4 l0
        generalize (I k).f0 = x0 at *
        generalize (I k).f1 = x1 at *
        generalize (I k).f2 = x2 at *
        generalize (I k).f3 = x3 at *
        generalize (I k).f4 = x4 at *
        go_wp2_with fail
        refine c1.mono ?_
        rintro e w2 ⟨rfl, rfl⟩
        clear c1
        go_wp2_with fail
        go_ret
        exact ⟨by rw [HF.out]; rfl, HBw.out⟩
      | true =>
      rw [h1] at c1
      cases h2 : sumB (I k).f2 with
      | false =>
        have HF := hide (HNO.out (by rw [h2]; simp))
        rw [h2] at c2
        clear HNO HYE HIPE HP HZ HKP HPw2 HB h1 h2 c3 c4 l0
        generalize (I k).f0 = x0 at *
        generalize (I k).f1 = x1 at *
        generalize (I k).f2 = x2 at *
        generalize (I k).f3 = x3 at *
        generalize (I k).f4 = x4 at *
        go_wp2_with fail
        refine c1.mono ?_
        rintro e w2 ⟨rfl, rfl⟩
        clear c1
        go_wp2_with fail
        refine c2.mono ?_
        rintro e w2 ⟨rfl, rfl⟩
        clear c2
        go_wp2_with fail
        go_ret
        exact ⟨by rw [HF.out]; rfl, HBw.out⟩
      | true =>
      rw [h2] at c2
      cases h3 : inB (I k).f3 1 2 with
      | false =>
        have HF := hide (HNO.out (by rw [h3]; simp))
        rw [h3] at c3
        clear HNO HYE HIPE HP HZ HKP HPw2 HB h1 h2 h3 c4 l0
        generalize (I k).f0 = x0 at *
        generalize (I k).f1 = x1 at *
        generalize (I k).f2 = x2 at *
        generalize (I k).f3 = x3 at *
        generalize (I k).f4 = x4 at *
        go_wp2_with fail
        refine c1.mono ?_
        rintro e w2 ⟨rfl, rfl⟩
        clear c1
        go_wp2_with fail
        refine c2.mono ?_
        rintro e w2 ⟨rfl, rfl⟩
        clear c2
        go_wp2_with fail
        refine c3.mono ?_
        rintro e w2 ⟨rfl, rfl⟩
        clear c3
        go_wp2_with fail
        go_ret
        exact ⟨by rw [HF.out]; rfl, HBw.out⟩
      | true =>
      rw [h3] at c3
      cases h4 : inB (I k).f4 0 8 with
      | false =>
        have HF := hide (HNO.out (by rw [h4]; simp))
        rw [h4] at c4
        clear HNO HYE HIPE HP HZ HKP HPw2 HB h1 h2 h3 h4  l0
        generalize (I k).f0 = x0 at *
        generalize (I k).f1 = x1 at *
        generalize (I k).f2 = x2 at *
        generalize (I k).f3 = x3 at *
        generalize (I k).f4 = x4 at *
        go_wp2_with fail
        refine c1.mono ?_
        rintro e w2 ⟨rfl, rfl⟩
        clear c1
        go_wp2_with fail
        refine c2.mono ?_
        rintro e w2 ⟨rfl, rfl⟩
        clear c2
        go_wp2_with fail
        refine c3.mono ?_
        rintro e w2 ⟨rfl, rfl⟩
        clear c3
        go_wp2_with fail
        refine c4.mono ?_
        rintro e w2 ⟨rfl, rfl⟩
        clear c4
        go_wp2_with fail
        go_ret
        exact ⟨by rw [HF.out]; rfl, HBw.out⟩
      | true =>
      rw [h4] at c4
      have HE5 : Hid (prvB (fun k => (I k).f0) (fun k => (I k).f1) k = true → ((keyB (I k).f0 (I k).f1 && prvB (fun k => (I k).f0) (fun k => (I k).f1) k) && (sumB (I k).f2 && inB (I k).f3 1 2 && inB (I k).f4 0 8)) = true) := fun h9 => by rw [h1, h2, h3, h4, h9]; rfl
      have HE6 : Hid (prvB (fun k => (I k).f0) (fun k => (I k).f1) k = false → ((keyB (I k).f0 (I k).f1 && prvB (fun k => (I k).f0) (fun k => (I k).f1) k) && (sumB (I k).f2 && inB (I k).f3 1 2 && inB (I k).f4 0 8)) = false) := fun h9 => by rw [h9]; simp
      clear HIPE h1 h2 h3 h4
      obtain ⟨x0, e0⟩ : ∃ x0, x0 = (I k).f0 := ⟨_, rfl⟩
      obtain ⟨x1, e1⟩ : ∃ x1, x1 = (I k).f1 := ⟨_, rfl⟩
      obtain ⟨x2, e2⟩ : ∃ x2, x2 = (I k).f2 := ⟨_, rfl⟩
      obtain ⟨x3, e3⟩ : ∃ x3, x3 = (I k).f3 := ⟨_, rfl⟩
      obtain ⟨x4, e4⟩ : ∃ x4, x4 = (I k).f4 := ⟨_, rfl⟩
      have HE0 := hide e0
      have HE1 := hide e1
      rw [← e0] at z0 n0 c1
      rw [← e1] at z1 n1 c1
      rw [← e2] at z2 n2 c2
      rw [← e3] at z3 n3 c3
      rw [← e4] at z4 n4 c4
      rw [← e0, ← e1, ← e2, ← e3, ← e4] at hW2'
      clear e0 e1 e2 e3 e4
      go_wp2_with fail
      refine c1.mono ?_
      rintro e w2 ⟨rfl, rfl⟩
      clear c1
      go_wp2_with fail
      refine c2.mono ?_
      rintro e w2 ⟨rfl, rfl⟩
      clear c2
      go_wp2_with fail
      refine c3.mono ?_
      rintro e w2 ⟨rfl, rfl⟩
      clear c3
      go_wp2_with fail
      refine c4.mono ?_
      rintro e w2 ⟨rfl, rfl⟩
      clear c4
      have HBd := hide (fun d => below_drewN HB.out d)
      clear hW2' z0 z1 z2 z3 z4 n2 n3 n4 j0 j1 j2 j3 j4
      rcases Nat.eq_zero_or_pos k with hk0 | hk0
      · subst hk0
        have HF := hide (HYE.out (HE5.out rfl))
        clear HNO HYE HE5 HE6 HP HZ HPw2
        have q0 : ¬ (0 : Int) < ((0 : Nat) : Int) := by decide
        go_upto_region 9 with fail
        go_quiet (fail)
        have HBe := hide (HBd.out nq)
        clear HBd
        generalize w2.drewN nq = we at *
        go_wp2_with fail
        go_roundw
        case rel => exact ⟨0 + 1, by omega, by go_num, HF, HBe.out⟩
        case measure => simp [intOf]; omega
      · have hkp : (0 : Int) < (k : Int) := by omega
        obtain ⟨b', off', eb, v0, v1, -, -, -⟩ := HPw2.out.atEntry (k := k - 1) (by omega)
        cases eb
        obtain ⟨j, hj⟩ : ∃ j : Nat, j = k - 1 := ⟨_, rfl⟩
        have hji : (k : Int) - 1 = (j : Int) := by omega
        have hjn : (j : Int) < (nI : Int) := by omega
        have hjw : IntKind.i64.wrap ((k : Int) - 1) = (j : Int) := by rw [IntKind.wrap_i64]; omega
        rw [← hj] at v0 v1
        have HPV := hide (prvB_pos (fun k => (I k).f0) (fun k => (I k).f1) k hk0)
        have cL := l14Less_any (I j).f0 (I j).f1 x0 x1
        have HPV2 : Hid (prvB (fun k => (I k).f0) (fun k => (I k).f1) k = lessM (I j).f0 (I j).f1 x0 x1) := by show _ = _; rw [HPV.out, HE0.out, HE1.out, hj]
        clear HPV hj HPw2 HE0 HE1
        generalize prvB (fun k => (I k).f0) (fun k => (I k).f1) k = PV at *
        rw [← HPV2.out] at cL
        generalize (I j).f0 = u0 at *
        generalize (I j).f1 = u1 at *
        cases h5 : PV with
        | false =>
          have HF := hide (HNO.out (HE6.out h5))
          rw [h5] at cL
          have HBx := hide (fun d => below_drewN HBw.out d)
          clear HNO HYE HE5 HE6 HP HZ HPV2 h5 HBd
          go_upto_region 9 with fail
          go_quiet ((go_at_call 36; exact Calls.quiet_of_same (cL _)))
          have HBe := hide (HBx.out nq)
          clear HBx
          generalize w2.drewN nq = we at *
          go_wp2_with fail
          go_ret
          exact ⟨by rw [HF.out]; rfl, HBe.out⟩
        | true =>
          have HF := hide (HYE.out (HE5.out h5))
          rw [h5] at cL
          clear HNO HYE HE5 HE6 HP HZ HPV2 h5
          go_upto_region 9 with fail
          go_quiet ((go_at_call 36; exact Calls.quiet_of_same (cL _)))
          have HBe := hide (HBd.out nq)
          clear HBd
          generalize w2.drewN nq = we at *
          go_wp2_with fail
          go_roundw
          case rel => exact ⟨k + 1, by omega, by go_num, HF, HBe.out⟩
          case measure => simp [intOf]; omega
    · obtain rfl : k = nI := by omega
      have HAB3 : Hid (AB = (shfB L nL && shfB R nR && allG (notB A clock) nA)) := by show _ = _; rw [HAB2.out, HG.out]; rfl
      have HB0 := hide hb
      have cL := l14Shelf_any aL nL cL L HZ.out.nl HZ.out.sl wr (HP.out.below hb).l
      have cR := fun wz hbz => l14Shelf_any aR nR cR R HZ.out.nr HZ.out.sr wz (HP.out.below hbz).r
      clear HAB2 HG hb
      generalize shfB L nL = SL at *
      generalize shfB R nR = SR at *
      go_wp2_with fail
      refine cL.mono ?_
      rintro e w2 ⟨rfl, hb2⟩
      have HB2 : Hid (Below w1.heap.size w1 w2) := bnext HB0.out (Nat.le_refl _) hb2
      clear cL hb2 j0 j1 j2 j3 j4
      obtain ⟨j0, j1, j2, j3, j4⟩ := HKP.out w2 HB2.out
      go_wp2_with fail
      refine (cR _ HB2.out).mono ?_
      rintro e w3 ⟨rfl, hb3⟩
      have HB3 : Hid (Below w1.heap.size w1 w3) := bnext HB2.out (Nat.le_refl _) hb3
      clear cR hb3 j0 j1 j2 j3 j4 HB2 HB0
      obtain ⟨j0, j1, j2, j3, j4⟩ := HKP.out w3 HB3.out
      have HBw : Hid (Below w.heap.size w w3) := bnext HWB.out (Nat.le_refl _) HB3.out
      cases SL with
      | false =>
        have HF : Hid (AB = false) := by show _ = _; rw [HAB3.out]; rfl
        clear HAB3 HP HZ HKP
        go_wp2_with fail
        go_ret
        exact ⟨by rw [HF.out]; rfl, HBw.out⟩
      | true =>
      cases SR with
      | false =>
        have HF : Hid (AB = false) := by show _ = _; rw [HAB3.out]; rfl
        clear HAB3 HP HZ HKP
        go_wp2_with fail
        go_ret
        exact ⟨by rw [HF.out]; rfl, HBw.out⟩
      | true =>
      have HAB4 : Hid (AB = allG (notB A clock) nA) := by show _ = _; rw [HAB3.out]; rfl
      clear HAB3
      go_wp2_with fail
      clear j0 j1 j2 j3 j4
      go_loopw [7, 8, 9, 10] (fun la ti i _ wr => ∃ m : Nat, m ≤ nA ∧ i = .int .i64 m ∧ ti = .int .i64 (preI (fun j => (A j).f0) m) ∧ la = .int .i64 (preI (fun j => (A j).f4) m) ∧ Hid (allG (notB A clock) m = true) ∧ Below w1.heap.size w1 wr) (fun _ _ i _ _ => nA - (intOf i).toNat)
      case atStart => exact ⟨0, by omega, rfl, rfl, rfl, hide rfl, HB3.out⟩
      case round =>
        obtain ⟨m, hm, rfl, rfl, rfl, HG, hb⟩ := hrel
        clear HB3 HBw
        obtain ⟨j0, j1, j2, j3, j4⟩ := HKP.out wr hb
        by_cases hlm : m < nA
        · obtain ⟨b, off, rfl, z0, z1, z2, z3, z4⟩ := (HP.out.a.below hb).atNote hlm
          have hsz := HZ.out.sa m hlm
          unfold eNote at hsz
          have HNO : Hid (notB A clock m = false → AB = false) := fun h9 => by rw [HAB4.out]; exact allG_no m hlm h9
          have HYE : Hid (notB A clock m = true → allG (notB A clock) (m + 1) = true) := fun h9 => by simp only [allG]; rw [HG.out, h9]; rfl
          have HNB : Hid (notB A clock m = (inB (A m).f0 (preI (fun j => (A j).f0) m) clock && inB (A m).f1 1 8 && decide ((A m).f2.size ≤ 40) && inB (A m).f3 0 1000 && ((A m).f4 == chV (preI (fun j => (A j).f4) m) (A m).f0 (A m).f1 (A m).f3 (A m).f2))) := rfl
          have HX1 : Hid (preI (fun j => (A j).f0) (m + 1) = (A m).f0 ∧ preI (fun j => (A j).f4) (m + 1) = (A m).f4) := ⟨rfl, rfl⟩
          have HBr := hide hb
          generalize preI (fun j => (A j).f0) m = y0 at *
          generalize preI (fun j => (A j).f4) m = y4 at *
          generalize notB A clock m = NB at *
          clear hb HG HAB4 HP HZ
          generalize (A m).f0 = x0 at *
          generalize (A m).f1 = x1 at *
          generalize (A m).f2 = x2 at *
          generalize (A m).f3 = x3 at *
          generalize (A m).f4 = x4 at *
          obtain ⟨W2, hW2⟩ : ∃ W2, W2 = wr.alloc (.cells #[.int .i64 x0, .int .i64 x1, .string x2, .int .i64 x3, .int .i64 x4] 68) := ⟨_, rfl⟩
          have n0 : W2.cell? ⟨wr.heap.size, 0, none⟩ = some (.int .i64 x0) := by rw [hW2]; simp [go_sem]
          have n1 : W2.cell? ⟨wr.heap.size, 1, none⟩ = some (.int .i64 x1) := by rw [hW2]; simp [go_sem]
          have n2 : W2.cell? ⟨wr.heap.size, 2, none⟩ = some (.string x2) := by rw [hW2]; simp [go_sem]
          have n3 : W2.cell? ⟨wr.heap.size, 3, none⟩ = some (.int .i64 x3) := by rw [hW2]; simp [go_sem]
          have n4 : W2.cell? ⟨wr.heap.size, 4, none⟩ = some (.int .i64 x4) := by rw [hW2]; simp [go_sem]
          have HBs : Hid (Below wr.heap.size wr W2) := by show Below _ _ _; rw [hW2]; exact bnew _ _
          have HB : Hid (Below w1.heap.size w1 W2) := bnext HBr.out (Nat.le_refl _) HBs.out
          have hW2' := hW2.symm
          obtain ⟨-, -, -, l3, l4⟩ := HKP.out W2 HB.out
          have HBx : Hid (∀ d, Below w.heap.size w (W2.drewN d)) := fun d => below_drewN (bnext HWB.out (Nat.le_refl _) HB.out) d
          clear hW2 HBr HBs
          have c1 := l1In_any x0 y0 clock
          have c2 := l1In_any x1 1 8
          have c4 := l1In_any x3 0 1000
          go_upto_region 21 with fail
          clear hW2' z0 z1 z2 z3 z4 j0 j1 j2 j3 j4
          cases h1 : inB x0 y0 clock with
          | false =>
            have HF := hide (HNO.out (by rw [HNB.out, h1]; simp))
            rw [h1] at c1
            clear HNO HYE HNB h1 c2 c4
            go_quiet ((go_at_call 34; exact Calls.quiet_of_same (c1 _)))
            have HBe := hide (HBx.out nq)
            clear HBx
            generalize W2.drewN nq = we at *
            go_wp2_with fail
            go_ret
            exact ⟨by rw [HF.out]; rfl, HBe.out⟩
          | true =>
          rw [h1] at c1
          cases h2 : inB x1 1 8 with
          | false =>
            have HF := hide (HNO.out (by rw [HNB.out, h1, h2]; simp))
            rw [h2] at c2
            clear HNO HYE HNB h1 h2 c4
            go_quiet ((go_at_call 34; first | with_reducible exact Calls.quiet_of_same (c1 _) | with_reducible exact Calls.quiet_of_same (c2 _)))
            have HBe := hide (HBx.out nq)
            clear HBx
            generalize W2.drewN nq = we at *
            go_wp2_with fail
            go_ret
            exact ⟨by rw [HF.out]; rfl, HBe.out⟩
          | true =>
          rw [h2] at c2
          by_cases h3 : x2.size ≤ 40
          · have h3' : ¬ (40 : Int) < (x2.size : Int) := by omega
            have h3d : decide ((40 : Int) < (x2.size : Int)) = false := by simp; omega
            cases h4 : inB x3 0 1000 with
            | false =>
              have HF := hide (HNO.out (by rw [HNB.out, h1, h2, h4]; simp))
              rw [h4] at c4
              clear HNO HYE HNB h1 h2 h4
              go_quiet ((go_at_call 34; first | with_reducible exact Calls.quiet_of_same (c1 _) | with_reducible exact Calls.quiet_of_same (c2 _) | with_reducible exact Calls.quiet_of_same (c4 _)))
              have HBe := hide (HBx.out nq)
              clear HBx
              generalize W2.drewN nq = we at *
              go_wp2_with fail
              go_ret
              exact ⟨by rw [HF.out]; rfl, HBe.out⟩
            | true =>
              rw [h4] at c4
              have HE5 : Hid ((x4 == chV y4 x0 x1 x3 x2) = true → NB = true) := fun h9 => by rw [HNB.out, h1, h2, h4, h9]; simp; omega
              have HE6 : Hid ((x4 == chV y4 x0 x1 x3 x2) = false → NB = false) := fun h9 => by rw [HNB.out, h9]; simp
              have c5 := l14Chain_any y4 x0 x1 x2 x3 x4 (by omega) W2.drew
              generalize chV y4 x0 x1 x3 x2 = CV at *
              have SK0 : Hid (W2.drew.cell? ⟨wr.heap.size, 0, none⟩ = some (.int .i64 x0) ∧ W2.drew.cell? ⟨wr.heap.size, 1, none⟩ = some (.int .i64 x1) ∧ W2.drew.cell? ⟨wr.heap.size, 2, none⟩ = some (.string x2) ∧ W2.drew.cell? ⟨wr.heap.size, 3, none⟩ = some (.int .i64 x3) ∧ W2.drew.cell? ⟨wr.heap.size, 4, none⟩ = some (.int .i64 x4) ∧ W2.drew.cell? ⟨w.heap.size, 4, none⟩ = some (.int .i64 clock)) := ⟨n0, n1, n2, n3, n4, l4⟩
              have HDR : Hid (Below W2.heap.size W2 W2.drew) := (Below.refl _ _).drew
              clear HNB h1 h2 h4
              go_region_held (fun (w' : World) => w'.cell? ⟨wr.heap.size, 0, none⟩ = some (.int .i64 x0) ∧ w'.cell? ⟨wr.heap.size, 1, none⟩ = some (.int .i64 x1) ∧ w'.cell? ⟨wr.heap.size, 2, none⟩ = some (.string x2) ∧ w'.cell? ⟨wr.heap.size, 3, none⟩ = some (.int .i64 x3) ∧ w'.cell? ⟨wr.heap.size, 4, none⟩ = some (.int .i64 x4) ∧ w'.cell? ⟨w.heap.size, 4, none⟩ = some (.int .i64 clock))
                (first | with_reducible exact SK0.out | with_reducible exact SK3.out)
                (first
                  | (go_at_call 34; (with_reducible refine (c1 _).mono ?_); rintro e wa ⟨rfl, rfl⟩)
                  | (go_at_call 34; (with_reducible refine (c2 _).mono ?_); rintro e wa ⟨rfl, rfl⟩)
                  | (go_at_call 34; (with_reducible refine (c4 _).mono ?_); rintro e wa ⟨rfl, rfl⟩)
                  | (go_at_call 38; (with_reducible refine c5.mono ?_); rintro e w5 ⟨rfl, hb50⟩; have hb5 : Below W2.heap.size W2 w5 := HDR.out.trans hb50; have HB5 : Hid (Below w1.heap.size w1 w5) := bnext HB.out (Nat.le_refl _) hb5; have SK3 : Hid (w5.cell? ⟨wr.heap.size, 0, none⟩ = some (.int .i64 x0) ∧ w5.cell? ⟨wr.heap.size, 1, none⟩ = some (.int .i64 x1) ∧ w5.cell? ⟨wr.heap.size, 2, none⟩ = some (.string x2) ∧ w5.cell? ⟨wr.heap.size, 3, none⟩ = some (.int .i64 x3) ∧ w5.cell? ⟨wr.heap.size, 4, none⟩ = some (.int .i64 x4) ∧ w5.cell? ⟨w.heap.size, 4, none⟩ = some (.int .i64 clock)) := ⟨(hb5.cell (p := ⟨wr.heap.size, 0, none⟩) (World.block_lt_of_cell? _ _ n0)).trans n0, (hb5.cell (p := ⟨wr.heap.size, 1, none⟩) (World.block_lt_of_cell? _ _ n1)).trans n1, (hb5.cell (p := ⟨wr.heap.size, 2, none⟩) (World.block_lt_of_cell? _ _ n2)).trans n2, (hb5.cell (p := ⟨wr.heap.size, 3, none⟩) (World.block_lt_of_cell? _ _ n3)).trans n3, (hb5.cell (p := ⟨wr.heap.size, 4, none⟩) (World.block_lt_of_cell? _ _ n4)).trans n4, (hb5.cell (p := ⟨w.heap.size, 4, none⟩) (World.block_lt_of_cell? _ _ l4)).trans l4⟩; clear hb5 hb50))
              all_goals
                obtain ⟨m0, m1, m2, m3, m4, m5⟩ := SK3.out
                have HBw : Hid (Below w.heap.size w w5) := bnext HWB.out (Nat.le_refl _) HB5.out
                clear SK3 SK0 c1 c2 c4 c5 n0 n1 n2 n3 n4 l3 l4 HDR HB HBx
                cases h5 : (x4 == CV) with
                | false =>
                  have q5 : (x4 != CV) = true := by simp [bne, h5]
                  have HF := hide (HNO.out (HE6.out h5))
                  clear HNO HYE HE5 HE6 h5
                  go_wp2_with fail
                  go_ret
                  exact ⟨by rw [HF.out]; rfl, HBw.out⟩
                | true =>
                  have q5 : (x4 != CV) = false := by simp [bne, h5]
                  have HF := hide (HYE.out (HE5.out h5))
                  clear HNO HYE HE5 HE6 h5
                  go_wp2_with fail
                  go_roundw
                  case rel => exact ⟨m + 1, by omega, by go_num, by rw [HX1.out.1], by rw [HX1.out.2], HF, HB5.out⟩
                  case measure => simp [intOf]; omega
          · have h3' : (40 : Int) < (x2.size : Int) := by omega
            have HF := hide (HNO.out (by rw [HNB.out, decide_eq_false h3]; simp))
            clear HNO HYE HNB h1 h2 c4 h3
            go_quiet ((go_at_call 34; first | with_reducible exact Calls.quiet_of_same (c1 _) | with_reducible exact Calls.quiet_of_same (c2 _)))
            have HBe := hide (HBx.out nq)
            clear HBx
            generalize W2.drewN nq = we at *
            go_wp2_with fail
            go_ret
            exact ⟨by rw [HF.out]; rfl, HBe.out⟩
        · obtain rfl : m = nA := by omega
          have HF : Hid (AB = true) := by show _ = _; rw [HAB4.out, HG.out]
          have HBw : Hid (Below w.heap.size w wr) := bnext HWB.out (Nat.le_refl _) hb
          clear HAB4 HG HP HZ
          go_wp2_with fail
          go_ret
          exact ⟨by rw [HF.out]; rfl, HBw.out⟩

end Go.Proofs.Ytcdpnofjahdieaa

/- Archives: is a shelf right: the specification. -/
import Derived.Test.YtcdpnofjahdieaaAre
import Derived.Test.YtcdpnofjahdieaaArq
namespace Go.Proofs.Ytcdpnofjahdieaa
open Go.RowKit

theorem shfB_all (E : Nat → SCopy) (n : Nat) : shfB E n = (decide (n ≤ 200) && allG (fun k => ((keyB (E k).f0 (E k).f1 && prvB (fun k => (E k).f0) (fun k => (E k).f1) k) && (sumB (E k).f3 && decide ((E k).f2.size ≤ 2048)))) n) := by
  unfold shfB ordB
  rw [allG_and (fun k => keyB (E k).f0 (E k).f1 && prvB (fun k => (E k).f0) (fun k => (E k).f1) k) (fun k => sumB (E k).f3 && decide ((E k).f2.size ≤ 2048)), Bool.and_assoc]
theorem prvB_pos (nm : Nat → ByteArray) (ve : Nat → Int) (k : Nat) (h : 0 < k) : prvB nm ve k = lessM (nm (k - 1)) (ve (k - 1)) (nm k) (ve k) := by
  obtain ⟨j, rfl⟩ : ∃ j, k = j + 1 := ⟨k - 1, by omega⟩
  rfl

set_option maxRecDepth 100000 in
set_option maxHeartbeats 4000000 in
theorem l14Shelf_any (a : Option Addr) (n cap : Nat) (E : Nat → SCopy) (hl : n ≤ 1048576) (hs : ∀ i, i < n → eCopy E i ≤ 1048576) (w : World) (h : PxG a (n * 4) (FCopy E) w) :
    Calls Try.prog 37 #[.slice a n cap] w fun e w' => e = .returned (.bool (shfB E n)) ∧ Below w.heap.size w w' := by
  by_cases hn : 200 < n
  · have e : shfB E n = false := by unfold shfB ordB; rw [decide_eq_false (by omega)]; rfl
    rw [e]
    clear h
    go_enter Try.func37, Try.ntmps37
    go_wp2_with fail
    go_ret
    exact ⟨rfl, Below.refl _ _⟩
  have HOR : Hid (shfB E n = allG (fun k => ((keyB (E k).f0 (E k).f1 && prvB (fun k => (E k).f0) (fun k => (E k).f1) k) && (sumB (E k).f3 && decide ((E k).f2.size ≤ 2048)))) n) := by show _ = _; rw [shfB_all, decide_eq_true (by omega)]; rfl
  have HP := hide h
  have HSZ := hide hs
  clear h hs
  go_enter Try.func37, Try.ntmps37
  go_wp2_with fail
  go_loopw [3] (fun i wr => ∃ k : Nat, k ≤ n ∧ i = .int .i64 k ∧ Hid (allG (fun k => ((keyB (E k).f0 (E k).f1 && prvB (fun k => (E k).f0) (fun k => (E k).f1) k) && (sumB (E k).f3 && decide ((E k).f2.size ≤ 2048)))) k = true) ∧ Below w.heap.size w wr) (fun i _ => n - (intOf i).toNat)
  case atStart => exact ⟨0, by omega, rfl, hide rfl, Below.refl _ _⟩
  case round =>
    obtain ⟨k, hk, rfl, HG, hb⟩ := hrel
    by_cases hlt : k < n
    · have HPw := hide (HP.out.below hb)
      obtain ⟨b, off, rfl, z0, z1, z2, z3⟩ := HPw.out.atCopy hlt
      have hsz := HSZ.out k hlt
      unfold eCopy at hsz
      have HNO : Hid (((keyB (E k).f0 (E k).f1 && prvB (fun k => (E k).f0) (fun k => (E k).f1) k) && (sumB (E k).f3 && decide ((E k).f2.size ≤ 2048))) = false → shfB E n = false) := fun h9 => by rw [HOR.out]; exact allG_no k hlt h9
      have HYE : Hid (((keyB (E k).f0 (E k).f1 && prvB (fun k => (E k).f0) (fun k => (E k).f1) k) && (sumB (E k).f3 && decide ((E k).f2.size ≤ 2048))) = true → allG (fun k => ((keyB (E k).f0 (E k).f1 && prvB (fun k => (E k).f0) (fun k => (E k).f1) k) && (sumB (E k).f3 && decide ((E k).f2.size ≤ 2048)))) (k + 1) = true) := fun h9 => by simp only [allG]; rw [HG.out, h9]; rfl
      have HB := hide hb
      have HBd := hide (fun d => below_drewN HB.out d)
      have cK := l14Key_any (E k).f0 (E k).f1 (by omega)
      have cS := l1In_any (E k).f3 0 2305843009213693950
      have hsum : inB (E k).f3 0 2305843009213693950 = sumB (E k).f3 := rfl
      rw [hsum] at cS
      clear hsum hb HG HOR
      cases h1 : keyB (E k).f0 (E k).f1 with
      | false =>
        have HF := hide (HNO.out (by rw [h1]; simp))
        rw [h1] at cK
        clear HNO HYE h1 cS HP HSZ HPw HB
        generalize (E k).f0 = x0 at *
        generalize (E k).f1 = x1 at *
        generalize (E k).f2 = x2 at *
        generalize (E k).f3 = x3 at *
        go_upto_region 6 with fail
        go_quiet ((go_at_call 35; exact Calls.quiet_of_same (cK _)))
        have HBq := hide (HBd.out nq)
        clear HBd
        generalize wr.drewN nq = wq at *
        go_wp2_with fail
        go_ret
        exact ⟨by rw [HF.out]; rfl, HBq.out⟩
      | true =>
      rw [h1] at cK
      by_cases h2 : (E k).f2.size ≤ 2048
      · have h2' : ¬ (2048 : Int) < ((E k).f2.size : Int) := by omega
        cases h3 : sumB (E k).f3 with
        | false =>
          have HF := hide (HNO.out (by rw [h3]; simp))
          rw [h3] at cS
          clear HNO HYE h1 h3 HP HSZ HPw HB
          generalize (E k).f0 = x0 at *
          generalize (E k).f1 = x1 at *
          generalize (E k).f2 = x2 at *
          generalize (E k).f3 = x3 at *
          go_upto_region 6 with fail
          go_quiet (first | (go_at_call 35; exact Calls.quiet_of_same (cK _)) | (go_at_call 34; exact Calls.quiet_of_same (cS _)))
          have HBq := hide (HBd.out nq)
          clear HBd
          generalize wr.drewN nq = wq at *
          go_wp2_with fail
          go_ret
          exact ⟨by rw [HF.out]; rfl, HBq.out⟩
        | true =>
          rw [h3] at cS
          have HE5 : Hid (prvB (fun k => (E k).f0) (fun k => (E k).f1) k = true → ((keyB (E k).f0 (E k).f1 && prvB (fun k => (E k).f0) (fun k => (E k).f1) k) && (sumB (E k).f3 && decide ((E k).f2.size ≤ 2048))) = true) := fun h9 => by rw [h1, h3, h9]; simp; omega
          have HE6 : Hid (prvB (fun k => (E k).f0) (fun k => (E k).f1) k = false → ((keyB (E k).f0 (E k).f1 && prvB (fun k => (E k).f0) (fun k => (E k).f1) k) && (sumB (E k).f3 && decide ((E k).f2.size ≤ 2048))) = false) := fun h9 => by rw [h9]; simp
          have HPd := hide (fun d => HPw.out.below (below_drewN (Below.refl _ _) d))
          have H1 := hide h1
          have H3 := hide h3
          have HX0 := hide (@rfl _ (E k).f0)
          clear h1 h3
          obtain ⟨x0, e0⟩ : ∃ x0, x0 = (E k).f0 := ⟨_, rfl⟩
          obtain ⟨x1, e1⟩ : ∃ x1, x1 = (E k).f1 := ⟨_, rfl⟩
          obtain ⟨x2, e2⟩ : ∃ x2, x2 = (E k).f2 := ⟨_, rfl⟩
          obtain ⟨x3, e3⟩ : ∃ x3, x3 = (E k).f3 := ⟨_, rfl⟩
          have HE0 := hide e0
          have HE1 := hide e1
          rw [← e0] at z0 cK
          rw [← e1] at z1 cK
          rw [← e2] at z2 h2'
          rw [← e3] at z3 cS
          clear e0 e1 e2 e3 h2
          go_upto_region 6 with fail
          go_quiet (first | (go_at_call 35; exact Calls.quiet_of_same (cK _)) | (go_at_call 34; exact Calls.quiet_of_same (cS _)))
          have HBq := hide (HBd.out nq)
          have HPq := hide (HPd.out nq)
          clear HBd HPd HPw HB z0 z1 z2 z3 cK cS h2'
          generalize wr.drewN nq = wq at *
          have HBd := hide (fun d => below_drewN HBq.out d)
          rcases Nat.eq_zero_or_pos k with hk0 | hk0
          · subst hk0
            have HF := hide (HYE.out (HE5.out rfl))
            clear HNO HYE HE5 HE6 HP HSZ HPq HBq
            have q0 : ¬ (0 : Int) < ((0 : Nat) : Int) := by decide
            go_wp2_with fail
            go_quiet (fail)
            have HBe := hide (HBd.out nq)
            clear HBd
            generalize wq.drewN nq = we at *
            go_wp2_with fail
            go_roundw
            case rel => exact ⟨0 + 1, by omega, by go_num, HF, HBe.out⟩
            case measure => simp [intOf]; omega
          · have hkp : (0 : Int) < (k : Int) := by omega
            obtain ⟨b', off', eb, v0, v1, -, -⟩ := HPq.out.atCopy (k := k - 1) (by omega)
            cases eb
            obtain ⟨b', off', eb, z0, z1, -, -⟩ := HPq.out.atCopy hlt
            cases eb
            obtain ⟨j, hj⟩ : ∃ j : Nat, j = k - 1 := ⟨_, rfl⟩
            have hji : (k : Int) - 1 = (j : Int) := by omega
            have hjn : (j : Int) < (n : Int) := by omega
            have hjw : IntKind.i64.wrap ((k : Int) - 1) = (j : Int) := by rw [IntKind.wrap_i64]; omega
            rw [← hj] at v0 v1
            have HPV := hide (prvB_pos (fun k => (E k).f0) (fun k => (E k).f1) k hk0)
            have cL := l14Less_any (E j).f0 (E j).f1 x0 x1
            have HPV2 : Hid (prvB (fun k => (E k).f0) (fun k => (E k).f1) k = lessM (E j).f0 (E j).f1 x0 x1) := by show _ = _; rw [HPV.out, HE0.out, HE1.out, hj]
            rw [← HE0.out] at z0
            rw [← HE1.out] at z1
            clear HPV hj HPq HE0 HE1
            generalize prvB (fun k => (E k).f0) (fun k => (E k).f1) k = PV at *
            rw [← HPV2.out] at cL
            generalize (E j).f0 = u0 at *
            generalize (E j).f1 = u1 at *
            cases h4 : PV with
            | false =>
              have HF := hide (HNO.out (HE6.out h4))
              rw [h4] at cL
              clear HNO HYE HE5 HE6 HP HSZ HBq HPV2 h4
              go_wp2_with fail
              go_quiet ((go_at_call 36; exact Calls.quiet_of_same (cL _)))
              have HBe := hide (HBd.out nq)
              clear HBd
              generalize wq.drewN nq = we at *
              go_wp2_with fail
              go_ret
              exact ⟨by rw [HF.out]; rfl, HBe.out⟩
            | true =>
              have HF := hide (HYE.out (HE5.out h4))
              rw [h4] at cL
              clear HNO HYE HE5 HE6 HP HSZ HBq HPV2 h4
              go_wp2_with fail
              go_quiet ((go_at_call 36; exact Calls.quiet_of_same (cL _)))
              have HBe := hide (HBd.out nq)
              clear HBd
              generalize wq.drewN nq = we at *
              go_wp2_with fail
              go_roundw
              case rel => exact ⟨k + 1, by omega, by go_num, HF, HBe.out⟩
              case measure => simp [intOf]; omega
      · have h2' : (2048 : Int) < ((E k).f2.size : Int) := by omega
        have HF := hide (HNO.out (by rw [decide_eq_false h2]; simp))
        clear HNO HYE h1 h2 cS HP HSZ HPw HB
        generalize (E k).f0 = x0 at *
        generalize (E k).f1 = x1 at *
        generalize (E k).f2 = x2 at *
        generalize (E k).f3 = x3 at *
        go_upto_region 6 with fail
        go_quiet ((go_at_call 35; exact Calls.quiet_of_same (cK _)))
        have HBq := hide (HBd.out nq)
        clear HBd
        generalize wr.drewN nq = wq at *
        go_wp2_with fail
        go_ret
        exact ⟨by rw [HF.out]; rfl, HBq.out⟩
    · obtain rfl : k = n := by omega
      have HF : Hid (shfB E k = true) := by show _ = _; rw [HOR.out, HG.out]
      clear HOR HG HP HSZ
      go_wp2
      go_ret
      exact ⟨by rw [HF.out]; rfl, hb⟩

end Go.Proofs.Ytcdpnofjahdieaa

/- Leaves: the program. -/
import Derived.Test.YtfpeobkncileiaaStp
import Derived.Test.YtfpeobkncileiaaLls
namespace Go.Proofs.Ytfpeobkncileiaa
open Go.RowKit

set_option maxRecDepth 100000 in
set_option maxHeartbeats 16000000 in
theorem gatherLeaves_any (a : Option Addr) (m cap : Nat) (g : Nat → Int) (U D : List Int) (hm : m ≤ 65000) (hg : ∀ k, k < m → g (k * 3) = U.getD k 0 ∧ g (k * 3 + 1) = D.getD k 0 ∧ g (k * 3 + 2) = 1) (w : World) (h : Px a (m * 3) g w) :
    Calls Try.prog 18 #[.slice a m cap] w fun e w' => ∃ v, e = .returned v ∧ w'.ownsRow w.heap.size 42 3 v (gtc U D m) (ints (gat U D m)) ∧ Below w.heap.size w w' := by
  have HP := hide h
  have HGg := hide hg
  clear h hg
  go_enter Try.func18, Try.ntmps18
  go_wp2_with fail
  go_loopw [3, 5, 6, 9] (fun v3 _ _ i wr => ∃ j : Nat, j ≤ m ∧ i = .int .i64 j ∧ wr.ownsRow w.heap.size 42 3 v3 (gtc U D j) (ints (gat U D j)) ∧ Below w.heap.size w wr) (fun _ _ _ i _ => m - (intOf i).toNat)
  case atStart => exact ⟨0, by omega, rfl, World.ownsRow_nil _ _ _ _, Below.refl _ _⟩
  case round =>
    obtain ⟨j, hj, rfl, ho3, hb⟩ := hrel
    by_cases hlt : j < m
    · obtain ⟨b, off, rfl, hbl, z0, z1, z2⟩ := (HP.out.below hb).atLeaf hlt
      obtain ⟨e0, e1, e2⟩ := HGg.out j hlt
      rw [e0] at z0
      rw [e1] at z1
      rw [e2] at z2
      have HT := hide (fun h => gat_t (U := U) (D := D) (k := j) h)
      have HFf := hide (fun h => gat_f (U := U) (D := D) (k := j) h)
      have hgl := gat_len U D j
      have hgu := gat_unit U D j
      obtain ⟨X, hX⟩ : ∃ X, U.getD j 0 = X := ⟨_, rfl⟩
      obtain ⟨Y, hY⟩ : ∃ Y, D.getD j 0 = Y := ⟨_, rfl⟩
      rw [hX] at z0 HT HFf
      rw [hY] at z1 HT HFf
      obtain ⟨wa, hwa⟩ : ∃ wa, wa = wr.alloc (.cells #[.int .i64 X, .int .i64 Y, .int .i64 1] 42) := ⟨_, rfl⟩
      have hSa : St w [(wr.heap.size, [.int .i64 X, .int .i64 Y, .int .i64 1])] [] wa := by rw [hwa]; exact ((St.start w).next hb).box [_, _, _] _
      have hoa : wa.ownsRow w.heap.size 42 3 u3 (gtc U D j) (ints (gat U D j)) := by rw [hwa]; exact ho3.alloc _
      have HSd0 := hide (fun d => hSa.next (below_drewN (Below.refl wa.heap.size wa) d))
      have HOd0 := hide (fun d => ownsRow_below' hoa (below_drewN (Below.refl wa.heap.size wa) d))
      obtain ⟨i0, i1, i2⟩ := hSa.im3 0 rfl
      have hbb : wr.heap.size < wa.heap.size := by rw [hwa]; simp
      have hne : ∀ q, Value.ownBlock u3 = some q → q < wr.heap.size := owns_lt ho3
      have hwa' := hwa.symm
      clear hX hY e0 e1 e2 HP HGg hwa hb hbl ho3
      rcases Nat.eq_zero_or_pos (gtc U D j) with hc0 | hcp
      · have hgn : gat U D j = [] := List.eq_nil_of_length_eq_zero (by rw [hgl.1, hc0])
        have HG := hide (HFf.out (by rw [hgn]; rfl))
        have hv3 : ∃ x y, u3 = .slice x 0 y := by
          rcases hoa.2 with ⟨hv, h0⟩ | ⟨g', c', cur, hv, _⟩
          · exact ⟨none, 0, hv⟩
          · exact ⟨_, _, by rw [hv, hc0]⟩
        obtain ⟨x3, y3, rfl⟩ := hv3
        have HNL : Hid (gtc U D j ≤ 1048576) := by show _ ≤ _; omega
        clear hgn HT HFf hgu hgl hoa hc0 hSa hbb hne
        go_upto_region 6 with fail
        generalize wr.heap.size = C at *
        go_quiet (fail)
        have HOd := hide (HOd0.out nq)
        have HSd := hide (HSd0.out nq)
        clear HOd0 HSd0 i0 i1 i2
        generalize wa.drewN nq = wd at *
        obtain ⟨i0, i1, i2⟩ := HSd.out.im3 0 rfl
        have HBd := hide HSd.out.below
        have HZd := hide HBd.out.size
        clear HSd
        go_upto_region 8 with fail
        go_wp2_with (refine growLf _ rfl _ _ rfl w.heap.size _ _ (gat U D j) rfl w HOd.out HBd.out HZd.out X Y 1 rfl HNL.out ?_)
        intro v' w7 ho1 hb1 hs1 hk1 hm1
        have HO1 : Hid (w7.ownsRow w.heap.size 42 3 v' (gtc U D (j + 1)) (ints (gat U D (j + 1)))) := by
          rw [HG.out.1, HG.out.2]; exact ho1
        have HB1 := hide hb1
        clear ho1 hb1 hs1 hk1 hm1 HOd HBd HZd HNL HG i0 i1 i2
        go_wp2_with fail
        exact ⟨⟨j + 1, by omega, rfl, HO1.out, HB1.out⟩, by simp [intOf]; omega⟩
      · obtain ⟨b3, y3, rfl, hB3, hc3⟩ := own_partsF hoa hcp
        obtain ⟨c, hc⟩ : ∃ c, gtc U D j = c + 1 := ⟨gtc U D j - 1, by omega⟩
        have s0 := (hc3 (c * 3) (by omega)).1
        have s1 := (hc3 (c * 3 + 1) (by omega)).1
        obtain ⟨s2, s3⟩ := hc3 (c * 3 + 2) (by omega)
        have e0 : (gat U D j).length - 3 = c * 3 := by omega
        have e1 : (gat U D j).length - 2 = c * 3 + 1 := by omega
        have e2 : (gat U D j).length - 1 = c * 3 + 2 := by omega
        have HLb : Hid (∀ p q, (decide ((gat U D j).getD (c * 3) 0 = X) = p) → (decide ((gat U D j).getD (c * 3 + 1) 0 = Y) = q) → lasB (gat U D j) X Y = (p && q)) := fun p q hp hq => by
          unfold lasB
          rw [e0, e1, hp, hq, decide_eq_true (by omega : 0 < (gat U D j).length), Bool.true_and]
        rw [e2] at HT hgu
        have hc9 : c + 1 ≤ 65000 := by omega
        have HNL : Hid (gtc U D j ≤ 1048576) := by show _ ≤ _; omega
        rw [hc] at HOd0 hcp HT HFf hoa HNL ⊢
        have hcl : ((c + 1 : Nat) : Int) - 1 = (c : Int) := by omega
        have hcl2 : (c : Int) < ((c + 1 : Nat) : Int) := by omega
        have hcl0 : (0 : Int) ≤ (c : Int) := by omega
        have hCb := hne b3 rfl
        obtain ⟨E0, hE0⟩ : ∃ E, (gat U D j).getD (c * 3) 0 = E := ⟨_, rfl⟩
        obtain ⟨E1, hE1⟩ : ∃ E, (gat U D j).getD (c * 3 + 1) 0 = E := ⟨_, rfl⟩
        obtain ⟨E2, hE2⟩ : ∃ E, (gat U D j).getD (c * 3 + 2) 0 = E := ⟨_, rfl⟩
        have HSf : Hid (∀ d, ((wa.drewN d).drew.setCell ⟨b3, c * 3 + 2, none⟩ (.int .i64 (E2 + 1))).ownsRow w.heap.size 42 3 (.slice (some ⟨b3, 0, none⟩) (c + 1) y3) (c + 1) (ints ((gat U D j).set (c * 3 + 2) (E2 + 1)))) := fun d => own_setF (HOd0.out d).drew (c * 3 + 2) (E2 + 1)
        have HBe : Hid (∀ d, Below w.heap.size w ((wa.drewN d).drew.setCell ⟨b3, c * 3 + 2, none⟩ (.int .i64 (E2 + 1)))) := fun d => ((HSd0.out d).below.drew).setCell (p := ⟨b3, c * 3 + 2, none⟩) hB3 _
        rw [hE0] at s0 HLb
        rw [hE1] at s1 HLb
        rw [hE2] at s2 hgu HT
        clear e0 e1 e2 hE0 hE1 hE2 hc3 hgl hoa hc hSa hne
        by_cases q1 : E0 = X
        · by_cases q2 : E1 = Y
          · have p1 : (E0 == X) = true := by simp [q1]
            have p2 : (E1 == Y) = true := by simp [q2]
            have HG := hide (HT.out (HLb.out true true (decide_eq_true q1) (decide_eq_true q2)))
            have wv : IntKind.i64.wrap (E2 + 1) = E2 + 1 := by rw [IntKind.wrap_i64]; omega
            have HSe : Hid (∀ d, ((wa.drewN d).drew.setCell ⟨b3, c * 3 + 2, none⟩ (.int .i64 (E2 + 1))).ownsRow w.heap.size 42 3 (.slice (some ⟨b3, 0, none⟩) (c + 1) y3) (gtc U D (j + 1)) (ints (gat U D (j + 1)))) := fun d => by
              rw [HG.out.1, HG.out.2]; exact HSf.out d
            have HT2 : Hid (∀ d, (wa.drewN d).cell? ⟨b3, c * 3 + 2, none⟩ = some (.int .i64 E2) ∧ (wa.drewN d).frozen? ⟨b3, c * 3 + 2, none⟩ = false) := fun d => ⟨s2, s3⟩
            clear q1 q2 HLb HT HFf HSf HOd0 HG HNL hgu
            go_upto_region 6 with fail
            generalize wr.heap.size = C at *
            go_quiet (fail)
            have HSe := hide (HSe.out nq)
            have HBe := hide (HBe.out nq)
            have HSd := hide (HSd0.out nq)
            obtain ⟨s2, s3⟩ := HT2.out nq
            clear s0 s1 i0 i1 i2 HSd0
            generalize wa.drewN nq = wd at *
            obtain ⟨i0, i1, i2⟩ := HSd.out.im3 0 rfl
            go_upto_region 7 with fail
            go_region_with (fail)
            all_goals
              clear i0 i1 i2 s2 s3 wv HSd
              go_wp2_with fail
              exact ⟨⟨j + 1, by omega, rfl, HSe.out, HBe.out⟩, by simp [intOf]; omega⟩
          · have p1 : (E0 == X) = true := by simp [q1]
            have p2 : (E1 == Y) = false := by simp [q2]
            have HG := hide (HFf.out (HLb.out true false (decide_eq_true q1) (decide_eq_false q2)))
            clear q1 q2 HLb HT HFf hgu s2 s3 HSf HBe
            go_upto_region 6 with fail
            generalize wr.heap.size = C at *
            go_quiet (fail)
            have HOd := hide (HOd0.out nq)
            have HSd := hide (HSd0.out nq)
            clear HOd0 HSd0 i0 i1 i2 s0 s1
            generalize wa.drewN nq = wd at *
            obtain ⟨i0, i1, i2⟩ := HSd.out.im3 0 rfl
            have HBd := hide HSd.out.below
            have HZd := hide HBd.out.size
            clear HSd
            go_upto_region 8 with fail
            go_wp2_with (refine growLf _ rfl _ _ rfl w.heap.size _ _ (gat U D j) rfl w HOd.out HBd.out HZd.out X Y 1 rfl HNL.out ?_)
            intro v' w7 ho1 hb1 hs1 hk1 hm1
            have HO1 : Hid (w7.ownsRow w.heap.size 42 3 v' (gtc U D (j + 1)) (ints (gat U D (j + 1)))) := by
              rw [HG.out.1, HG.out.2]; exact ho1
            have HB1 := hide hb1
            clear ho1 hb1 hs1 hk1 hm1 HOd HBd HZd HNL HG i0 i1 i2
            go_wp2_with fail
            exact ⟨⟨j + 1, by omega, rfl, HO1.out, HB1.out⟩, by simp [intOf]; omega⟩
        · have p1 : (E0 == X) = false := by simp [q1]
          have HG := hide (HFf.out (HLb.out false _ (decide_eq_false q1) rfl))
          clear q1 HLb HT HFf hgu s2 s3 HSf HBe
          go_upto_region 6 with fail
          generalize wr.heap.size = C at *
          go_quiet (fail)
          have HOd := hide (HOd0.out nq)
          have HSd := hide (HSd0.out nq)
          clear HOd0 HSd0 i0 i1 i2 s0 s1
          generalize wa.drewN nq = wd at *
          obtain ⟨i0, i1, i2⟩ := HSd.out.im3 0 rfl
          have HBd := hide HSd.out.below
          have HZd := hide HBd.out.size
          clear HSd
          go_upto_region 8 with fail
          go_wp2_with (refine growLf _ rfl _ _ rfl w.heap.size _ _ (gat U D j) rfl w HOd.out HBd.out HZd.out X Y 1 rfl HNL.out ?_)
          intro v' w7 ho1 hb1 hs1 hk1 hm1
          have HO1 : Hid (w7.ownsRow w.heap.size 42 3 v' (gtc U D (j + 1)) (ints (gat U D (j + 1)))) := by
            rw [HG.out.1, HG.out.2]; exact ho1
          have HB1 := hide hb1
          clear ho1 hb1 hs1 hk1 hm1 HOd HBd HZd HNL HG i0 i1 i2
          go_wp2_with fail
          exact ⟨⟨j + 1, by omega, rfl, HO1.out, HB1.out⟩, by simp [intOf]; omega⟩
    · obtain rfl : j = m := by omega
      have HO := hide ho3
      have HB := hide hb
      clear ho3 hb HP HGg
      go_wp2_with fail
      go_ret
      exact ⟨_, rfl, HO.out, HB.out⟩

end Go.Proofs.Ytfpeobkncileiaa

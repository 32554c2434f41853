/- The law on phases, walked. -/
import Derived.Test.YtlfpiifbbicbpaaDpu
import Derived.BigQuiet
import Derived.Deep.QuietTactic
import Derived.Deep.RegionHeld
namespace Go.Proofs.Ytlfpiifbbicbpaa
open Go.RowKit

/-- the first k numbers are small, and so are their steps -/
def PhP (h : Nat) (f : Nat → Int) (k : Nat) : Prop := ∀ j, j < k → -100000000 ≤ f j ∧ f j ≤ 100000000 ∧ (∀ i, j = i + 1 → -(h : Int) ≤ f j - f i ∧ f j - f i < h)

theorem wrp_small {h : Nat} (x : Int) : ∃ t : Int, x - wrp h x = t * (2 * (h : Int)) := by
  refine ⟨(x + h) / ((2 * h : Nat) : Int), ?_⟩
  have e := Int.emod_add_mul_ediv (x + h) ((2 * h : Nat) : Int)
  unfold wrp
  have e2 : ((2 * h : Nat) : Int) = 2 * (h : Int) := by omega
  rw [e2] at e ⊢
  rw [Int.mul_comm ((x + h) / (2 * (h : Int))) (2 * (h : Int))]
  omega
theorem wrp_eq {h : Nat} {x d t : Int} (hd : x - d = t * (2 * (h : Int))) (l : -(h : Int) ≤ d) (u : d < h) : wrp h x = d := by
  unfold wrp
  have e : x + h = (d + h) + (2 * (h : Int)) * t := by rw [Int.mul_comm (2 * (h : Int)) t, ← hd]; omega
  have e2 : ((2 * h : Nat) : Int) = 2 * (h : Int) := by omega
  rw [e2, e, Int.add_mul_emod_self_left, Int.emod_eq_of_lt (by omega) (by omega)]
  omega

/-- what is wrapped is unwrapped to itself, but for its beginning -/
theorem unw_wrp {h : Nat} {f : Nat → Int} {n : Nat} (hp : PhP h f n) : ∀ k, k < n → unwF h (wrpF h f) k = wrpF h f 0 + (f k - f 0)
  | 0, _ => by simp [unwF]
  | k + 1, hk => by
    have ih := unw_wrp hp k (by omega)
    obtain ⟨t1, e1⟩ := wrp_small (h := h) (f (k + 1))
    obtain ⟨t2, e2⟩ := wrp_small (h := h) (f k)
    obtain ⟨_, _, hs⟩ := hp (k + 1) hk
    obtain ⟨l, u⟩ := hs k rfl
    have e : wrp h (wrpF h f (k + 1) - wrpF h f k) = f (k + 1) - f k := by
      refine wrp_eq (t := t2 - t1) ?_ l u
      unfold wrpF
      rw [Int.toNat_natCast, Int.sub_mul]
      omega
    show unwF h (wrpF h f) k + wrp h (wrpF h f (k + 1) - wrpF h f k) = _
    rw [ih, e]
    omega

theorem allB_of {f : Nat → Int} : ∀ {n : Nat}, (∀ k, k < n → -1000000000 ≤ f k ∧ f k ≤ 1000000000) → allB f n = true
  | 0, _ => rfl
  | n + 1, h => by
    obtain ⟨h1, h2⟩ := h n (by omega)
    exact allB_step (allB_of fun k hk => h k (by omega)) (inB_bd h1 h2)
theorem phB_of {h : Nat} (h1 : 1 ≤ h) (h2 : h ≤ 1000000) {n : Nat} (hn : n ≤ 4096) {f : Nat → Int} (ha : allB f n = true) : phB h n f = true := by
  unfold phB inB
  rw [ha, decide_eq_true hn, decide_eq_true (by omega), decide_eq_true (by omega)]
  rfl
theorem wrpF_bd {h : Nat} (h1 : 1 ≤ h) (f : Nat → Int) (k : Nat) : -(h : Int) ≤ wrpF h f k ∧ wrpF h f k < h := by
  unfold wrpF
  rw [Int.toNat_natCast]
  exact wrp_bd h1 _

theorem Px.drewN {a : Option Addr} {len : Nat} {f : Nat → Int} {w : World} (h : Px a len f w) (n : Nat) : Px a len f (w.drewN n) := h

set_option maxRecDepth 100000 in
set_option maxHeartbeats 2000000 in
theorem fnPhase_walk (a : Option Addr) (len cap : Nat) (w : World) (h : Bytes a len w) :
    Calls Try.prog 3 #[.slice a len cap] w fun e w' => e = .returned (.bool true) ∧ Below w.heap.size w w' := by
  have hbig := big_any a len cap w
  have cD := drawUnwrap_any a len cap w h
  clear h
  by_cases hb : 1048576 < len
  · rw [decide_eq_true hb] at hbig
    clear hb cD
    go_enter Try.func3, Try.ntmps3
    go_wp2_with fail
    refine hbig.mono ?_
    rintro e w1 ⟨rfl, rfl⟩
    go_wp2_with fail
    go_ret
    exact ⟨rfl, Below.refl _ _⟩
  rw [decide_eq_false hb] at hbig
  clear hb
  go_enter Try.func3, Try.ntmps3
  go_wp2_with fail
  refine hbig.mono ?_
  rintro e w1 ⟨rfl, rfl⟩
  clear hbig
  go_wp2_with fail
  refine cD.mono ?_
  rintro e w2 ⟨x, n, c, f, half, rfl, hn, hpx, hb⟩
  have HB2 := hide hb
  have HP := hide hpx
  clear cD hb hpx
  by_cases t1 : half < 1
  · go_wp2_with fail
    go_ret
    exact ⟨rfl, HB2.out⟩
  by_cases t2 : 1000000 < half
  · go_wp2_with fail
    go_ret
    exact ⟨rfl, HB2.out⟩
  by_cases t3 : n = 0
  · subst t3
    go_wp2_with fail
    go_ret
    exact ⟨rfl, HB2.out⟩
  obtain ⟨m, rfl, m1, m2⟩ : ∃ m : Nat, half = (m : Int) ∧ 1 ≤ m ∧ m ≤ 1000000 := ⟨half.toNat, by omega, by omega, by omega⟩
  obtain ⟨b, off, rfl, hz0⟩ := HP.out.at (show 0 < n by omega)
  rw [Nat.add_zero] at hz0
  have t3' : ((n : Int) == 0) = false := by simp; omega
  have t4 : ¬ (4096 : Int) < (n : Int) := by omega
  have HZ0 := hide hz0
  clear hz0
  go_wp2_with fail
  go_loopw [5] (fun i wr => ∃ k d : Nat, k ≤ n ∧ i = .int .i64 k ∧ wr = w2.drewN d ∧ PhP m f k) (fun i _ => n - (intOf i).toNat)
  case atStart => exact ⟨0, 0, by omega, rfl, rfl, fun j hj => by omega⟩
  case round =>
    obtain ⟨k, d, hk, rfl, rfl, hpp⟩ := hrel
    have HPP := hide hpp
    have HBd : Hid (∀ d e, Below w1.heap.size w1 ((w2.drewN d).drewN e)) := fun d e => below_drewN (below_drewN HB2.out d) e
    have HBe : Hid (∀ d, Below w1.heap.size w1 (w2.drewN d)) := fun d => below_drewN HB2.out d
    by_cases hlt : k < n
    · obtain ⟨_, _, heq, hz⟩ := HP.out.at hlt
      cases heq
      have hkn : (k : Int) < (n : Int) := by omega
      have HKk : Hid (PhP m f k) := HPP.out
      clear HPP hpp
      by_cases r1 : f k < -100000000
      · generalize f k = y1 at *
        go_upto_region 9 with fail
        go_quiet (fail)
        go_wp2_with fail
        go_ret
        exact ⟨rfl, by first | exact HBd.out _ _ | exact HBe.out _⟩
      have r1' : decide (f k < -100000000) = false := decide_eq_false r1
      by_cases r2 : 100000000 < f k
      · generalize f k = y1 at *
        go_upto_region 9 with fail
        go_quiet (fail)
        go_wp2_with fail
        go_ret
        exact ⟨rfl, by first | exact HBd.out _ _ | exact HBe.out _⟩
      have r2' : decide (100000000 < f k) = false := decide_eq_false r2
      by_cases k0 : k = 0
      · subst k0
        have HN : Hid (PhP m f (0 + 1)) := fun j hj => by
          obtain rfl : j = 0 := by omega
          exact ⟨by omega, by omega, fun i hi => by omega⟩
        rw [Nat.add_zero] at hz
        generalize f 0 = y1 at *
        go_upto_region 9 with fail
        go_quiet (fail)
        go_wp2_with fail
        exact ⟨⟨0 + 1, _, by omega, rfl, rfl, HN.out⟩, by simp [intOf]; omega⟩
      · obtain ⟨j, hj⟩ : ∃ j, k = j + 1 := ⟨k - 1, by omega⟩
        have kp : (0 : Int) < (k : Int) := by omega
        have kpn : 0 < k := by omega
        have kd2 : decide (0 < k) = true := decide_eq_true kpn
        have kd1 : decide ((0 : Int) < (k : Int)) = true := decide_eq_true kp
        have hjn : (j : Int) < (n : Int) := by omega
        have hi1 : IntKind.i64.wrap ((k : Int) - 1) = (j : Int) := by rw [IntKind.wrap_i64]; omega
        obtain ⟨_, _, heq, hy⟩ := HP.out.at (show j < n by omega)
        cases heq
        obtain ⟨g1, g2, _⟩ := HKk.out j (by omega)
        obtain ⟨D, hD⟩ : ∃ D, D = f k - f j := ⟨_, rfl⟩
        have w1 : IntKind.i64.wrap (f k - f j) = D := by rw [IntKind.wrap_i64]; omega
        have hneg : IntKind.i64.wrap (-(m : Int)) = -(m : Int) := by rw [IntKind.wrap_i64]; omega
        have HN : Hid (-(m : Int) ≤ D → D < (m : Int) → PhP m f (k + 1)) := fun l u q hq => by
          by_cases e : q = k
          · subst e
            refine ⟨by omega, by omega, fun i hi => ?_⟩
            obtain rfl : i = j := by omega
            exact ⟨by omega, by omega⟩
          · exact HKk.out q (by omega)
        clear hj hD
        generalize f k = y1 at *
        generalize f j = y0 at *
        by_cases r3 : D < -(m : Int)
        · go_upto_region 9 with fail
          go_quiet (fail)
          go_wp2_with fail
          go_ret
          exact ⟨rfl, by first | exact HBd.out _ _ | exact HBe.out _⟩
        have r3' : decide (D < -(m : Int)) = false := decide_eq_false r3
        by_cases r4 : (m : Int) ≤ D
        · go_upto_region 9 with fail
          go_quiet (fail)
          go_wp2_with fail
          go_ret
          exact ⟨rfl, by first | exact HBd.out _ _ | exact HBe.out _⟩
        · have HN1 := hide (HN.out (by omega) (by omega))
          have r4' : decide ((m : Int) ≤ D) = false := decide_eq_false r4
          go_upto_region 9 with fail
          go_quiet (fail)
          go_wp2_with fail
          exact ⟨⟨k + 1, _, by omega, rfl, rfl, HN1.out⟩, by simp [intOf]; omega⟩
    · obtain rfl : k = n := by omega
      clear hpp
      have ha : allB f k = true := allB_of fun q hq => by
        obtain ⟨q1, q2, _⟩ := HPP.out q hq
        exact ⟨by omega, by omega⟩
      have hph := phB_of m1 m2 (show k ≤ 4096 by omega) ha
      have hN1 : wrpN m k f = k := by unfold wrpN; rw [hph]; rfl
      have hg : ∀ q, -(m : Int) ≤ wrpF m f q ∧ wrpF m f q < m := fun q => wrpF_bd m1 f q
      have ha2 : allB (wrpF m f) k = true := allB_of fun q _ => by
        have := hg q
        exact ⟨by omega, by omega⟩
      have hph2 := phB_of m1 m2 (show k ≤ 4096 by omega) ha2
      have hu := unw_wrp HPP.out
      have ha3 : allB (unwF m (wrpF m f)) k = true := allB_of fun q hq => by
        rw [hu q hq]
        obtain ⟨q1, q2, _⟩ := HPP.out q hq
        obtain ⟨q3, q4, _⟩ := HPP.out 0 (by omega)
        have := hg 0
        exact ⟨by omega, by omega⟩
      have hN2 : unwN m k (wrpF m f) = k := by unfold unwN unwB; rw [hph2, Int.toNat_natCast, ha3]; rfl
      have cW := implWrap_any m (some ⟨b, off, none⟩) k c f (by omega) (w2.drewN d) HP.out
      have cU := fun a1 c1 w' h => implUnwrap_any m a1 k c1 (wrpF m f) (by omega) w' h
      rw [hN1] at cW
      rw [hN2, Int.toNat_natCast] at cU
      unfold LsR at cW cU
      have HU := hide hu
      have HG := hide hg
      have hnn : ((k : Int) != (k : Int)) = false := by simp
      have hsm : ∀ q, ∃ t : Int, f q - wrpF m f q = t * (2 * (m : Int)) := fun q => by
        unfold wrpF
        rw [Int.toNat_natCast]
        exact wrp_small (f q)
      have HSm := hide hsm
      clear ha hph hN1 hg ha2 hph2 hu ha3 hN2 hsm
      go_wp2_with fail
      refine cW.mono ?_
      rintro e w3 ⟨a1, c1, b1, rfl, ho1, -, hb1⟩
      have HB3 := hide (bnext (HBe.out d) (Nat.le_refl _) hb1)
      have HP3 := hide ((HP.out.drewN d).below (w' := w3) hb1)
      obtain ⟨rfl, hr1⟩ : a1 = some ⟨b1, 0, none⟩ ∧ Row b1 k (wrpF m f) w3 := by
        rcases ho1 with h | h
        · exact absurd h t3
        · exact h
      have HR1 := hide hr1
      clear cW ho1 hb1 hr1 HBd HBe HP
      go_wp2_with fail
      refine (cU _ _ _ HR1.out.px).mono ?_
      rintro e w4 ⟨a2, c2, b2, rfl, ho2, -, hb2⟩
      have HB4 := hide (bnext HB3.out (Nat.le_refl _) hb2)
      have HP4 := hide (HP3.out.below hb2)
      have HR4 := hide (HR1.out.px.below hb2)
      obtain ⟨rfl, hr2⟩ : a2 = some ⟨b2, 0, none⟩ ∧ Row b2 k (unwF m (wrpF m f)) w4 := by
        rcases ho2 with h | h
        · exact absurd h t3
        · exact h
      have HR2 := hide hr2
      clear cU ho2 hb2 hr2 HB3 HP3 HR1 HZ0 HB2
      go_wp2_with fail
      clear hnn
      have hk0 : 0 < k := by omega
      obtain ⟨_, _, heq, z0⟩ := HP4.out.at hk0
      cases heq
      obtain ⟨_, _, heq, y0⟩ := HR4.out.at hk0
      cases heq
      have v0 := (HR2.out 0 hk0).1
      rw [Nat.add_zero] at z0 y0
      have e0 : unwF m (wrpF m f) 0 = wrpF m f 0 := rfl
      rw [e0] at v0
      have hkp : (0 : Int) < (k : Int) := by omega
      go_loopw [8] (fun i wr => ∃ q d : Nat, q ≤ k ∧ i = .int .i64 q ∧ wr = w4.drewN d) (fun i _ => k - (intOf i).toNat)
      case atStart => exact ⟨0, 0, by omega, rfl, rfl⟩
      case round =>
        obtain ⟨q, d2, hq, rfl, rfl⟩ := hrel
        by_cases hlt2 : q < k
        · obtain ⟨_, _, heq, z1⟩ := HP4.out.at hlt2
          cases heq
          obtain ⟨_, _, heq, y1⟩ := HR4.out.at hlt2
          cases heq
          rw [Nat.zero_add] at y1
          have v1 := (HR2.out q hlt2).1
          have e1 := HU.out q hlt2
          obtain ⟨g1, g2⟩ := HG.out q
          obtain ⟨g3, g4⟩ := HG.out 0
          obtain ⟨t, ht⟩ := HSm.out q
          obtain ⟨p1, p2, _⟩ := HPP.out q hlt2
          obtain ⟨p3, p4, _⟩ := HPP.out 0 hk0
          have hqn : (q : Int) < (k : Int) := by omega
          generalize f q = X1 at *
          generalize f 0 = X0 at *
          generalize wrpF m f q = G1 at *
          generalize wrpF m f 0 = G0 at *
          generalize unwF m (wrpF m f) q = U1 at *
          obtain ⟨E, hE⟩ : ∃ E, E = X1 - G1 := ⟨_, rfl⟩
          obtain ⟨P, hP⟩ : ∃ P, P = X1 - X0 := ⟨_, rfl⟩
          obtain ⟨M2, hM2⟩ : ∃ M2, M2 = 2 * (m : Int) := ⟨_, rfl⟩
          have n1 : IntKind.i64.wrap (X1 - G1) = E := by rw [IntKind.wrap_i64]; omega
          have n2 : IntKind.i64.wrap (X1 - X0) = P := by rw [IntKind.wrap_i64]; omega
          have n3 : IntKind.i64.wrap (U1 - G0) = P := by rw [IntKind.wrap_i64]; omega
          have n4 : IntKind.i64.wrap (2 * (m : Int)) = M2 := by rw [IntKind.wrap_i64]; omega
          have n5 : IntKind.i64.wrap (-(m : Int)) = -(m : Int) := by rw [IntKind.wrap_i64]; omega
          have n6 : E.tmod M2 = 0 := by rw [hE, hM2, ht]; exact Int.mul_tmod_left _ _
          have n7 : (M2 == 0) = false := by simp; omega
          have n8 : ¬ M2 = 0 := by omega
          have d1 : decide (G1 < -(m : Int)) = false := decide_eq_false (by omega)
          have d2' : decide ((m : Int) ≤ G1) = false := decide_eq_false (by omega)
          have d3 : (P != P) = false := by simp
          clear ht hE hP hM2 e1 p1 p2 p3 p4 g3 g4 HPP HU HG HSm HP4 HR4 HR2
          go_upto_region 18 with fail
          go_quiet (fail)
          go_wp2_with fail
          exact ⟨⟨q + 1, _, by omega, rfl, rfl⟩, by simp [intOf]; omega⟩
        · generalize wrpF m f 0 = G0 at *
          have HBf : Hid (∀ d, Below w1.heap.size w1 (w4.drewN d)) := fun d => below_drewN HB4.out d
          have HBg : Hid (∀ d e, Below w1.heap.size w1 ((w4.drewN d).drewN e)) := fun d e => below_drewN (below_drewN HB4.out d) e
          have d4 : (G0 == G0) = true := by simp
          clear HPP HU HG HSm HP4 HR4 HR2
          go_upto_region 20 with fail
          go_quiet (fail)
          go_wp2_with fail
          go_ret
          exact ⟨rfl, by first | exact HBf.out _ | exact HBg.out _ _⟩

end Go.Proofs.Ytlfpiifbbicbpaa

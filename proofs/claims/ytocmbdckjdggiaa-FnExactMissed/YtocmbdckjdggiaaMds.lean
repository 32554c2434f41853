/- Missed: the specification. -/
import Derived.Test.YtocmbdckjdggiaaMdm
namespace Go.Proofs.Ytocmbdckjdggiaa
open Go.RowKit

theorem misB_t1 {c a b : Int} (h : 0 < a) : misB 1 c a b = true := by unfold misB; simp [h]
theorem misB_f1 {c a b : Int} (h : ¬ 0 < a) : misB 1 c a b = false := by unfold misB; simp [h]
theorem misB_t2 {c a b : Int} (h : 0 < b) : misB 2 c a b = true := by unfold misB; simp [h]
theorem misB_f2 {c a b : Int} (h : ¬ 0 < b) : misB 2 c a b = false := by unfold misB; simp [h]
theorem misB_t3 {c a b : Int} (h : c < a) : misB 3 c a b = true := by unfold misB; simp [h]
theorem misB_f3 {c a b : Int} (h : ¬ c < a) : misB 3 c a b = false := by unfold misB; simp [h]
theorem gok_kind {kd l c : Int} (h : gokB kd l c = true) : kd = 1 ∨ kd = 2 ∨ kd = 3 := by
  unfold gokB at h
  rw [Bool.and_eq_true, inB_iff] at h
  omega

set_option maxRecDepth 100000 in
set_option maxHeartbeats 16000000 in
theorem specMissed_any (a : Option Addr) (m cap : Nat) (f : Nat → Int) (hl : m ≤ 1048576) (a' : Option Addr) (p cap' : Nat) (g : Nat → Int) (hl' : p ≤ 1048576) (a2 : Option Addr) (n cap2 : Nat) (gl : Nat → Int) (hn : n ≤ 1048576) (w : World) (h : Px a m f w) (h' : Px a' p g w) (h2 : Px a2 (n * 4) gl w) :
    Calls Try.prog 43 #[.slice a m cap, .slice a' p cap', .slice a2 n cap2] w (LsR (mzN m p n f g gl) (fun q => (msL f g gl m n).getD q 0) w) := by
  have hb0 := bnew w (.cells #[] 2)
  have HO0 : Hid ((w.alloc (.cells #[] 2)).ownsRow w.heap.size 2 1 (.slice (some ⟨w.heap.size, 0, none⟩) 0 0) 0 (ints [])) := World.ownsRow_lit w #[] 0 (Nat.le_refl _) (by unfold maxLen; omega) rfl
  have HB0 := hide hb0
  have c0 := l11Doses_any a m cap f hl a' p cap' hl' _ (h.below hb0)
  have HP := hide h
  have HP' := hide h'
  have HP2 := hide h2
  clear h h' h2 hb0
  obtain ⟨wa, hwa⟩ : ∃ wa, wa = w.alloc (.cells #[] 2) := ⟨_, rfl⟩
  rw [← hwa] at HO0 HB0 c0
  have hwa' := hwa.symm
  clear hwa
  unfold mzN mzB
  cases hq : dsB m p f
  · rw [hq] at c0
    simp only [Bool.false_and, Bool.false_eq_true, if_false]
    clear hq HP HP' HP2
    go_enter Try.func43, Try.ntmps43
    go_wp2_with fail
    refine c0.mono ?_
    rintro e w1 ⟨rfl, rfl⟩
    go_wp2_with fail
    go_ret
    exact ⟨_, _, 0, rfl, .inl rfl, .inl rfl, HB0.out⟩
  rw [hq] at c0
  obtain ⟨rfl, hm, -⟩ := dsB_parts hq
  rw [Bool.true_and]
  rcases Nat.lt_or_ge 64 n with hn6 | hn6
  · have hF : gsB n gl = false := by unfold gsB; rw [decide_eq_false (by omega : ¬ n ≤ 64)]; rfl
    rw [hF]
    simp only [Bool.false_eq_true, if_false]
    have hn6' : (64 : Int) < (n : Int) := by omega
    clear hF hq HP HP' HP2
    go_enter Try.func43, Try.ntmps43
    go_wp2_with fail
    refine c0.mono ?_
    rintro e w1 ⟨rfl, rfl⟩
    go_wp2_with fail
    go_ret
    exact ⟨_, _, 0, rfl, .inl rfl, .inl rfl, HB0.out⟩
  obtain ⟨R, hR⟩ : ∃ R, R = (if gsB n gl = true then (msL f g gl p n).length else 0) := ⟨_, rfl⟩
  obtain ⟨S, hS⟩ : ∃ S, S = (fun q => (msL f g gl p n).getD q 0) := ⟨_, rfl⟩
  rw [← hR, ← hS]
  have HF : Hid (allG (fun i => gokB (gl (i * 4)) (gl (i * 4 + 2)) (gl (i * 4 + 3))) n = false → ∀ w', Below w.heap.size w w' → LsR R S w (.returned (.slice (some ⟨w.heap.size, 0, none⟩) 0 0)) w') := fun h w' hb => by
    have : gsB n gl = false := by unfold gsB; rw [h, Bool.and_false]
    rw [hR, this]
    simp only [Bool.false_eq_true, if_false]
    exact ⟨_, _, 0, rfl, .inl rfl, .inl rfl, hb⟩
  have HT : Hid (allG (fun i => gokB (gl (i * 4)) (gl (i * 4 + 2)) (gl (i * 4 + 3))) n = true → ∀ v w', w'.ownsRow w.heap.size 2 1 v (msL f g gl p n).length (ints (msL f g gl p n)) → Below w.heap.size w w' → LsR R S w (.returned v) w') := fun h v w' h1 h2 => by
    have : gsB n gl = true := by unfold gsB; rw [h, decide_eq_true hn6]; rfl
    rw [hR, hS, this, if_pos rfl]
    exact LsR.ofL h1 h2
  clear hR hS
  have hn6' : ¬ (64 : Int) < (n : Int) := by omega
  clear hq
  go_enter Try.func43, Try.ntmps43
  go_wp2_with fail
  refine c0.mono ?_
  rintro e w1 ⟨rfl, rfl⟩
  clear c0 hwa'
  go_wp2_with fail
  go_loopw [8] (fun i wr => ∃ k : Nat, k ≤ n ∧ i = .int .i64 k ∧ allG (fun i => gokB (gl (i * 4)) (gl (i * 4 + 2)) (gl (i * 4 + 3))) k = true ∧ wr.ownsRow w.heap.size 2 1 (.slice (some ⟨w.heap.size, 0, none⟩) 0 0) 0 (ints []) ∧ Below w.heap.size w wr) (fun i _ => n - (intOf i).toNat)
  case atStart => exact ⟨0, by omega, rfl, rfl, HO0.out, HB0.out⟩
  case round =>
    obtain ⟨k, hk, rfl, hA, ho, hb⟩ := hrel
    have HA := hide hA
    have HO := hide ho
    clear hA ho HO0 HB0
    by_cases hlt : k < n
    · obtain ⟨b, off, rfl, hbl, z0, z1, z2, z3⟩ := (HP2.out.below hb).atGoal hlt
      have cG := fun w' => specGoalOk_any (gl (k * 4)) (gl (k * 4 + 1)) (gl (k * 4 + 2)) (gl (k * 4 + 3)) w'
      cases hg : gokB (gl (k * 4)) (gl (k * 4 + 2)) (gl (k * 4 + 3))
      · have HN := hide (HF.out (allG_no k hlt hg))
        have HB := hide hb
        simp only [hg] at cG
        clear HA HF HT HP HP' HP2 hg hb hbl
        go_wp2_with fail
        refine (cG _).mono ?_
        rintro e w2 ⟨rfl, hb⟩
        have HB2 := hide (bnext HB.out (Nat.le_refl _) hb)
        clear hb HB cG
        go_wp2_with fail
        go_ret
        exact HN.out _ HB2.out
      · have HAn : Hid (allG (fun i => gokB (gl (i * 4)) (gl (i * 4 + 2)) (gl (i * 4 + 3))) (k + 1) = true) := by
          show (allG _ k && gokB (gl (k * 4)) (gl (k * 4 + 2)) (gl (k * 4 + 3))) = true
          rw [HA.out, hg]; rfl
        have HB := hide hb
        simp only [hg] at cG
        clear HA HF HT HP HP' HP2 hg hb hbl
        go_wp2_with fail
        refine (cG _).mono ?_
        rintro e w2 ⟨rfl, hb⟩
        have HB2 := hide (bnext HB.out (Nat.le_refl _) hb)
        have HO2 := hide (ownsRow_below' HO.out hb)
        clear hb HB cG HO
        go_wp2_with fail
        exact ⟨⟨k + 1, by omega, rfl, HAn.out, HO2.out, HB2.out⟩, by simp [intOf]; omega⟩
    obtain rfl : k = n := by omega
    have HG := hide (fun i hi => allG_at HA.out i hi)
    have HE := hide (HT.out HA.out)
    have HB := hide hb
    clear HA HF HT hb hlt hk
    go_wp2_with fail
    go_loopw [7, 9, 10, 11, 12, 13] (fun v i _ _ _ _ wr => ∃ j : Nat, j ≤ k ∧ i = .int .i64 j ∧ wr.ownsRow w.heap.size 2 1 v (msL f g gl p j).length (ints (msL f g gl p j)) ∧ Below w.heap.size w wr) (fun _ i _ _ _ _ _ => k - (intOf i).toNat)
    case atStart => exact ⟨0, by omega, rfl, HO.out, HB.out⟩
    case round =>
      clear HO HB
      obtain ⟨j, hj, rfl, ho, hb⟩ := hrel
      obtain ⟨wo, rfl⟩ : ∃ wo, wo = wr := ⟨_, rfl⟩
      have HO := hide ho
      clear ho
      by_cases hlt : j < k
      · obtain ⟨b, off, rfl, hbl, z0, z1, z2, z3⟩ := (HP2.out.below hb).atGoal hlt
        have hkd := gok_kind (HG.out j hlt)
        have hSa := ((St.start w).next hb).box [.int .i64 (gl (j * 4)), .int .i64 (gl (j * 4 + 1)), .int .i64 (gl (j * 4 + 2)), .int .i64 (gl (j * 4 + 3))] 54
        have HOa := hide (HO.out.alloc (.cells #[.int .i64 (gl (j * 4)), .int .i64 (gl (j * 4 + 1)), .int .i64 (gl (j * 4 + 2)), .int .i64 (gl (j * 4 + 3))] 54))
        have HMM : Hid (msB f g gl p j = misB (gl (j * 4)) (gl (j * 4 + 3)) (hiA f g (gl (j * 4 + 1)) (gl (j * 4 + 2)) p) (hiB f g (gl (j * 4 + 1)) (gl (j * 4 + 2)) p)) := rfl
        have HSa := hide hSa
        have hml := msL_len f g gl p j
        clear hSa hb hbl HO HP2 HG
        generalize gl (j * 4) = G0 at *
        generalize gl (j * 4 + 1) = G1 at *
        generalize gl (j * 4 + 2) = G2 at *
        generalize gl (j * 4 + 3) = G3 at *
        go_wp2_with fail
        change Hid (World.ownsRow (wo.alloc (.cells #[.int .i64 G0, .int .i64 G1, .int .i64 G2, .int .i64 G3] 54)) _ _ _ _ _ _) at HOa
        change Hid (St _ _ _ (wo.alloc (.cells #[.int .i64 G0, .int .i64 G1, .int .i64 G2, .int .i64 G3] 54))) at HSa
        generalize wo.alloc (.cells #[.int .i64 G0, .int .i64 G1, .int .i64 G2, .int .i64 G3] 54) = wb at *
        generalize wo.heap.size = C at *
        clear z0 z1 z2 z3
        go_loopw [11, 12, 13] (fun A B i wr => ∃ (t d : Nat), t ≤ p ∧ i = .int .i64 t ∧ A = .int .i64 (hiA f g G1 G2 t) ∧ B = .int .i64 (hiB f g G1 G2 t) ∧ wr = wb.drewN d) (fun _ _ i _ => p - (intOf i).toNat)
        case atStart => exact ⟨0, 0, by omega, rfl, rfl, rfl, rfl⟩
        case round =>
          obtain ⟨t, d, ht, rfl, rfl, rfl, rfl⟩ := hrel
          by_cases htp : t < p
          · obtain ⟨i0, i1, i2, i3⟩ := HSa.out.im4 0 rfl
            obtain ⟨b1, o1, rfl, y1⟩ := (HP.out.below HSa.out.below).at htp
            obtain ⟨b2, o2, rfl, y2⟩ := (HP'.out.below HSa.out.below).at htp
            have bA := hiA_bd f g G1 G2 t
            have bB := hiB_bd f g G1 G2 t
            have HA : Hid (hiA f g G1 G2 (t + 1) = hiA f g G1 G2 t + (if g t = G1 ∧ G2 < f t then 1 else 0)) := rfl
            have HC : Hid (hiB f g G1 G2 (t + 1) = hiB f g G1 G2 t + (if g t = G1 ∧ f t < G2 then 1 else 0)) := rfl
            clear HOa HMM HE HP HP' hkd hml HSa
            generalize hiA f g G1 G2 t = A0 at *
            generalize hiB f g G1 G2 t = B0 at *
            generalize f t = X at *
            generalize g t = Y at *
            by_cases hY : Y = G1
            · have qY : (Y == G1) = true := by simp [hY]
              by_cases hU : G2 < X
              · have hD : ¬ X < G2 := by omega
                have eA : hiA f g G1 G2 (t + 1) = A0 + 1 := by rw [HA.out, if_pos ⟨hY, hU⟩]
                have eC : hiB f g G1 G2 (t + 1) = B0 := by rw [HC.out, if_neg (fun h => hD h.2)]; omega
                have HeA := hide eA
                have HeC := hide eC
                clear HA HC eA eC hY
                go_wp2_with fail
                go_quiet (fail)
                go_wp2_with fail
                go_quiet (fail)
                go_wp2_with fail
                exact ⟨⟨t + 1, _, by omega, rfl, by rw [HeA.out], by rw [HeC.out], rfl⟩, by simp [intOf]; omega⟩
              · by_cases hD : X < G2
                · skip
                  have eA : hiA f g G1 G2 (t + 1) = A0 := by rw [HA.out, if_neg (fun h => hU h.2)]; omega
                  have eC : hiB f g G1 G2 (t + 1) = B0 + 1 := by rw [HC.out, if_pos ⟨hY, hD⟩]
                  have HeA := hide eA
                  have HeC := hide eC
                  clear HA HC eA eC hY
                  go_wp2_with fail
                  go_quiet (fail)
                  go_wp2_with fail
                  go_quiet (fail)
                  go_wp2_with fail
                  exact ⟨⟨t + 1, _, by omega, rfl, by rw [HeA.out], by rw [HeC.out], rfl⟩, by simp [intOf]; omega⟩
                · skip
                  have eA : hiA f g G1 G2 (t + 1) = A0 := by rw [HA.out, if_neg (fun h => hU h.2)]; omega
                  have eC : hiB f g G1 G2 (t + 1) = B0 := by rw [HC.out, if_neg (fun h => hD h.2)]; omega
                  have HeA := hide eA
                  have HeC := hide eC
                  clear HA HC eA eC hY
                  go_wp2_with fail
                  go_quiet (fail)
                  go_wp2_with fail
                  go_quiet (fail)
                  go_wp2_with fail
                  exact ⟨⟨t + 1, _, by omega, rfl, by rw [HeA.out], by rw [HeC.out], rfl⟩, by simp [intOf]; omega⟩
            · have qY : (Y == G1) = false := by simp [hY]
              have eA : hiA f g G1 G2 (t + 1) = A0 := by rw [HA.out, if_neg (fun h => hY h.1)]; omega
              have eC : hiB f g G1 G2 (t + 1) = B0 := by rw [HC.out, if_neg (fun h => hY h.1)]; omega
              have HeA := hide eA
              have HeC := hide eC
              clear HA HC eA eC hY
              go_wp2_with fail
              go_quiet (fail)
              go_wp2_with fail
              go_quiet (fail)
              go_wp2_with fail
              exact ⟨⟨t + 1, _, by omega, rfl, by rw [HeA.out], by rw [HeC.out], rfl⟩, by simp [intOf]; omega⟩
          · obtain rfl : t = p := by omega
            have HSd := hide (HSa.out.next (below_drewN (Below.refl _ _) d))
            have HOd := hide (ownsRow_below' HOa.out (below_drewN (Below.refl _ _) d))
            clear HSa HOa
            generalize wb.drewN d = wd at *
            obtain ⟨i0, i1, i2, i3⟩ := HSd.out.im4 0 rfl
            have bA := hiA_bd f g G1 G2 t
            have bB := hiB_bd f g G1 G2 t
            have HPos := hide (fun h => msL_pos (f := f) (g := g) (gl := gl) (m := t) (k := j) h)
            have HNeg := hide (fun h => msL_neg (f := f) (g := g) (gl := gl) (m := t) (k := j) h)
            have HNL : Hid ((msL f g gl t j).length ≤ 1048576) := by show _ ≤ _; omega
            clear HP HP' hml
            generalize hiA f g G1 G2 t = A0 at *
            generalize hiB f g G1 G2 t = B0 at *
            rcases hkd with rfl | rfl | rfl
            · by_cases hx : 0 < A0
              · skip
                have hms : msB f g gl t j = true := by rw [HMM.out]; exact misB_t1 hx
                have HD := hide (HPos.out hms)
                have HB6 := hide HSd.out.below
                have HZ6 := hide HSd.out.below.size
                clear hms HPos HNeg HMM HSd bA bB
                go_upto_region 23 with fail
                go_wp2_with (refine growL _ rfl _ _ rfl w.heap.size _ _ (msL f g gl t j) rfl w HOd.out HB6.out HZ6.out (j : Int) rfl HNL.out ?_)
                intro v' w7 ho1 hb1 hs1
                have HO1 : Hid (w7.ownsRow w.heap.size 2 1 v' (msL f g gl t (j + 1)).length (ints (msL f g gl t (j + 1)))) := by
                  rw [HD.out, List.length_append, List.length_singleton]; exact ho1
                have HB1 := hide hb1
                clear ho1 hb1 hs1 HOd HB6 HZ6 HD HNL i0 i1 i2 i3 HE
                go_wp2_with fail
                exact ⟨⟨j + 1, by omega, rfl, HO1.out, HB1.out⟩, by simp [intOf]; omega⟩
              · skip
                have hms : msB f g gl t j = false := by rw [HMM.out]; exact misB_f1 hx
                have HO1 : Hid (World.ownsRow wd w.heap.size 2 1 u7 (msL f g gl t (j + 1)).length (ints (msL f g gl t (j + 1)))) := by rw [HNeg.out hms]; exact HOd.out
                have HB6 := hide HSd.out.below
                clear hms HPos HNeg HMM HSd bA bB HOd HNL HE
                go_wp2_with fail
                exact ⟨⟨j + 1, by omega, rfl, HO1.out, HB6.out⟩, by simp [intOf]; omega⟩
            · by_cases hx : 0 < B0
              · skip
                have hms : msB f g gl t j = true := by rw [HMM.out]; exact misB_t2 hx
                have HD := hide (HPos.out hms)
                have HB6 := hide HSd.out.below
                have HZ6 := hide HSd.out.below.size
                clear hms HPos HNeg HMM HSd bA bB
                go_upto_region 23 with fail
                go_wp2_with (refine growL _ rfl _ _ rfl w.heap.size _ _ (msL f g gl t j) rfl w HOd.out HB6.out HZ6.out (j : Int) rfl HNL.out ?_)
                intro v' w7 ho1 hb1 hs1
                have HO1 : Hid (w7.ownsRow w.heap.size 2 1 v' (msL f g gl t (j + 1)).length (ints (msL f g gl t (j + 1)))) := by
                  rw [HD.out, List.length_append, List.length_singleton]; exact ho1
                have HB1 := hide hb1
                clear ho1 hb1 hs1 HOd HB6 HZ6 HD HNL i0 i1 i2 i3 HE
                go_wp2_with fail
                exact ⟨⟨j + 1, by omega, rfl, HO1.out, HB1.out⟩, by simp [intOf]; omega⟩
              · skip
                have hms : msB f g gl t j = false := by rw [HMM.out]; exact misB_f2 hx
                have HO1 : Hid (World.ownsRow wd w.heap.size 2 1 u7 (msL f g gl t (j + 1)).length (ints (msL f g gl t (j + 1)))) := by rw [HNeg.out hms]; exact HOd.out
                have HB6 := hide HSd.out.below
                clear hms HPos HNeg HMM HSd bA bB HOd HNL HE
                go_wp2_with fail
                exact ⟨⟨j + 1, by omega, rfl, HO1.out, HB6.out⟩, by simp [intOf]; omega⟩
            · by_cases hx : G3 < A0
              · skip
                have hms : msB f g gl t j = true := by rw [HMM.out]; exact misB_t3 hx
                have HD := hide (HPos.out hms)
                have HB6 := hide HSd.out.below
                have HZ6 := hide HSd.out.below.size
                clear hms HPos HNeg HMM HSd bA bB
                go_upto_region 23 with fail
                go_wp2_with (refine growL _ rfl _ _ rfl w.heap.size _ _ (msL f g gl t j) rfl w HOd.out HB6.out HZ6.out (j : Int) rfl HNL.out ?_)
                intro v' w7 ho1 hb1 hs1
                have HO1 : Hid (w7.ownsRow w.heap.size 2 1 v' (msL f g gl t (j + 1)).length (ints (msL f g gl t (j + 1)))) := by
                  rw [HD.out, List.length_append, List.length_singleton]; exact ho1
                have HB1 := hide hb1
                clear ho1 hb1 hs1 HOd HB6 HZ6 HD HNL i0 i1 i2 i3 HE
                go_wp2_with fail
                exact ⟨⟨j + 1, by omega, rfl, HO1.out, HB1.out⟩, by simp [intOf]; omega⟩
              · skip
                have hms : msB f g gl t j = false := by rw [HMM.out]; exact misB_f3 hx
                have HO1 : Hid (World.ownsRow wd w.heap.size 2 1 u7 (msL f g gl t (j + 1)).length (ints (msL f g gl t (j + 1)))) := by rw [HNeg.out hms]; exact HOd.out
                have HB6 := hide HSd.out.below
                clear hms HPos HNeg HMM HSd bA bB HOd HNL HE
                go_wp2_with fail
                exact ⟨⟨j + 1, by omega, rfl, HO1.out, HB6.out⟩, by simp [intOf]; omega⟩
      · obtain rfl : j = k := by omega
        have HR := hide (HE.out _ _ HO.out hb)
        clear HE HO hb HP HP' HP2 HG
        go_wp2_with fail
        go_ret
        exact HR.out

end Go.Proofs.Ytocmbdckjdggiaa

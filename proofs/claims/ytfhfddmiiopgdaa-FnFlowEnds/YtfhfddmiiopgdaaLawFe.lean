/- The law on flows that end, walked. -/
import Derived.Test.YtfhfddmiiopgdaaDfd
import Derived.Test.YtfhfddmiiopgdaaFen
import Derived.Test.YtfhfddmiiopgdaaFer
import Derived.Laws.AppendOwnNone
import Derived.BigRegion
namespace Go.Proofs.Ytfhfddmiiopgdaa
open Go.RowKit

set_option maxRecDepth 100000 in
set_option maxHeartbeats 1000000 in
theorem sameInts_any (a a' : Option Addr) (n c c' : Nat) (f : Nat → Int) (hl : n ≤ 1048576) (w : World) (h : Px a n f w) (h' : Px a' n f w) :
    Calls Try.prog 10 #[.slice a n c, .slice a' n c'] w fun e w' => e = .returned (.bool true) ∧ Below w.heap.size w w' := by
  have HP := hide h
  have HP' := hide h'
  clear h h'
  have q0 : ((n : Int) != (n : Int)) = false := by simp
  go_enter Try.func10, Try.ntmps10
  go_wp2_with fail
  go_loopw [5] (fun i wr => ∃ k : Nat, k ≤ n ∧ i = .int .i64 k ∧ Below w.heap.size w wr) (fun i _ => n - (intOf i).toNat)
  case atStart => exact ⟨0, by omega, rfl, Below.refl _ _⟩
  case round =>
    obtain ⟨k, hk, rfl, hb⟩ := hrel
    have HB := hide hb
    clear hb
    by_cases hlt : k < n
    · obtain ⟨b, off, rfl, hc⟩ := (HP.out.below HB.out).at hlt
      obtain ⟨b', off', rfl, hc'⟩ := (HP'.out.below HB.out).at hlt
      have q1 : (f k != f k) = false := by simp
      clear HP HP'
      generalize f k = x at *
      go_wp2_with fail
      go_region
      all_goals
        go_wp2_with fail
        exact ⟨⟨k + 1, by omega, rfl, HB.out.drew⟩, by simp [intOf]; omega⟩
    · go_wp2_with fail
      go_ret
      exact ⟨rfl, HB.out⟩

/-- two lists that are new at once -/
theorem St.own2 {w0 : World} {L : List BoxT} {O : List OwnT} {w w' : World} (h : St w0 L O w) (hb : Below w.heap.size w w') {a a2 : Option Addr} {b b2 n m : Nat} {f f2 : Nat → Value} (ho : OwV a b n f w') (h1 : n = 0 ∨ w.heap.size ≤ b) (ho2 : OwV a2 b2 m f2 w') (h2 : m = 0 ∨ w.heap.size ≤ b2) (hd : n = 0 ∨ m = 0 ∨ b ≠ b2) :
    St w0 L ((a, b, n, f) :: (a2, b2, m, f2) :: O) w' := by
  have k := h.own hb ho2 h2
  have kow : ∀ x ∈ (a, b, n, f) :: (a2, b2, m, f2) :: O, OwV x.1 x.2.1 x.2.2.1 x.2.2.2 w' := by
    intro x hx
    rcases List.mem_cons.1 hx with rfl | hx
    · exact ho
    · exact k.ow x hx
  by_cases h0 : n = 0
  · have e : blocks L ((a, b, n, f) :: (a2, b2, m, f2) :: O) = blocks L ((a2, b2, m, f2) :: O) := by unfold blocks; rw [List.filter_cons_of_neg (by simp [h0])]
    exact ⟨k.below, k.bx, kow, by rw [e]; exact k.lt, by rw [e]; exact k.nd⟩
  · have pm : (blocks L ((a, b, n, f) :: (a2, b2, m, f2) :: O)).Perm (b :: blocks L ((a2, b2, m, f2) :: O)) := by
      unfold blocks
      rw [List.filter_cons_of_pos (by simp [h0])]
      exact List.perm_middle
    have h3 : b < w'.heap.size := ho.lt h0
    have h1' : w.heap.size ≤ b := h1.resolve_left h0
    refine ⟨k.below, k.bx, kow, ?_, ?_⟩
    · intro c hc
      rcases List.mem_cons.1 (pm.mem_iff.1 hc) with rfl | hc
      · exact ⟨Nat.le_trans h.below.size h1', h3⟩
      · exact k.lt c hc
    · rw [pm.nodup_iff]
      refine List.nodup_cons.2 ⟨fun hbm => ?_, k.nd⟩
      have hbm' : b ∈ blocks L O ∨ (m ≠ 0 ∧ b = b2) := by
        by_cases hm : m = 0
        · left
          have e : blocks L ((a2, b2, m, f2) :: O) = blocks L O := by unfold blocks; rw [List.filter_cons_of_neg (by simp [hm])]
          rwa [e] at hbm
        · have pm2 : (blocks L ((a2, b2, m, f2) :: O)).Perm (b2 :: blocks L O) := by
            unfold blocks
            rw [List.filter_cons_of_pos (by simp [hm])]
            exact List.perm_middle
          rcases List.mem_cons.1 (pm2.mem_iff.1 hbm) with e | e
          · exact .inr ⟨hm, e⟩
          · exact .inl e
      rcases hbm' with e | ⟨hm, e⟩
      · exact absurd (h.lt _ e).2 (by omega)
      · rcases hd with h | h | h
        · exact h0 h
        · exact hm h
        · exact h e

theorem PreF.get {F : Nat → (Nat → Value) → World → Prop} {u : Nat → Value} {w : World} : ∀ {l : List Nat}, PreF F u w l → ∀ j, l.contains j = true → F j u w
  | [], _, _, h => by simp at h
  | k :: l, hp, j, h => by
    by_cases e : j = k
    · subst e; exact hp.1
    · refine PreF.get hp.2 j ?_
      simp only [List.contains_cons, Bool.or_eq_true, beq_iff_eq] at h
      exact h.resolve_left e
theorem eval_tmp (au : Act) (t : Nat) : au.eval (.tmp t) = au.tmps[t]?.getD undef := by simp [Act.eval]
theorem tup_ne (x y : Value) : (Value.tuple #[x, y]) ≠ undef := fun e => by
  unfold undef at e
  injection e with e
  have := congrArg Array.size e
  simp at this

set_option maxRecDepth 100000 in
set_option maxHeartbeats 4000000 in
theorem fnFlowEnds_walk (a1 : Option Addr) (len1 cap1 : Nat) (a2 : Option Addr) (len2 cap2 : Nat) (w : World) (h1 : Bytes a1 len1 w) (h2 : Bytes a2 len2 w) :
    Calls Try.prog 3 #[.slice a1 len1 cap1, .slice a2 len2 cap2] w fun e w' => e = .returned (.bool true) ∧ Below w.heap.size w w' := by
  have g1 := big_any a1 len1 cap1
  have g2 := big_any a2 len2 cap2
  have HB1 := hide h1
  have HB2 := hide h2
  clear h1 h2
  go_enter Try.func3, Try.ntmps3
  go_wp2_with fail
  refine (g1 _).mono ?_
  rintro e w1 ⟨rfl, rfl⟩
  cases hd1 : decide (1048576 < len1)
  case true =>
    clear hd1
    go_wp2_with fail
    go_ret
    exact ⟨rfl, Below.refl _ _⟩
  go_wp2_with fail
  refine (g2 _).mono ?_
  rintro e w2 ⟨rfl, rfl⟩
  cases hd2 : decide (1048576 < len2)
  case true =>
    clear hd2
    go_wp2_with fail
    go_ret
    exact ⟨rfl, Below.refl _ _⟩
  clear hd1 hd2 g1 g2
  have cP := drawFlowPlay_any a1 len1 cap1 w2 HB1.out
  go_wp2_with fail
  refine cP.mono ?_
  rintro e wa ⟨v, m, L, rfl, hm, hown, hb⟩
  obtain ⟨ad, cpa, rfl, hnil, hpx⟩ := own_pxG hown
  have hLm : L.length = m * 3 := by have := hown.1; rw [ints_length] at this; omega
  have HWA := hide hb
  have HPa : Hid (Px ad (m * 3) (gL L) wa) := hpx
  have HNa := hide hnil
  clear cP hown hb hpx hnil
  by_cases hm2 : 2000 < m
  · have hm2' : (2000 : Int) < m := by omega
    go_wp2_with fail
    go_ret
    exact ⟨rfl, HWA.out⟩
  have hm2' : ¬ (2000 : Int) < m := by omega
  have cD := drawFlowDo_any a2 len2 cap2 wa (HB2.out.below HWA.out)
  clear HB1 HB2
  go_wp2_with fail
  refine cD.mono ?_
  rintro e wb ⟨dc, dfa, dn, dcp, kd, id, du, rfl, hb⟩
  have HWB := hide (bnext HWA.out (Nat.le_refl _) hb)
  have HPb := hide (HPa.out.below hb)
  clear cD hb HWA HPa
  obtain ⟨wc, hwc⟩ : ∃ wc, wc = (wb.alloc (.cells #[.int .i64 dc, .slice dfa dn dcp] 28)).alloc (.cells #[.int .i64 kd, .int .i64 id, .int .i64 du] 30) := ⟨_, rfl⟩
  have HS0 : Hid (St w2 [(wb.heap.size + 1, [.int .i64 kd, .int .i64 id, .int .i64 du]), (wb.heap.size, [.int .i64 dc, .slice dfa dn dcp])] [] wc) := by
    rw [hwc]
    exact (((St.start w2).next HWB.out).box [.int .i64 dc, .slice dfa dn dcp] 28).box' [.int .i64 kd, .int .i64 id, .int .i64 du] 30 (b := wb.heap.size + 1) (by simp)
  have HPc : Hid (Px ad (m * 3) (gL L) wc) := by rw [hwc]; exact (HPb.out.below (bnew _ _)).below (bnew _ _)
  have hwc' := hwc.symm
  clear hwc HWB HPb
  go_upto_region 7 with fail
  clear hwc'
  generalize wb.heap.size + 1 = A7 at *
  generalize wb.heap.size = A6 at *
  obtain ⟨ti, hi1, hi2, hi3, hi4⟩ := infoA
  have HI1 := hide hi1
  clear hi1
  have HOW : Hid ((wc.alloc (.cells #[] 30)).ownsRow wc.heap.size 30 3 (.slice (some ⟨wc.heap.size, 0, none⟩) 0 0) 0 (ints [])) := World.ownsRow_made wc #[] 0 (Nat.le_refl _) (Nat.zero_le _) rfl
  have HBW : Hid (Below wc.heap.size wc (wc.alloc (.cells #[] 30))) := bnew _ _
  have HSW : Hid (wc.heap.size ≤ (wc.alloc (.cells #[] 30)).heap.size) := HBW.out.size
  have HPd := hide (HPc.out.below HBW.out)
  have hfl : fl (gL L) (m * 3) = L := fl_gL L _ hLm
  go_wp2_with (at_builtin; refine growCG _ rfl _ _ 24 30 3 24 (vAct 0 0 0) ti Try.underlying24 HI1.out hi2 hi3 hi4 rfl (by omega) (by omega) rfl wc.heap.size _ 0 [] rfl wc HOW.out HBW.out HSW.out ad m cpa (gL L) rfl HNa.out HPd.out (by omega) ?_)
  intro v' wd ho hb
  obtain ⟨ad2, cp2, rfl, -, hpx2⟩ := own_pxG ho
  have HS1 := hide (HS0.out.next hb)
  have HPe := hide (HPc.out.below hb)
  have cI := implFlowPlay_any ad2 m cp2 (gL L) (by omega) wd hpx2
  clear ho hb hpx2 HOW HBW HSW HPd HPc HS0 hfl
  have cS := fun w' h => specFlowPlay_any ad m cpa (gL L) (by omega) w' h
  have HKN : Hid (fpK (gL L) m = (plT (gL L) m).1 ∧ fpN (gL L) m = (plT (gL L) m).2.1 ∧ fpL (gL L) m = gL (plT (gL L) m).2.2 ∧ fpM m = m) := by
    unfold fpK fpN fpL fpM
    rw [if_neg hm2, if_neg hm2, if_neg hm2, if_neg hm2]
    exact ⟨rfl, rfl, rfl, rfl⟩
  rw [HKN.out.1, HKN.out.2.1, HKN.out.2.2.1, HKN.out.2.2.2] at cI cS
  have HRT := hide (plT_rt (gL L) m)
  unfold FlP at cI cS
  clear HKN
  generalize (plT (gL L) m).1 = c at *
  generalize (plT (gL L) m).2.1 = n at *
  generalize (plT (gL L) m).2.2 = LL at *
  generalize fpC (gL L) m = CC at *
  have hn5 := HRT.out.ok.hn
  go_wp2_with fail
  refine cI.mono ?_
  rintro e we ⟨fa, fc, fb, ca, cc, cb, rfl, how, hbb, how2, hbb2, hdd, hb, hnf⟩
  have HNF := hide hnf
  clear hnf
  obtain ⟨wf, hwf⟩ : ∃ wf, wf = we.alloc (.cells #[.int .i64 c, .slice fa n fc] 28) := ⟨_, rfl⟩
  have HS2 : Hid (St w2 [(we.heap.size, [.int .i64 c, .slice fa n fc]), (A7, [.int .i64 kd, .int .i64 id, .int .i64 du]), (A6, [.int .i64 dc, .slice dfa dn dcp])] [(fa, fb, n * 4, fun k => .int .i64 (gL LL k)), (ca, cb, m, fun k => .int .i64 (CC k))] wf) := by rw [hwf]; exact (HS1.out.own2 hb how.v hbb how2.v hbb2 hdd).box [.int .i64 c, .slice fa n fc] 28
  have HPf : Hid (Px ad (m * 3) (gL L) wf) := by rw [hwf]; exact (HPe.out.below hb).below (bnew _ _)
  have hwf' := hwf.symm
  have hF8 : we.heap.size < wf.heap.size := by rw [hwf]; simp
  clear cI how hbb how2 hbb2 hdd hb HS1 HPe hwf
  have cS1 := cS wf HPf.out
  clear cS HPf
  go_upto_region 8 with fail
  clear hwf'
  generalize we.heap.size = F8 at *
  go_wp2_with fail
  refine cS1.mono ?_
  rintro e wg ⟨ga, gc, gb, da, dcc, db, rfl, how, hbb, how2, hbb2, hdd, hb, -⟩
  obtain ⟨wh, hwh⟩ : ∃ wh, wh = wg.alloc (.cells #[.int .i64 c, .slice ga n gc] 28) := ⟨_, rfl⟩
  have HS3 : Hid (St w2 [(wg.heap.size, [.int .i64 c, .slice ga n gc]), (F8, [.int .i64 c, .slice fa n fc]), (A7, [.int .i64 kd, .int .i64 id, .int .i64 du]), (A6, [.int .i64 dc, .slice dfa dn dcp])] [(ga, gb, n * 4, fun k => .int .i64 (gL LL k)), (da, db, m, fun k => .int .i64 (CC k)), (fa, fb, n * 4, fun k => .int .i64 (gL LL k)), (ca, cb, m, fun k => .int .i64 (CC k))] wh) := by rw [hwh]; exact (HS2.out.own2 hb how.v hbb how2.v hbb2 hdd).box [.int .i64 c, .slice ga n gc] 28
  have hwh' := hwh.symm
  clear cS1 how hbb how2 hbb2 hdd hb HS2 hwh
  go_upto_region 9 with fail
  clear hwh'
  generalize wg.heap.size = G10 at *
  have cK := implFlowOk_any c fa n fc (gL LL) (by omega) wh (HS3.out.nthO 2 rfl).px
  rw [HRT.out.flB] at cK
  obtain ⟨i0, i1⟩ := HS3.out.im2 1 rfl
  go_wp2_with fail
  refine cK.mono ?_
  rintro e wi ⟨rfl, hb⟩
  have HS4 := hide (HS3.out.next hb)
  clear cK HS3 hb i0 i1
  have cM := sameInts_any ca da m cc dcc CC (by omega) wi (HS4.out.nthO 3 rfl).px (HS4.out.nthO 1 rfl).px
  go_wp2_with fail
  refine cM.mono ?_
  rintro e wj ⟨rfl, hb⟩
  have HS5 := hide (HS4.out.next hb)
  clear cM HS4 hb
  obtain ⟨i0, i1⟩ := HS5.out.im2 1 rfl
  obtain ⟨j0, j1⟩ := HS5.out.im2 0 rfl
  obtain ⟨a0, a1', a2'⟩ := HS5.out.im3 2 rfl
  have qn : ((n : Int) != (n : Int)) = false := by simp
  have qc : (c != c) = false := by simp
  have HPF := hide (HS5.out.nthO 2 rfl).px
  have cFD := fun ad' cp' w' h => implFlowDo_any c ad' n cp' (gL LL) (by omega) kd id du w' h
  obtain ⟨HK, HM, HG, HC, hKN⟩ : ∃ K M G C, K = foK c (gL LL) n kd ∧ M = foN c (gL LL) n kd id du ∧ G = foL c (gL LL) n kd id du ∧ C = foC c (gL LL) n kd id du := ⟨_, _, _, _, rfl, rfl, rfl, rfl⟩
  rw [← hKN.1, ← hKN.2.1, ← hKN.2.2.1, ← hKN.2.2.2] at cFD
  have HKN := hide hKN
  unfold FlR at cFD
  obtain ⟨tj, hj1, hj2, hj3, hj4⟩ := infoO
  have HJ1 := hide hj1
  clear hj1 hKN
  go_upto_region 11 with fail
  refine region_ops (fun w' => Below wj.heap.size wj w') (feF wj F8 c fa n fc (gL LL) kd id du HK HM HG) (by kernel_rfl) (by kernel_rfl) (by kernel_rfl) (Below.refl _ _).drew ?_ ?_
  · refine ⟨?_, ?_, ?_, ?_, ?_, ?_, ?_, ?_, ?_, ?_, ?_, ?_, ?_, ?_, ?_, trivial⟩
    · intro u wr au hau hu hF hp' K hK
      have t8 : au.tmps[8]?.getD undef = .pointer (some ⟨F8, 0, none⟩) := by rw [hau.out]; kernel_rfl
      refine step_plain rfl ?_
      go_simp
      exact hK.out (.pointer (some ⟨F8, 0, none⟩)) _ hF (upU_same _ _ _) (fun j hj _ h => feF_up (Below.refl _ _) 0 _ (fun e => by cases e) (fun e => by cases e) (by decide) j hj (fun _ e => by cases e) h)
    · intro u wr au hau hu hF hp' K hK
      have h1 : u 0 = .pointer (some ⟨F8, 0, none⟩) := hp'.1
      have t73 : au.tmps[73]?.getD undef = u 0 := by rw [hau.out]; kernel_rfl
      rw [h1] at t73
      have x0 := cell_up hF i0
      refine step_plain rfl ?_
      go_simp
      exact hK.out (.int .i64 c) _ hF (upU_same _ _ _) (fun j hj _ h => feF_up (Below.refl _ _) 1 _ (fun e => by cases e) (fun e => by cases e) (by decide) j hj (fun _ e => by cases e) h)
    · intro u wr au hau hu hF hp' K hK
      have hb := bnew wr (.cells #[] 41)
      have HOW := hide (World.ownsRow_made (e := 41) (size := 4) (base := wj.heap.size) wr #[] 0 hF.size (Nat.zero_le _) rfl)
      refine step_plain rfl ?_
      go_simp
      exact hK.out (.slice (some ⟨wr.heap.size, 0, none⟩) 0 0) _ (hF.alloc hF.size _) (.inr ⟨_, upU_same _ _ _, HOW.out⟩) (fun j hj _ h => feF_up hb 2 _ (fun e => by cases e) (fun e => by cases e) (by decide) j hj (fun _ e => by cases e) h)
    · intro u wr au hau hu hF hp' K hK
      have t8 : au.tmps[8]?.getD undef = .pointer (some ⟨F8, 0, none⟩) := by rw [hau.out]; kernel_rfl
      refine step_plain rfl ?_
      go_simp
      exact hK.out (.pointer (some ⟨F8, 1, none⟩)) _ hF (upU_same _ _ _) (fun j hj _ h => feF_up (Below.refl _ _) 3 _ (fun e => by cases e) (fun e => by cases e) (by decide) j hj (fun _ e => by cases e) h)
    · intro u wr au hau hu hF hp' K hK
      have h1 : u 3 = .pointer (some ⟨F8, 1, none⟩) := hp'.1
      have t76 : au.tmps[76]?.getD undef = u 3 := by rw [hau.out]; kernel_rfl
      rw [h1] at t76
      have x1 := cell_up hF i1
      refine step_plain rfl ?_
      go_simp
      exact hK.out (.slice fa n fc) _ hF (upU_same _ _ _) (fun j hj _ h => feF_up (Below.refl _ _) 4 _ (fun e => by cases e) (fun e => by cases e) (by decide) j hj (fun _ e => by cases e) h)
    · intro u wr au hau hu hF hp' K hK
      have hu5 : u 5 = undef := (hu.out 5 (by decide) (.inl rfl)).trans (by kernel_rfl)
      obtain ⟨b, hb1, hb2⟩ := (show u 5 ≠ undef ∨ _ from hp'.1).resolve_left (fun h => h hu5)
      have h4 : u 4 = .slice fa n fc := hp'.2.1
      have t75 : au.tmps[75]?.getD undef = u 2 := by rw [hau.out]; kernel_rfl
      have t77 : au.tmps[77]?.getD undef = u 4 := by rw [hau.out]; kernel_rfl
      rw [hb1] at t75
      rw [h4] at t77
      have hpw : Px fa (n * 4) (gL LL) wr := HPF.out.below hF
      refine stepCG _ rfl (.tmp 75) (.tmp 77) 26 41 4 32 (vOrder 0 0 0 0) tj Try.underlying26 HJ1.out hj2 hj3 hj4 rfl (by omega) (by omega) rfl wj.heap.size (.slice (some ⟨b, 0, none⟩) 0 0) 0 [] ((eval_tmp au 75).trans t75) hb2 hF.size fa n fc (gL LL) ((eval_tmp au 77).trans t77) HNF.out hpw (by omega) ?_
      intro v' w' ho hg hm
      have ho' : w'.ownsRow wj.heap.size 41 4 v' n (ints (fl (gL LL) (n * 4))) := by simpa using ho
      rw [fl_gL LL _ HRT.out.ok.hl] at ho'
      obtain ⟨ad', cp', rfl, -, hpx⟩ := own_pxO ho'
      have hv : (Value.slice ad' n cp') ≠ undef := fun e => by cases e
      have hbb : wj.heap.size ≤ b := (hb2.lt b rfl).1
      exact hK.out (.slice ad' n cp') _ (hF.grown hg hF.size (fun k e => by cases e; exact hbb)) (.inr ⟨ad', cp', upU_same _ _ _, hpx⟩) (fun j hj hf h => feF_grow hg (row_none hb2) _ hv j hj (fun e => by subst e; exact absurd (Eq.trans (Eq.symm (by kernel_rfl)) hf) Bool.false_ne_true) (fun e => by subst e; exact absurd (Eq.trans (Eq.symm (by kernel_rfl)) hf) Bool.false_ne_true) (fun e => by subst e; exact absurd (Eq.trans (Eq.symm (by kernel_rfl)) hf) Bool.false_ne_true) (fun e => by subst e; exact absurd (Eq.trans (Eq.symm (by kernel_rfl)) hf) Bool.false_ne_true) (fun e => by subst e; exact absurd (Eq.trans (Eq.symm (by kernel_rfl)) hf) Bool.false_ne_true) h)
    · intro u wr au hau hu hF hp' K hK
      have h1 : u 1 = .int .i64 c := hp'.1
      have h5 : u 8 ≠ undef ∨ ∃ ad cp, u 5 = .slice ad n cp ∧ Px ad (n * 4) (gL LL) wr := hp'.2.1
      have t74 : au.tmps[74]?.getD undef = u 1 := by rw [hau.out]; kernel_rfl
      have t78 : au.tmps[78]?.getD undef = u 5 := by rw [hau.out]; kernel_rfl
      rw [h1] at t74
      refine step_plain rfl ?_
      rcases h5 with h5 | ⟨ad', cp', h5, h6⟩
      · exact absurd ((hu.out 8 (by decide) (.inr (by kernel_rfl))).trans (by kernel_rfl)) h5
      · rw [h5] at t78
        go_simp
        exact hK.out (vFlow c ad' n cp') _ hF (.inr ⟨ad', cp', upU_same _ _ _, h6⟩) (fun j hj _ h => feF_up (Below.refl _ _) 6 _ (fun e => by cases e) (fun e => by cases e) (by decide) j hj (fun _ e => by cases e) h)
    · intro u wr au hau hu hF hp' K hK
      have t7 : au.tmps[7]?.getD undef = .pointer (some ⟨A7, 0, none⟩) := by rw [hau.out]; kernel_rfl
      have x0 := cell_up hF a0
      have x1 := cell_up hF a1'
      have x2 := cell_up hF a2'
      refine step_plain rfl ?_
      go_simp
      exact hK.out (vAct kd id du) _ hF (upU_same _ _ _) (fun j hj _ h => feF_up (Below.refl _ _) 7 _ (fun e => by cases e) (fun e => by cases e) (by decide) j hj (fun _ e => by cases e) h)
    · intro u wr au hau hu hF hp' K hK
      have hu8 : u 8 = undef := (hu.out 8 (by decide) (.inl rfl)).trans (by kernel_rfl)
      obtain ⟨ad', cp', h6, hpx⟩ := (show u 8 ≠ undef ∨ _ from hp'.1).resolve_left (fun h => h hu8)
      have h7 : u 7 = vAct kd id du := hp'.2.1
      have t79 : au.tmps[79]?.getD undef = u 6 := by rw [hau.out]; kernel_rfl
      have t80 : au.tmps[80]?.getD undef = u 7 := by rw [hau.out]; kernel_rfl
      rw [h6] at t79
      rw [h7] at t80
      have cF := cFD ad' cp' wr hpx
      refine step_plain rfl ?_
      go_simp
      refine cF.mono ?_
      rintro e w' ⟨ha, hc, hb, rfl, how, hbb, hbel, -⟩
      exact hK.out (.tuple #[vFlow HK ha HM hc, .int .i64 HC]) _ (bnext hF (Nat.le_refl _) hbel) ⟨ha, hc, hb, HC, upU_same _ _ _, .inr how⟩ (fun j hj _ h => feF_up hbel 8 _ (fun e => by cases e) (fun _ => tup_ne _ _) (by decide) j hj (fun _ e => by cases e) h)
    · intro u wr au hau hu hF hp' K hK
      obtain ⟨ha, hc, hb, code, h8, ho⟩ : feF wj F8 c fa n fc (gL LL) kd id du HK HM HG 8 u wr := hp'.1
      have t81 : au.tmps[81]?.getD undef = u 8 := by rw [hau.out]; kernel_rfl
      rw [h8] at t81
      refine step_plain rfl ?_
      go_simp
      exact hK.out (.tuple #[vFlow HK ha HM hc, .int .i64 code]) _ hF ⟨ha, hc, hb, code, upU_same _ _ _, ho.imp (fun h => by rw [upU_other u _ (by decide)]; exact h) _root_.id⟩ (fun j hj _ h => feF_up (Below.refl _ _) 9 _ (fun e => by cases e) (fun e => by cases e) (by decide) j hj (fun _ e => by cases e) h)
    · intro u wr au hau hu hF hp' K hK
      obtain ⟨ha, hc, hb, code, h9, ho⟩ : feF wj F8 c fa n fc (gL LL) kd id du HK HM HG 9 u wr := hp'.1
      have t72 : au.tmps[72]?.getD undef = u 9 := by rw [hau.out]; kernel_rfl
      rw [h9] at t72
      refine step_plain rfl ?_
      go_simp
      exact hK.out (vFlow HK ha HM hc) _ hF ⟨ha, hc, hb, upU_same _ _ _, ho.imp (fun h => by rw [upU_other u _ (by decide)]; exact h) _root_.id⟩ (fun j hj _ h => feF_up (Below.refl _ _) 10 _ (fun e => by cases e) (fun e => by cases e) (by decide) j hj (fun _ e => by cases e) h)
    · intro u wr au hau hu hF hp' K hK
      obtain ⟨ha, hc, hb, code, h9, ho⟩ : feF wj F8 c fa n fc (gL LL) kd id du HK HM HG 9 u wr := hp'.1
      have t72 : au.tmps[72]?.getD undef = u 9 := by rw [hau.out]; kernel_rfl
      rw [h9] at t72
      refine step_plain rfl ?_
      go_simp
      exact hK.out (.int .i64 code) _ hF ⟨code, upU_same _ _ _⟩ (fun j hj _ h => feF_up (Below.refl _ _) 11 _ (fun e => by cases e) (fun e => by cases e) (by decide) j hj (fun _ e => by cases e) h)
    · intro u wr au hau hu hF hp' K hK
      have hb := bnew wr (.cells #[.int .i64 0, .slice none 0 0] 28)
      have HX := hide (Bx.new [.int .i64 0, .slice none 0 0] 28 wr)
      refine step_plain rfl ?_
      go_simp
      exact hK.out (.pointer (some ⟨wr.heap.size, 0, none⟩)) _ (hF.alloc hF.size _) ⟨_, upU_same _ _ _, hF.size, .inr HX.out⟩ (fun j hj hf h => feF_up hb 12 _ (fun e => by cases e) (fun e => by cases e) (by decide) j hj (fun e _ => by subst e; exact absurd (Eq.trans (Eq.symm (by kernel_rfl)) hf) Bool.false_ne_true) h)
    · intro u wr au hau hu hF hp' K hK
      have hu13 : u 13 = undef := (hu.out 13 (by decide) (.inl rfl)).trans (by kernel_rfl)
      obtain ⟨X, hX1, hX2, hX3⟩ : feF wj F8 c fa n fc (gL LL) kd id du HK HM HG 12 u wr := PreF.get hp' 12 (by kernel_rfl)
      have h10 : feF wj F8 c fa n fc (gL LL) kd id du HK HM HG 10 u wr := PreF.get hp' 10 (by kernel_rfl)
      have h8 : feF wj F8 c fa n fc (gL LL) kd id du HK HM HG 8 u wr := PreF.get hp' 8 (by kernel_rfl)
      obtain ⟨ha, hc, hb, h10, how0⟩ := h10
      have how := how0.resolve_left (fun h => h hu13)
      obtain ⟨ha8, hc8, hb8, code8, h8, -⟩ := h8
      have hX4 := hX3.resolve_left (fun h => h hu13)
      have t12 : au.tmps[12]?.getD undef = u 12 := by rw [hau.out]; kernel_rfl
      have t82 : au.tmps[82]?.getD undef = u 10 := by rw [hau.out]; kernel_rfl
      rw [hX1] at t12
      rw [h10] at t82
      obtain ⟨z0, f0⟩ := hX4 0 _ rfl
      obtain ⟨z1, f1⟩ := hX4 1 _ rfl
      have hP := feF_put (wB := wj) (F8 := F8) (c := c) (fa := fa) (n := n) (fc := fc) (g := gL LL) (kd := kd) (id := id) (du := du) (K := HK) (hc := hc) hX4 how (by rw [h8]; exact tup_ne _ _) hX1
      refine step_plain rfl ?_
      go_simp
      exact hK.out (.int .i64 0) _ ((hF.setCell hX2 _).setCell hX2 _) hP.1 (fun j hj _ h => hP.2 j hj h)
    · intro u wr au hau hu hF hp' K hK
      obtain ⟨code, h11⟩ : feF wj F8 c fa n fc (gL LL) kd id du HK HM HG 11 u wr := PreF.get hp' 11 (by kernel_rfl)
      have t83 : au.tmps[83]?.getD undef = u 11 := by rw [hau.out]; kernel_rfl
      rw [h11] at t83
      refine step_plain rfl ?_
      go_simp
      exact hK.out (.int .i64 code) _ hF trivial (fun j hj _ h => feF_up (Below.refl _ _) 14 _ (fun e => by cases e) (fun e => by cases e) (by decide) j hj (fun _ e => by cases e) h)
  · intro u wk hF hall
    obtain ⟨X, ha, hc, hb, hX1, hX2, how⟩ : feF wj F8 c fa n fc (gL LL) kd id du HK HM HG 13 u wk := hall 13 (by decide)
    simp only [rgPut, Act.put, hX1]
    go_simp
    have HS6 := hide (HS5.out.next hF)
    have HX6 := hide hX2
    have HO6 := hide how.v.px
    have hft : flB c (gL LL) n = true := HRT.out.flB
    have hfl : fl (gL LL) (n * 4) = LL := fl_gL LL _ HRT.out.ok.hl
    have eK : HK = doK c kd := by rw [HKN.out.1]; unfold foK; rw [hft]; rfl
    have eM : HM = doN c n LL kd id du := by rw [HKN.out.2.1]; unfold foN; rw [hft, hfl]; rfl
    have eG : HG = gL (doL c n LL kd id du) := by rw [HKN.out.2.2.1]; unfold foL; rw [hft, hfl]; rfl
    have HLF := hide (HRT.out.act kd id du)
    clear HKN hall hX1 hX2 how cFD hft hfl HPF HS5 hF i0 i1 j0 j1 a0 a1' a2' HNF HJ1 hj2 hj3 hj4
    subst eK eM eG
    generalize doK c kd = K' at *
    generalize doN c n LL kd id du = M' at *
    generalize doL c n LL kd id du = L' at *
    generalize psI c n LL kd id du = ps at *
    have hM5 := HLF.out.rt.ok.hn
    have x0 := (HX6.out 0 _ rfl).1
    have x1 := (HX6.out 1 _ rfl).1
    have cK := implFlowOk_any K' ha M' hc (gL L') (by omega) wk HO6.out
    rw [HLF.out.rt.flB] at cK
    go_wp2_with fail
    refine cK.mono ?_
    rintro e wl ⟨rfl, hbl⟩
    have HS7 := hide (HS6.out.next hbl)
    have HX7 := hide (HX6.out.below hbl (World.block_lt_of_cell? _ _ x0))
    have HO7 := hide (HO6.out.below hbl)
    have HPF := hide (HS7.out.nthO 2 rfl).px
    clear cK hbl HS6 HX6 HO6 x0 x1
    go_wp2_with fail
    go_loopw [14] (fun i wr => ∃ k : Nat, k ≤ n ∧ i = .int .i64 k ∧ Below wl.heap.size wl wr) (fun i _ => n - (intOf i).toNat)
    case atStart => exact ⟨0, by omega, rfl, Below.refl _ _⟩
    case round =>
      obtain ⟨k, hk, rfl, hB⟩ := hrel
      obtain ⟨wo, rfl⟩ : ∃ wo, wo = wr := ⟨_, rfl⟩
      have HB := hide hB
      clear hB
      have i0 := cell_up HB.out (HS7.out.im2 1 rfl).1
      have i1 := cell_up HB.out (HS7.out.im2 1 rfl).2
      by_cases hlt : k < n
      · obtain ⟨b, off, rfl, -, z0, z1, z2, z3⟩ := (HPF.out.below HB.out).atOrder hlt
        have HRk : Hid (orB c (gL LL (k * 4)) (gL LL (k * 4 + 1)) (gL LL (k * 4 + 2)) (gL LL (k * 4 + 3)) = true) := HRT.out.rt k hlt
        have HLk := hide (And.intro (HLF.out.lt k hlt) (And.intro (HLF.out.ids k hlt) (HLF.out.endd k hlt)))
        obtain ⟨wO, hwO⟩ : ∃ wO, wO = wo.alloc (cOrder (gL LL (k * 4)) (gL LL (k * 4 + 1)) (gL LL (k * 4 + 2)) (gL LL (k * 4 + 3)) 41) := ⟨_, rfl⟩
        have hbO : Below wo.heap.size wo wO := by rw [hwO]; exact bnew _ _
        have HBO := hide (bnext HB.out (Nat.le_refl _) hbO)
        obtain ⟨q0, q1, q2, q3⟩ : BOrder wo.heap.size (gL LL (k * 4)) (gL LL (k * 4 + 1)) (gL LL (k * 4 + 2)) (gL LL (k * 4 + 3)) wO := by rw [hwO]; exact BOrder.new _ _ _ _ _ _
        have hwO' := hwO.symm
        have i0O := cell_up hbO i0
        clear hwO hbO HB
        generalize gL LL (k * 4) = y0 at *
        generalize gL LL (k * 4 + 1) = y1 at *
        generalize gL LL (k * 4 + 2) = y2 at *
        generalize gL LL (k * 4 + 3) = y3 at *
        have HOC : Hid (opB y1 = true → ¬ y2 < c) := fun h => by
          have h3 := (orB_iff.1 HRk.out).2.2
          have := ((stB_open (opB_iff.1 h)).1 h3).2
          omega
        clear HRk
        have hnn : (k : Int) < n := by omega
        go_upto_region 18 with fail
        clear hwO' z0 z1 z2 z3 i0 i1
        go_cut [16] (fun s wc => s = .bool (opB y1) ∧ wc = wO)
        case first =>
          by_cases e1 : y1 = 1
          · subst e1
            go_wp2_with fail
            go_meet
            exact ⟨rfl, rfl⟩
          · have e1b : (y1 == 1) = false := by simpa using e1
            have e2b : (y1 == 2) = opB y1 := by unfold opB; rw [decide_eq_false e1]; rfl
            generalize opB y1 = OB at *
            go_wp2_with fail
            go_meet
            exact ⟨by simp, rfl⟩
        case rest =>
          obtain ⟨rfl, hwc⟩ := hcut
          have hwc2 := hwc.symm
          clear hwc
          subst hwc2
          generalize opB y1 = OB at *
          go_upto_region 19 with fail
          go_cut [114] (fun s wc => s = .bool false ∧ wc = wO)
          case first =>
            cases OB
            · go_wp2_with fail
              go_meet
              exact ⟨rfl, rfl⟩
            · have hyc := HOC.out rfl
              go_wp2_with fail
              go_meet
              exact ⟨rfl, rfl⟩
          case rest =>
            obtain ⟨rfl, hwc⟩ := hcut
            have hwc2 := hwc.symm
            clear hwc
            subst hwc2
            have HXO := hide (HX7.out.below HBO.out (World.block_lt_of_cell? _ _ (HX7.out 0 _ rfl).1))
            have HOO := hide (HO7.out.below HBO.out)
            have HQ := hide (And.intro q0 (And.intro q1 (And.intro q2 q3)))
            have HRT' := hide HLF.out.rt
            clear q0 q1 q2 q3 i0O HOC HX7 HO7 HS7 HPF HLF HRT hnn
            generalize wo.heap.size = OX at *
            go_wp2_with fail
            go_loopw [17, 18] (fun fnd i wr => ∃ j : Nat, j ≤ M' ∧ fnd = .bool (decide (ps k < j)) ∧ i = .int .i64 j ∧ Below wO.heap.size wO wr) (fun _ i _ => M' - (intOf i).toNat)
            case atStart => exact ⟨0, by omega, by simp, rfl, Below.refl _ _⟩
            case round =>
              obtain ⟨j, hj, rfl, rfl, hB⟩ := hrel
              have HB := hide hB
              clear hB
              have x1 := (HXO.out.below HB.out (World.block_lt_of_cell? _ _ (HXO.out 0 _ rfl).1) 1 _ rfl).1
              by_cases hjl : j < M'
              · obtain ⟨b2, off2, rfl, -, z0, z1, z2, z3⟩ := (HOO.out.below HB.out).atOrder hjl
                have q0 := cell_up HB.out HQ.out.1
                have q1 := cell_up HB.out HQ.out.2.1
                have q2 := cell_up HB.out HQ.out.2.2.1
                have q3 := cell_up HB.out HQ.out.2.2.2
                by_cases hjp : j = ps k
                · have e0 : gL L' (j * 4) = y0 := by rw [hjp]; exact HLk.out.2.1
                  have e3 : OB = false → gL L' (j * 4 + 1) = y1 ∧ gL L' (j * 4 + 2) = y2 ∧ gL L' (j * 4 + 3) = y3 := fun h => by rw [hjp]; exact HLk.out.2.2 h
                  have hd1 : decide (ps k < j + 1) = true := decide_eq_true (by omega)
                  have HD := hide hd1
                  rw [e0] at z0
                  clear hd1 hjp HQ HXO HOO HRT' HLk
                  generalize decide (ps k < j) = D at *
                  cases OB
                  · obtain ⟨e1, e2, e4⟩ := e3 rfl
                    rw [e1] at z1
                    rw [e2] at z2
                    rw [e4] at z3
                    clear e0 e1 e2 e4 e3
                    go_upto_region 25 with fail
                    go_region
                    all_goals
                      go_upto_region 26 with fail
                      go_quiet (fail)
                      go_wp2_with fail
                      exact ⟨⟨j + 1, by omega, by rw [HD.out], rfl, below_drewN HB.out _⟩, by simp [intOf]; omega⟩
                  · clear e0 e3
                    go_upto_region 25 with fail
                    go_region
                    all_goals
                      go_upto_region 26 with fail
                      go_quiet (fail)
                      go_wp2_with fail
                      exact ⟨⟨j + 1, by omega, by rw [HD.out], rfl, below_drewN HB.out _⟩, by simp [intOf]; omega⟩
                · have hne : (gL L' (j * 4) == y0) = false := by
                    have : gL L' (j * 4) ≠ y0 := fun e => hjp (HRT'.out.one hjl HLk.out.1 (e.trans HLk.out.2.1.symm))
                    simpa using this
                  have hd : decide (ps k < j) = decide (ps k < j + 1) := by
                    by_cases h : ps k < j
                    · rw [decide_eq_true h, decide_eq_true (by omega)]
                    · rw [decide_eq_false h, decide_eq_false (by omega)]
                  have HD := hide hd
                  clear hd hjp z1 z2 z3 q1 q2 q3 HQ HXO HOO HRT' HLk
                  generalize decide (ps k < j) = D at *
                  generalize gL L' (j * 4) = x0 at *
                  go_upto_region 25 with fail
                  go_region
                  all_goals
                    go_wp2_with fail
                    exact ⟨⟨j + 1, by omega, by rw [HD.out], rfl, HB.out.drew⟩, by simp [intOf]; omega⟩
              · obtain rfl : j = M' := by omega
                have hdd : decide (ps k < j) = true := decide_eq_true HLk.out.1
                rw [hdd]
                have HBW := hide (bnext HBO.out (Nat.le_refl _) HB.out)
                clear HXO HOO HQ HRT' HLk
                go_wp2_with fail
                exact ⟨⟨k + 1, by omega, rfl, HBW.out⟩, by simp [intOf]; omega⟩
      · obtain rfl : k = n := by omega
        have HBW := hide (bnext HS7.out.below (Nat.le_refl _) HB.out)
        go_wp2_with fail
        go_ret
        exact ⟨rfl, HBW.out⟩

end Go.Proofs.Ytfhfddmiiopgdaa

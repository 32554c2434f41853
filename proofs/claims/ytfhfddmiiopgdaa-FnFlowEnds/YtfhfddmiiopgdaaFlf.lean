/- The specification's act upon a flow. -/
import Derived.Test.YtfhfddmiiopgdaaFlg
import Derived.Deep.RegionHeld3
import Derived.Deep.DeepCutAuto
import Derived.BigQuiet
namespace Go.Proofs.Ytfhfddmiiopgdaa
open Go.RowKit

theorem out_new {wA Wx w' : World} {v v' : Value} {n : Nat} {L : List Int} (c : Int) (hb : Below wA.heap.size wA Wx) (hown : w'.ownsRow wA.heap.size 41 4 v' (0 + n) (ints ([] ++ L))) (hg : Wx.grownBy w' v.ownBlock) (hv : ∀ q, v.ownBlock = some q → wA.heap.size ≤ q) :
    (∃ ad cp, v' = .slice ad n cp) ∧ FS wA.heap.size w'.heap.size c v' n L (w'.alloc (.cells #[.int .i64 c, v'] 28)) ∧ Below wA.heap.size wA (w'.alloc (.cells #[.int .i64 c, v'] 28)) ∧ Below wA.heap.size wA w' := by
  have h1 : w'.ownsRow wA.heap.size 41 4 v' n (ints L) := by simpa using hown
  have hb2 : Below wA.heap.size wA w' := hb.grown hg hb.size hv
  obtain ⟨ad, cp, hs, -, -⟩ := own_pxO h1
  refine ⟨⟨ad, cp, hs⟩, ⟨Bx.new [.int .i64 c, v'] 28 w', h1.alloc _, hb2.size, fun b hb e => ?_, fun _ _ h => (by cases h)⟩, hb2.alloc hb2.size _, hb2⟩
  have := (h1.lt b hb).2; omega
theorem out_set {wA Wx w' : World} {v v' : Value} {n O : Nat} {L : List Int} (c : Int) (hb : Below wA.heap.size wA Wx) (hown : w'.ownsRow wA.heap.size 41 4 v' (0 + n) (ints ([] ++ L))) (hg : Wx.grownBy w' v.ownBlock) (hm : v'.ownBlock = v.ownBlock ∨ v'.ownBlock = some Wx.heap.size) (hv : ∀ q, v.ownBlock = some q → wA.heap.size ≤ q ∧ q ≠ O) (hO : wA.heap.size ≤ O) (hO2 : O < Wx.heap.size) (hbx : Bx O [.int .i64 0, .slice none 0 0] Wx) :
    (∃ ad cp, v' = .slice ad n cp) ∧ (w'.cell? ⟨O, 0, none⟩ = some (.int .i64 0) ∧ w'.cell? ⟨O, 1, none⟩ = some (.slice none 0 0) ∧ w'.frozen? ⟨O, 0, none⟩ = false ∧ w'.frozen? ⟨O, 1, none⟩ = false) ∧
    FS wA.heap.size O c v' n L ((w'.setCell ⟨O, 0, none⟩ (.int .i64 c)).setCell ⟨O, 1, none⟩ v') ∧ Below wA.heap.size wA ((w'.setCell ⟨O, 0, none⟩ (.int .i64 c)).setCell ⟨O, 1, none⟩ v') ∧ Below wA.heap.size wA w' := by
  have h1 : w'.ownsRow wA.heap.size 41 4 v' n (ints L) := by simpa using hown
  have hb2 : Below wA.heap.size wA w' := hb.grown hg hb.size (fun q hq => (hv q hq).1)
  have hOv : some O ≠ v.ownBlock := fun e => (hv O e.symm).2 rfl
  have bx : Bx O [.int .i64 0, .slice none 0 0] w' := fun j u hj => by
    obtain ⟨q1, q2⟩ := hbx j u hj
    exact ⟨(hg.cell_far ⟨O, j, none⟩ hO2 hOv).trans q1, (hg.frozen_far ⟨O, j, none⟩ hO2 hOv).trans q2⟩
  have hfar : ∀ b, v'.ownBlock = some b → b ≠ O := fun b hb e => by
    subst e
    rcases hm with h | h
    · exact hOv (hb.symm.trans h)
    · rw [hb] at h; cases h; omega
  obtain ⟨ad, cp, hs, -, -⟩ := own_pxO h1
  exact ⟨⟨ad, cp, hs⟩, ⟨(bx 0 _ rfl).1, (bx 1 _ rfl).1, (bx 0 _ rfl).2, (bx 1 _ rfl).2⟩, ⟨Bx.set (Bx.set bx 0 (.int .i64 c)) 1 v', owns_set (owns_set h1 (q := ⟨O, 0, none⟩) hfar _) (q := ⟨O, 1, none⟩) hfar _, hO, hfar, fun _ _ h => (by cases h)⟩, (hb2.setCell hO _).setCell hO _, hb2⟩

set_option maxRecDepth 100000 in
set_option maxHeartbeats 8000000 in
theorem l16Do_any (c : Int) (a : Option Addr) (n cap : Nat) (g : Nat → Int) (hn : n ≤ 500) (hc : 0 ≤ c ∧ c ≤ 1000000000) (hr : risL (fl g (n * 4)) n) (hnil : a = none → n = 0 ∧ cap = 0) (kd id du : Int) (w : World) (h : Px a (n * 4) g w) :
    Calls Try.prog 20 #[vFlow c a n cap, vAct kd id du] w (FlR (doK c kd) (doN c n (fl g (n * 4)) kd id du) (gL (doL c n (fl g (n * 4)) kd id du)) (doC c n (fl g (n * 4)) kd id du) w) := by
  obtain ⟨K, N, G, C, hKN⟩ : ∃ K N G C, K = doK c kd ∧ N = doN c n (fl g (n * 4)) kd id du ∧ G = gL (doL c n (fl g (n * 4)) kd id du) ∧ C = doC c n (fl g (n * 4)) kd id du := ⟨_, _, _, _, rfl, rfl, rfl, rfl⟩
  rw [← hKN.1, ← hKN.2.1, ← hKN.2.2.1, ← hKN.2.2.2]
  have HKN := hide hKN
  clear hKN
  have HS0 := hide ((((St.start w).box [.int .i64 c, .slice a n cap] 28).box' [.int .i64 kd, .int .i64 id, .int .i64 du] 30 (b := w.heap.size + 1) (by simp)).box' [.int .i64 0, .slice none 0 0] 28 (b := w.heap.size + 2) (by simp))
  generalize hA : ((w.alloc (.cells [.int .i64 c, .slice a n cap].toArray 28)).alloc (.cells [.int .i64 kd, .int .i64 id, .int .i64 du].toArray 30)).alloc (.cells [.int .i64 0, .slice none 0 0].toArray 28) = wA at HS0
  have hA' : ((w.alloc (.cells #[.int .i64 c, .slice a n cap] 28)).alloc (.cells #[.int .i64 kd, .int .i64 id, .int .i64 du] 30)).alloc (.cells #[.int .i64 0, .slice none 0 0] 28) = wA := hA
  clear hA
  have HP0 := hide (h.below HS0.out.below)
  have hsz : w.heap.size + 2 < wA.heap.size := (HS0.out.lt _ (mem_blocks_box (x := (w.heap.size + 2, _)) (List.Mem.head _))).2
  have HN := hide hnil
  have HR := hide hr
  clear h hnil hr
  obtain ⟨i0, i1⟩ := HS0.out.im2 2 rfl
  go_enter Try.func20, Try.ntmps20
  go_upto_region 1 with fail
  clear hA'
  go_cut [6] (fun o wc => ∃ O v, o = .pointer (some ⟨O, 0, none⟩) ∧ FS wA.heap.size O c v n (fl g (n * 4)) wc ∧ Below wA.heap.size wA wc)
  case first =>
    obtain ⟨ti, hi1, hi2, hi3, hi4⟩ := infoO
    have HI1 := hide hi1
    have HX1 : Hid ((wA.alloc (.cells #[] 41)).drew.ownsRow wA.heap.size 41 4 (.slice (some ⟨wA.heap.size, 0, none⟩) 0 0) 0 (ints []) ∧ Below wA.heap.size wA (wA.alloc (.cells #[] 41)).drew) :=
      ⟨World.ownsRow_made wA #[] 0 (Nat.le_refl _) (Nat.zero_le _) rfl, ((Below.refl _ _).alloc (Nat.le_refl _) _).drew⟩
    have HX2 : Hid (((wA.alloc (.cells #[] 41)).alloc (.cells #[.int .i64 0, .slice none 0 0] 28)).drew.ownsRow wA.heap.size 41 4 (.slice (some ⟨wA.heap.size, 0, none⟩) 0 0) 0 (ints []) ∧ Below wA.heap.size wA ((wA.alloc (.cells #[] 41)).alloc (.cells #[.int .i64 0, .slice none 0 0] 28)).drew ∧ Bx (wA.heap.size + 1) [.int .i64 0, .slice none 0 0] ((wA.alloc (.cells #[] 41)).alloc (.cells #[.int .i64 0, .slice none 0 0] 28)).drew ∧ wA.heap.size + 1 < ((wA.alloc (.cells #[] 41)).alloc (.cells #[.int .i64 0, .slice none 0 0] 28)).drew.heap.size) := by
      have hbb : Below wA.heap.size wA (wA.alloc (.cells #[] 41)) := bnew _ _
      have hq : (wA.alloc (.cells #[] 41)).heap.size = wA.heap.size + 1 := by simp
      have hx := Bx.new [.int .i64 0, .slice none 0 0] 28 (wA.alloc (.cells #[] 41))
      rw [hq] at hx
      exact ⟨(World.ownsRow_made wA #[] 0 (Nat.le_refl _) (Nat.zero_le _) rfl).alloc _, (hbb.alloc hbb.size _).drew, hx, by simp⟩
    have HX3 : Hid (((wA.alloc (.cells #[.int .i64 0, .slice none 0 0] 28)).alloc (.cells #[] 41)).drew.ownsRow wA.heap.size 41 4 (.slice (some ⟨wA.heap.size + 1, 0, none⟩) 0 0) 0 (ints []) ∧ Below wA.heap.size wA ((wA.alloc (.cells #[.int .i64 0, .slice none 0 0] 28)).alloc (.cells #[] 41)).drew ∧ Bx wA.heap.size [.int .i64 0, .slice none 0 0] ((wA.alloc (.cells #[.int .i64 0, .slice none 0 0] 28)).alloc (.cells #[] 41)).drew ∧ wA.heap.size < ((wA.alloc (.cells #[.int .i64 0, .slice none 0 0] 28)).alloc (.cells #[] 41)).drew.heap.size) := by
      have hbb : Below wA.heap.size wA (wA.alloc (.cells #[.int .i64 0, .slice none 0 0] 28)) := bnew _ _
      have hq : (wA.alloc (.cells #[.int .i64 0, .slice none 0 0] 28)).heap.size = wA.heap.size + 1 := by simp
      have ho := World.ownsRow_made (e := 41) (size := 4) (base := wA.heap.size) (wA.alloc (.cells #[.int .i64 0, .slice none 0 0] 28)) #[] 0 hbb.size (Nat.zero_le _) rfl
      rw [hq] at ho
      exact ⟨ho, (hbb.alloc hbb.size _).drew, (Bx.new [.int .i64 0, .slice none 0 0] 28 wA).below (bnew (wA.alloc (.cells #[.int .i64 0, .slice none 0 0] 28)) (.cells #[] 41)).drew (by rw [hq]; exact Nat.lt_succ_self _), by simp; omega⟩
    have HP1 := hide (HP0.out.below HX1.out.2)
    have HP2 := hide (HP0.out.below HX2.out.2.1)
    have HP3 := hide (HP0.out.below HX3.out.2.1)
    clear hi1
    go_region_held3 (fun (w' : World) => w'.cell? ⟨w.heap.size, 0, none⟩ = some (.int .i64 c) ∧ w'.cell? ⟨w.heap.size, 1, none⟩ = some (.slice a n cap))
      (first | with_reducible exact ⟨i0, i1⟩ | go_keep | with_reducible exact ⟨x0, x1⟩ | exact ⟨cell_up HB.out i0, cell_up HB.out i1⟩)
      (first
        | (refine stepCG _ (by rfl) _ _ 26 41 4 32 (vOrder 0 0 0 0) ti Try.underlying26 HI1.out hi2 hi3 hi4 rfl (by omega) (by omega) (by rfl) wA.heap.size (.slice (some ⟨wA.heap.size, 0, none⟩) 0 0) 0 [] (by rfl) HX1.out.1 HX1.out.2.size a n cap g (by rfl) HN.out HP1.out (by omega) ?_; intro v' w' h1 h2 h3; obtain ⟨⟨ad, cp, rfl⟩, hF, hB, hb⟩ := out_new c HX1.out.2 h1 h2 (fun q hq => by cases hq; exact Nat.le_refl _); have HF := hide hF; have HB := hide hB; have x0 := cell_up hb i0; have x1 := cell_up hb i1; have x2 := World.block_lt_of_cell? _ _ x0; clear h1 h2 h3 hF hB hb)
        | (refine stepCG _ (by rfl) _ _ 26 41 4 32 (vOrder 0 0 0 0) ti Try.underlying26 HI1.out hi2 hi3 hi4 rfl (by omega) (by omega) (by rfl) wA.heap.size (.slice (some ⟨wA.heap.size, 0, none⟩) 0 0) 0 [] (by rfl) HX2.out.1 HX2.out.2.1.size a n cap g (by rfl) HN.out HP2.out (by omega) ?_; intro v' w' h1 h2 h3; obtain ⟨⟨ad, cp, rfl⟩, ⟨y0, y1, y2, y3⟩, hF, hB, hb⟩ := out_set (O := wA.heap.size + 1) c HX2.out.2.1 h1 h2 h3 (fun q hq => by cases hq; exact ⟨Nat.le_refl _, Nat.ne_of_lt (Nat.lt_succ_self _)⟩) (by omega) HX2.out.2.2.2 HX2.out.2.2.1; have HF := hide hF; have HB := hide hB; have x0 := cell_up hb i0; have x1 := cell_up hb i1; have x2 := World.block_lt_of_cell? _ _ x0; clear h1 h2 h3 hF hB hb)
        | (refine stepCG _ (by rfl) _ _ 26 41 4 32 (vOrder 0 0 0 0) ti Try.underlying26 HI1.out hi2 hi3 hi4 rfl (by omega) (by omega) (by rfl) wA.heap.size (.slice (some ⟨wA.heap.size + 1, 0, none⟩) 0 0) 0 [] (by rfl) HX3.out.1 HX3.out.2.1.size a n cap g (by rfl) HN.out HP3.out (by omega) ?_; intro v' w' h1 h2 h3; obtain ⟨⟨ad, cp, rfl⟩, ⟨y0, y1, y2, y3⟩, hF, hB, hb⟩ := out_set (O := wA.heap.size) c HX3.out.2.1 h1 h2 h3 (fun q hq => by cases hq; exact ⟨Nat.le_succ _, Nat.ne_of_gt (Nat.lt_succ_self _)⟩) (Nat.le_refl _) HX3.out.2.2.2 HX3.out.2.2.1; have HF := hide hF; have HB := hide hB; have x0 := cell_up hb i0; have x1 := cell_up hb i1; have x2 := World.block_lt_of_cell? _ _ x0; clear h1 h2 h3 hF hB hb))
    all_goals
      go_wp2_with fail
      go_meet
      exact ⟨_, _, rfl, HF.out, HB.out⟩
  case rest =>
    obtain ⟨O, v, rfl, hF, hB⟩ := hcut
    have HF := hide hF
    have HB := hide hB
    clear hF hB i0 i1
    have HSc := hide (HS0.out.next HB.out)
    obtain ⟨i0, i1⟩ := HSc.out.im2 2 rfl
    obtain ⟨j0, j1, j2⟩ := HSc.out.im3 1 rfl
    clear HSc
    have cK := l1In_any kd 1 5
    cases hkB : inB kd 1 5
    case false =>
      rw [hkB] at cK
      have hk5 : ¬ (1 ≤ kd ∧ kd ≤ 5) := fun h => by unfold inB at hkB; simp [h.1, h.2] at hkB
      clear hkB
      have q1 : kd ≠ 1 := by omega
      have q5 : kd ≠ 5 := by omega
      have qm : ¬ (kd = 2 ∨ kd = 3 ∨ kd = 4) := by omega
      have HE : Hid (doK c kd = c ∧ doN c n (fl g (n * 4)) kd id du = n ∧ doL c n (fl g (n * 4)) kd id du = fl g (n * 4) ∧ doC c n (fl g (n * 4)) kd id du = 2) := by
        refine ⟨?_, ?_, ?_, ?_⟩
        · unfold doK; rw [if_neg q5]
        · unfold doN; rw [if_neg q1]
        · unfold doL; rw [if_neg q1, if_neg q5, if_neg qm]
        · unfold doC; rw [if_neg q1, if_neg q5, if_neg qm]
      clear hk5 q1 q5 qm
      go_upto_region 2 with fail
      go_quiet ((go_at_call 29; exact Calls.quiet_of_same (cK _)))
      replace HF := hide (HF.out.below (below_drewN (Below.refl _ _) nq))
      replace HB := hide (below_drewN HB.out nq)
      clear i0 i1 j0 j1 j2
      generalize wc.drewN nq = wd at *
      have HSd := hide (HS0.out.next HB.out)
      obtain ⟨i0, i1⟩ := HSd.out.im2 2 rfl
      obtain ⟨j0, j1, j2⟩ := HSd.out.im3 1 rfl
      clear HSd
      clear i0 i1 j0 j1 j2 cK
      obtain ⟨ad', cp', he, t0, t1, k0, k1, e0, e1, d0, d1, hV⟩ := l16Fin2 HS0.out hsz HF.out HB.out (HKN.out.1.trans HE.out.1) (HKN.out.2.1.trans HE.out.2.1) (HKN.out.2.2.1.trans (congrArg gL HE.out.2.2.1)) (HKN.out.2.2.2.trans HE.out.2.2.2)
      cases he
      have HV := hide hV
      clear hV HKN HS0 HF HB HP0 HN HR HE
      go_wp2_with fail
      exact bodyPost_ret (v := .tuple #[vFlow _ _ _ _, .int .i64 2]) (by simp [results, Try.results20, go_sem, d0, d1]) rfl HV.out
    rw [hkB] at cK
    by_cases hk1 : kd = 1
    case pos =>
      subst hk1
      clear hkB
      have cI := l1In_any id 0 1000000
      have cM := l1Max_any 1 c
      have cD := l1In_any du (max 1 c) 1000000000
      cases hI : inB id 0 1000000
      case false =>
        rw [hI] at cI
        have hA : adC c n id du (fdB (fl g (n * 4)) n id) = 2 := by unfold adC; rw [hI]; rfl
        have HE : Hid (doK c 1 = c ∧ doN c n (fl g (n * 4)) 1 id du = n ∧ doL c n (fl g (n * 4)) 1 id du = fl g (n * 4) ∧ doC c n (fl g (n * 4)) 1 id du = 2) := by
          refine ⟨rfl, ?_, ?_, hA⟩
          · show adN _ _ = _; rw [hA]; rfl
          · show adL _ _ _ _ _ = _; rw [hA]; rfl
        clear hA hI cM cD
        go_upto_region 2 with fail
        go_quiet ((go_at_call 29; (first | with_reducible exact Calls.quiet_of_same (cK _) | with_reducible exact Calls.quiet_of_same (cI _))))
        replace HF := hide (HF.out.below (below_drewN (Below.refl _ _) nq))
        replace HB := hide (below_drewN HB.out nq)
        clear i0 i1 j0 j1 j2
        generalize wc.drewN nq = wd at *
        have HSd := hide (HS0.out.next HB.out)
        obtain ⟨i0, i1⟩ := HSd.out.im2 2 rfl
        obtain ⟨j0, j1, j2⟩ := HSd.out.im3 1 rfl
        clear HSd
        clear i0 i1 j0 j1 j2 cK cI
        obtain ⟨ad', cp', he, t0, t1, k0, k1, e0, e1, d0, d1, hV⟩ := l16Fin2 HS0.out hsz HF.out HB.out (HKN.out.1.trans HE.out.1) (HKN.out.2.1.trans HE.out.2.1) (HKN.out.2.2.1.trans (congrArg gL HE.out.2.2.1)) (HKN.out.2.2.2.trans HE.out.2.2.2)
        cases he
        have HV := hide hV
        clear hV HKN HS0 HF HB HP0 HN HR HE
        go_wp2_with fail
        exact bodyPost_ret (v := .tuple #[vFlow _ _ _ _, .int .i64 2]) (by simp [results, Try.results20, go_sem, d0, d1]) rfl HV.out
      rw [hI] at cI
      cases hD : inB du (max 1 c) 1000000000
      case false =>
        rw [hD] at cD
        have hA : adC c n id du (fdB (fl g (n * 4)) n id) = 2 := by unfold adC; rw [hI, hD]; rfl
        have HE : Hid (doK c 1 = c ∧ doN c n (fl g (n * 4)) 1 id du = n ∧ doL c n (fl g (n * 4)) 1 id du = fl g (n * 4) ∧ doC c n (fl g (n * 4)) 1 id du = 2) := by
          refine ⟨rfl, ?_, ?_, hA⟩
          · show adN _ _ = _; rw [hA]; rfl
          · show adL _ _ _ _ _ = _; rw [hA]; rfl
        clear hA hI hD
        generalize max 1 c = mx at *
        go_upto_region 2 with fail
        go_quiet (first | (go_at_call 30; exact Calls.quiet_of_same (cM _)) | (go_at_call 29; (first | with_reducible exact Calls.quiet_of_same (cK _) | with_reducible exact Calls.quiet_of_same (cI _) | with_reducible exact Calls.quiet_of_same (cD _))))
        replace HF := hide (HF.out.below (below_drewN (Below.refl _ _) nq))
        replace HB := hide (below_drewN HB.out nq)
        clear i0 i1 j0 j1 j2
        generalize wc.drewN nq = wd at *
        have HSd := hide (HS0.out.next HB.out)
        obtain ⟨i0, i1⟩ := HSd.out.im2 2 rfl
        obtain ⟨j0, j1, j2⟩ := HSd.out.im3 1 rfl
        clear HSd
        clear i0 i1 j0 j1 j2 cK cI cM cD
        obtain ⟨ad', cp', he, t0, t1, k0, k1, e0, e1, d0, d1, hV⟩ := l16Fin2 HS0.out hsz HF.out HB.out (HKN.out.1.trans HE.out.1) (HKN.out.2.1.trans HE.out.2.1) (HKN.out.2.2.1.trans (congrArg gL HE.out.2.2.1)) (HKN.out.2.2.2.trans HE.out.2.2.2)
        cases he
        have HV := hide hV
        clear hV HKN HS0 HF HB HP0 HN HR HE
        go_wp2_with fail
        exact bodyPost_ret (v := .tuple #[vFlow _ _ _ _, .int .i64 2]) (by simp [results, Try.results20, go_sem, d0, d1]) rfl HV.out
      rw [hD] at cD
      by_cases h5 : n = 500
      case pos =>
        have hA : adC c n id du (fdB (fl g (n * 4)) n id) = 3 := by unfold adC; rw [hI, hD, if_neg (by decide), if_neg (by decide), if_pos (by omega)]
        have HE : Hid (doK c 1 = c ∧ doN c n (fl g (n * 4)) 1 id du = n ∧ doL c n (fl g (n * 4)) 1 id du = fl g (n * 4) ∧ doC c n (fl g (n * 4)) 1 id du = 3) := by
          refine ⟨rfl, ?_, ?_, hA⟩
          · show adN _ _ = _; rw [hA]; rfl
          · show adL _ _ _ _ _ = _; rw [hA]; rfl
        clear hA hI hD
        have h5b : ((n : Int) == 500) = true := by subst h5; rfl
        clear h5
        generalize max 1 c = mx at *
        go_upto_region 2 with fail
        go_quiet (first | (go_at_call 30; exact Calls.quiet_of_same (cM _)) | (go_at_call 29; (first | with_reducible exact Calls.quiet_of_same (cK _) | with_reducible exact Calls.quiet_of_same (cI _) | with_reducible exact Calls.quiet_of_same (cD _))))
        replace HF := hide (HF.out.below (below_drewN (Below.refl _ _) nq))
        replace HB := hide (below_drewN HB.out nq)
        clear i0 i1 j0 j1 j2
        generalize wc.drewN nq = wd at *
        have HSd := hide (HS0.out.next HB.out)
        obtain ⟨i0, i1⟩ := HSd.out.im2 2 rfl
        obtain ⟨j0, j1, j2⟩ := HSd.out.im3 1 rfl
        clear HSd
        clear cK cI cM cD i0 j1 j2
        obtain ⟨ad', cp', he, t0, t1, k0, k1, e0, e1, d0, d1, hV⟩ := l16Fin2 HS0.out hsz HF.out HB.out (HKN.out.1.trans HE.out.1) (HKN.out.2.1.trans HE.out.2.1) (HKN.out.2.2.1.trans (congrArg gL HE.out.2.2.1)) (HKN.out.2.2.2.trans HE.out.2.2.2)
        cases he
        have HV := hide hV
        clear hV HKN HS0 HF HB HP0 HN HR HE
        go_wp2_with fail
        exact bodyPost_ret (v := .tuple #[vFlow _ _ _ _, .int .i64 3]) (by simp [results, Try.results20, go_sem, d0, d1]) rfl HV.out
      have h5b : ((n : Int) == 500) = false := by simp; omega
      have HAC : Hid (∀ f, adC c n id du f = if f = true then 4 else 0) := fun f => by unfold adC; rw [hI, hD, if_neg (by decide), if_neg (by decide), if_neg (by omega)]
      have hn5 : n < 500 := by omega
      clear h5 hI hD
      have HPL := hide (plL_is id HR.out)
      generalize max 1 c = mx at *
      go_upto_region 2 with fail
      go_quiet (first | (go_at_call 30; exact Calls.quiet_of_same (cM _)) | (go_at_call 29; (first | with_reducible exact Calls.quiet_of_same (cK _) | with_reducible exact Calls.quiet_of_same (cI _) | with_reducible exact Calls.quiet_of_same (cD _))))
      replace HF := hide (HF.out.below (below_drewN (Below.refl _ _) nq))
      replace HB := hide (below_drewN HB.out nq)
      clear i0 i1 j0 j1 j2
      generalize wc.drewN nq = wd at *
      have HSd := hide (HS0.out.next HB.out)
      obtain ⟨i0, i1⟩ := HSd.out.im2 2 rfl
      obtain ⟨j0, j1, j2⟩ := HSd.out.im3 1 rfl
      clear HSd
      clear cK cI cM cD
      have cF := l16Find_any c a n cap g id (by omega) wd (HP0.out.below HB.out)
      rw [fd_eq id HR.out] at cF
      go_wp2_with fail
      refine cF.mono ?_
      rintro e we ⟨rfl, hb⟩
      replace HF := hide (HF.out.below hb)
      replace HB := hide (bnext HB.out (Nat.le_refl _) hb)
      clear cF hb i0 i1 j0 j1 j2
      have HSe := hide (HS0.out.next HB.out)
      obtain ⟨i0, i1⟩ := HSe.out.im2 2 rfl
      obtain ⟨j0, j1, j2⟩ := HSe.out.im3 1 rfl
      clear HSe
      cases hf : fdB (fl g (n * 4)) n id
      case true =>
        rw [if_pos rfl]
        have hA : adC c n id du (fdB (fl g (n * 4)) n id) = 4 := by rw [HAC.out, hf]; rfl
        have HE : Hid (doK c 1 = c ∧ doN c n (fl g (n * 4)) 1 id du = n ∧ doL c n (fl g (n * 4)) 1 id du = fl g (n * 4) ∧ doC c n (fl g (n * 4)) 1 id du = 4) := by
          refine ⟨rfl, ?_, ?_, hA⟩
          · show adN _ _ = _; rw [hA]; rfl
          · show adL _ _ _ _ _ = _; rw [hA]; rfl
        clear hA hf HAC HPL
        generalize plL (fl g (n * 4)) n id = p at *
        obtain ⟨ad', cp', he, t0, t1, k0, k1, e0, e1, d0, d1, hV⟩ := l16Fin2 HS0.out hsz HF.out HB.out (HKN.out.1.trans HE.out.1) (HKN.out.2.1.trans HE.out.2.1) (HKN.out.2.2.1.trans (congrArg gL HE.out.2.2.1)) (HKN.out.2.2.2.trans HE.out.2.2.2)
        cases he
        have HV := hide hV
        clear hV HKN HS0 HF HB HP0 HN HR HE i0 i1 j1 j2
        go_wp2_with fail
        exact bodyPost_ret (v := .tuple #[vFlow _ _ _ _, .int .i64 4]) (by simp [results, Try.results20, go_sem, d0, d1]) rfl HV.out
      rw [if_neg (by decide)]
      have hA : adC c n id du (fdB (fl g (n * 4)) n id) = 0 := by rw [HAC.out, hf]; rfl
      have HE : Hid (doK c 1 = c ∧ doN c n (fl g (n * 4)) 1 id du = n + 1 ∧ doL c n (fl g (n * 4)) 1 id du = insL (fl g (n * 4)) (plL (fl g (n * 4)) n id) [id, 1, du, 0] ∧ doC c n (fl g (n * 4)) 1 id du = 0) := by
        refine ⟨rfl, ?_, ?_, hA⟩
        · show adN _ _ = _; rw [hA]; rfl
        · show adL _ _ _ _ _ = _; rw [hA]; rfl
      have HGT : Hid (∀ k, k < n → (k < plL (fl g (n * 4)) n id → ¬ id < g (k * 4)) ∧ (plL (fl g (n * 4)) n id ≤ k → id < g (k * 4))) := ins_test HR.out hf HPL.out
      have hpn : plL (fl g (n * 4)) n id ≤ n := HPL.out.1
      have HLL : Hid ((fl g (n * 4)).length = n * 4) := fl_len _ _
      have HGF : Hid (∀ k, k < n * 4 → gL (fl g (n * 4)) k = g k) := fun k hk => gL_fl g _ _ hk
      clear hA hf HAC HPL h5b HR
      have HPe := hide (HP0.out.below HB.out)
      generalize plL (fl g (n * 4)) n id = p at *
      generalize fl g (n * 4) = L at *
      have hOe : O < we.heap.size := HF.out.lt
      have HI0 := hide (InS.start we id du)
      have ja1 := cell_up (bnew we (.cells #[] 41)) j1
      have ja2 := cell_up (bnew we (.cells #[] 41)) j2
      clear i0
      go_wp2_with fail
      generalize (we.alloc (.cells #[] 41)).alloc (.cells #[.int .i64 id, .int .i64 1, .int .i64 du, .int .i64 0] 41) = wf at *
      clear ja1 ja2
      generalize hX : we.heap.size + 1 = X at *
      clear hX
      go_loopw [9, 10, 12] (fun vo lb i wr => ∃ (k : Nat) (vv : Value), k ≤ n ∧ vv = vo ∧ lb = .bool (decide (p < k)) ∧ i = .int .i64 k ∧ InS we X id du vv (inN p k) (inK L p [id, 1, du, 0] k) wr) (fun _ _ i _ => n - (intOf i).toNat)
      case atStart => exact ⟨0, _, by omega, rfl, by simp, rfl, by rw [inN_0, inK_0]; exact HI0.out⟩
      case round =>
        obtain ⟨k, vv, hk, rfl, rfl, rfl, hI⟩ := hrel
        have HI := hide hI
        clear hI HI0
        have i1r := cell_up HI.out.bel i1
        have j1r := cell_up HI.out.bel j1
        have hin : inN p k ≤ 1000 := by unfold inN; split <;> omega
        by_cases hlt : k < n
        · obtain ⟨b, off, rfl, -, ze0, ze1, ze2, ze3⟩ := HPe.out.atOrder hlt
          have HZ := hide (And.intro i1 (And.intro ze0 (And.intro ze1 (And.intro ze2 ze3))))
          have z0 := cell_up HI.out.bel ze0
          have z1 := cell_up HI.out.bel ze1
          have z2 := cell_up HI.out.bel ze2
          have z3 := cell_up HI.out.bel ze3
          clear ze0 ze1 ze2 ze3
          have HGk := hide (HGT.out k hlt)
          have HG0 := hide (HGF.out (k * 4) (by omega))
          have HG1 := hide (HGF.out (k * 4 + 1) (by omega))
          have HG2 := hide (HGF.out (k * 4 + 2) (by omega))
          have HG3 := hide (HGF.out (k * 4 + 3) (by omega))
          clear i1 j1 j0 j2 HGT HGF HPe HKN HS0 HP0 HN HE HF HB
          rcases Nat.lt_trichotomy k p with hkp | hkp | hkp
          · skip
            have HX := hide (inK_past (xs := [id, 1, du, 0]) HLL.out hlt hkp)
            have hdl : decide (p < k) = false := by simp; omega
            have hD2 : decide (p < k + 1) = false := by simp; omega
            have HD2 := hide hD2
            clear hD2
            rw [hdl]
            have hgt : ¬ id < g (k * 4) := by have := HGk.out.1 (by omega); omega
            rw [HG0.out, HG1.out, HG2.out, HG3.out] at HX
            clear HG0 HG1 HG2 HG3 HGk hdl
            generalize g (k * 4) = y0 at *
            generalize g (k * 4 + 1) = y1 at *
            generalize g (k * 4 + 2) = y2 at *
            generalize g (k * 4 + 3) = y3 at *
            generalize inN p k = M at *
            generalize inK L p [id, 1, du, 0] k = LK at *
            go_upto_region 25 with fail
            go_quiet (fail)
            replace HI := hide (HI.out.drewN nq)
            replace i1r := cell_up (below_drewN (Below.refl _ wr) nq) i1r
            replace z0 := cell_up (below_drewN (Below.refl _ wr) nq) z0
            replace z1 := cell_up (below_drewN (Below.refl _ wr) nq) z1
            replace z2 := cell_up (below_drewN (Below.refl _ wr) nq) z2
            replace z3 := cell_up (below_drewN (Below.refl _ wr) nq) z3
            generalize wr.drewN nq = wq at *
            go_wp2_with (refine growO _ rfl _ _ rfl we X id du vv M LK rfl HI.out y0 y1 y2 y3 rfl (by omega) ?_)
            intro v1 w1 hI1
            replace HI := hide hI1
            clear hI1 z0 z1 z2 z3 i1r
            go_wp2_with fail
            exact ⟨⟨k + 1, v1, by omega, rfl, by rw [HD2.out], rfl, by rw [HX.out.1, HX.out.2]; exact HI.out⟩, by simp [intOf]; omega⟩
          · subst hkp
            have HX := hide (inK_at (xs := [id, 1, du, 0]) HLL.out hlt)
            have hdl : decide (k < k) = false := by simp
            have hD2 : decide (k < k + 1) = true := by simp
            have HD2 := hide hD2
            clear hD2
            rw [hdl]
            have hgt : id < g (k * 4) := by have := HGk.out.2 (by omega); omega
            rw [HG0.out, HG1.out, HG2.out, HG3.out] at HX
            clear HG0 HG1 HG2 HG3 HGk hdl
            generalize g (k * 4) = y0 at *
            generalize g (k * 4 + 1) = y1 at *
            generalize g (k * 4 + 2) = y2 at *
            generalize g (k * 4 + 3) = y3 at *
            generalize inN k k = M at *
            generalize inK L k [id, 1, du, 0] k = LK at *
            go_upto_region 25 with fail
            go_quiet (fail)
            replace HI := hide (HI.out.drewN nq)
            replace i1r := cell_up (below_drewN (Below.refl _ wr) nq) i1r
            replace z0 := cell_up (below_drewN (Below.refl _ wr) nq) z0
            replace z1 := cell_up (below_drewN (Below.refl _ wr) nq) z1
            replace z2 := cell_up (below_drewN (Below.refl _ wr) nq) z2
            replace z3 := cell_up (below_drewN (Below.refl _ wr) nq) z3
            generalize wr.drewN nq = wq at *
            have x0 := (HI.out.box 0 _ rfl).1
            have x1 := (HI.out.box 1 _ rfl).1
            have x2 := (HI.out.box 2 _ rfl).1
            have x3 := (HI.out.box 3 _ rfl).1
            go_wp2_with (refine growO _ rfl _ _ rfl we X id du vv M LK rfl HI.out id 1 du 0 rfl (by omega) ?_)
            intro v1 w1 hI1
            replace HI := hide hI1
            clear hI1 z0 z1 z2 z3 i1r x0 x1 x2 x3
            have i1r := cell_up HI.out.bel HZ.out.1
            have z0 := cell_up HI.out.bel HZ.out.2.1
            have z1 := cell_up HI.out.bel HZ.out.2.2.1
            have z2 := cell_up HI.out.bel HZ.out.2.2.2.1
            have z3 := cell_up HI.out.bel HZ.out.2.2.2.2
            clear HZ
            go_wp2_with (refine growO _ rfl _ _ rfl we X id du v1 (M + 1) (LK ++ [id, 1, du, 0]) rfl HI.out y0 y1 y2 y3 rfl (by omega) ?_)
            intro v2 w2 hI2
            replace HI := hide hI2
            clear hI2 z0 z1 z2 z3 i1r
            go_wp2_with fail
            exact ⟨⟨k + 1, v2, by omega, rfl, by rw [HD2.out], rfl, by rw [HX.out.1, HX.out.2, List.append_assoc]; exact HI.out⟩, by simp [intOf]; omega⟩
          · skip
            have HX := hide (inK_laid (xs := [id, 1, du, 0]) HLL.out hlt hkp)
            have hdl : decide (p < k) = true := by simp; omega
            have hD2 : decide (p < k + 1) = true := by simp; omega
            have HD2 := hide hD2
            clear hD2
            rw [hdl]
            rw [HG0.out, HG1.out, HG2.out, HG3.out] at HX
            clear HG0 HG1 HG2 HG3 HGk hdl
            generalize g (k * 4) = y0 at *
            generalize g (k * 4 + 1) = y1 at *
            generalize g (k * 4 + 2) = y2 at *
            generalize g (k * 4 + 3) = y3 at *
            generalize inN p k = M at *
            generalize inK L p [id, 1, du, 0] k = LK at *
            go_upto_region 25 with fail
            go_quiet (fail)
            replace HI := hide (HI.out.drewN nq)
            replace i1r := cell_up (below_drewN (Below.refl _ wr) nq) i1r
            replace z0 := cell_up (below_drewN (Below.refl _ wr) nq) z0
            replace z1 := cell_up (below_drewN (Below.refl _ wr) nq) z1
            replace z2 := cell_up (below_drewN (Below.refl _ wr) nq) z2
            replace z3 := cell_up (below_drewN (Below.refl _ wr) nq) z3
            generalize wr.drewN nq = wq at *
            go_wp2_with (refine growO _ rfl _ _ rfl we X id du vv M LK rfl HI.out y0 y1 y2 y3 rfl (by omega) ?_)
            intro v1 w1 hI1
            replace HI := hide hI1
            clear hI1 z0 z1 z2 z3 i1r
            go_wp2_with fail
            exact ⟨⟨k + 1, v1, by omega, rfl, by rw [HD2.out], rfl, by rw [HX.out.1, HX.out.2]; exact HI.out⟩, by simp [intOf]; omega⟩
        · obtain rfl : k = n := by omega
          clear HGT HGF HPe HP0 HN hlt j0 j1 j2 i1 j1r
          have HF2 := HF
          by_cases hpk : p < k
          · have HX := hide (inK_end (xs := [id, 1, du, 0]) HLL.out hpk)
            have hdl : decide (p < k) = true := by simp; omega
            rw [hdl]
            clear hdl HLL
            rw [HX.out.1, HX.out.2] at HI
            clear HX
            obtain ⟨hF1, hB1, o1, o2⟩ := HI.out.flow HF.out
            have hB2 := HB.out.trans hB1
            obtain ⟨wz, hwz⟩ : ∃ wz, wz = wr.setCell ⟨O, 1, none⟩ vv := ⟨_, rfl⟩
            rw [← hwz] at hF1 hB2
            replace HF := hide hF1
            replace HB := hide hB2
            have hwz' := hwz.symm
            clear hwz hF1 hB2 hB1 HI HF2 hin
            obtain ⟨ad', cp', he, t0, t1, k0, k1, e0, e1, d0, d1, hV⟩ := l16Fin2 HS0.out hsz HF.out HB.out (HKN.out.1.trans HE.out.1) (HKN.out.2.1.trans HE.out.2.1) (HKN.out.2.2.1.trans (congrArg gL HE.out.2.2.1)) (HKN.out.2.2.2.trans HE.out.2.2.2)
            cases he
            have HV := hide hV
            clear hV HKN HS0 HF HB  HE
            go_wp2_with fail
            exact bodyPost_ret (v := .tuple #[vFlow _ _ _ _, .int .i64 0]) (by simp [results, Try.results20, go_sem, d0, d1]) rfl HV.out
          · obtain rfl : p = k := by omega
            have HX := hide (inK_last (xs := [id, 1, du, 0]) HLL.out)
            have hdl : decide (p < p) = false := by simp
            rw [hdl]
            clear hdl HLL
            rw [HX.out.2] at HI
            have x0 := (HI.out.box 0 _ rfl).1
            have x1 := (HI.out.box 1 _ rfl).1
            have x2 := (HI.out.box 2 _ rfl).1
            have x3 := (HI.out.box 3 _ rfl).1
            generalize inK L p [id, 1, du, 0] p = LK at *
            go_wp2_with (refine growO _ rfl _ _ rfl we X id du vv p LK rfl HI.out id 1 du 0 rfl (by omega) ?_)
            intro v1 w1 hI1
            rw [HX.out.1] at hI1
            clear HX x0 x1 x2 x3 HI i1r
            obtain ⟨hF1, hB1, o1, o2⟩ := hI1.flow HF.out
            have hB2 := HB.out.trans hB1
            obtain ⟨wz, hwz⟩ : ∃ wz, wz = w1.setCell ⟨O, 1, none⟩ v1 := ⟨_, rfl⟩
            rw [← hwz] at hF1 hB2
            replace HF := hide hF1
            replace HB := hide hB2
            have hwz' := hwz.symm
            clear hwz hF1 hB2 hB1 hI1 HF2 hin
            obtain ⟨ad', cp', he, t0, t1, k0, k1, e0, e1, d0, d1, hV⟩ := l16Fin2 HS0.out hsz HF.out HB.out (HKN.out.1.trans HE.out.1) (HKN.out.2.1.trans HE.out.2.1) (HKN.out.2.2.1.trans (congrArg gL HE.out.2.2.1)) (HKN.out.2.2.2.trans HE.out.2.2.2)
            cases he
            have HV := hide hV
            clear hV HKN HS0 HF HB  HE
            go_wp2_with fail
            exact bodyPost_ret (v := .tuple #[vFlow _ _ _ _, .int .i64 0]) (by simp [results, Try.results20, go_sem, d0, d1]) rfl HV.out
    by_cases hk5 : kd = 5
    case pos =>
      subst hk5
      clear hkB hk1
      by_cases hm : c = 1000000000
      case pos =>
        have HE : Hid (doK c 5 = c ∧ doN c n (fl g (n * 4)) 5 id du = n ∧ doL c n (fl g (n * 4)) 5 id du = fl g (n * 4) ∧ doC c n (fl g (n * 4)) 5 id du = 3) := by
          refine ⟨?_, rfl, ?_, ?_⟩
          · unfold doK; rw [if_pos rfl, if_pos hm]
          · unfold doL; rw [if_neg (by decide), if_pos rfl, if_pos hm]
          · unfold doC; rw [if_neg (by decide), if_pos rfl, if_pos hm]
        have hmb : (c == 1000000000) = true := by simpa using hm
        clear hm
        go_upto_region 2 with fail
        go_quiet ((go_at_call 29; exact Calls.quiet_of_same (cK _)))
        replace HF := hide (HF.out.below (below_drewN (Below.refl _ _) nq))
        replace HB := hide (below_drewN HB.out nq)
        clear i0 i1 j0 j1 j2
        generalize wc.drewN nq = wd at *
        have HSd := hide (HS0.out.next HB.out)
        obtain ⟨i0, i1⟩ := HSd.out.im2 2 rfl
        obtain ⟨j0, j1, j2⟩ := HSd.out.im3 1 rfl
        clear HSd
        clear cK i1 j1 j2
        obtain ⟨ad', cp', he, t0, t1, k0, k1, e0, e1, d0, d1, hV⟩ := l16Fin2 HS0.out hsz HF.out HB.out (HKN.out.1.trans HE.out.1) (HKN.out.2.1.trans HE.out.2.1) (HKN.out.2.2.1.trans (congrArg gL HE.out.2.2.1)) (HKN.out.2.2.2.trans HE.out.2.2.2)
        cases he
        have HV := hide hV
        clear hV HKN HS0 HF HB HP0 HN HR HE
        go_wp2_with fail
        exact bodyPost_ret (v := .tuple #[vFlow _ _ _ _, .int .i64 3]) (by simp [results, Try.results20, go_sem, d0, d1]) rfl HV.out
      have HE : Hid (doK c 5 = c + 1 ∧ doN c n (fl g (n * 4)) 5 id du = n ∧ doL c n (fl g (n * 4)) 5 id du = tkL (c + 1) (fl g (n * 4)) n ∧ doC c n (fl g (n * 4)) 5 id du = 0) := by
        refine ⟨?_, rfl, ?_, ?_⟩
        · unfold doK; rw [if_pos rfl, if_neg hm]
        · unfold doL; rw [if_neg (by decide), if_pos rfl, if_neg hm]
        · unfold doC; rw [if_neg (by decide), if_pos rfl, if_neg hm]
      have hmb : (c == 1000000000) = false := by simpa using hm
      go_upto_region 2 with fail
      go_quiet ((go_at_call 29; exact Calls.quiet_of_same (cK _)))
      replace HF := hide (HF.out.below (below_drewN (Below.refl _ _) nq))
      replace HB := hide (below_drewN HB.out nq)
      clear i0 i1 j0 j1 j2
      generalize wc.drewN nq = wd at *
      have HSd := hide (HS0.out.next HB.out)
      obtain ⟨i0, i1⟩ := HSd.out.im2 2 rfl
      obtain ⟨j0, j1, j2⟩ := HSd.out.im3 1 rfl
      clear HSd
      clear cK i1 j1 j2
      generalize fl g (n * 4) = L at *
      have t0 := (HF.out.box 0 _ rfl).1
      have f0 := (HF.out.box 0 _ rfl).2
      have HF1 := hide (HF.out.clock (c + 1))
      have HB1 := hide (HB.out.setCell (p := ⟨O, 0, none⟩) HF.out.hB (.int .i64 (c + 1)))
      obtain ⟨ad, cp, rfl, -, -⟩ := own_pxO HF.out.own
      clear HF HB
      go_upto_region 8 with fail
      generalize hw1 : wd.setCell ⟨O, 0, none⟩ (.int .i64 (c + 1)) = w1 at *
      clear hw1 i0 j0 t0 f0 hmb hm
      go_wp2_with fail
      go_loopw [7] (fun i wr => ∃ k : Nat, k ≤ n ∧ i = .int .i64 k ∧ FS wA.heap.size O (c + 1) (.slice ad n cp) n (tkL (c + 1) L k) wr ∧ Below wA.heap.size wA wr) (fun i _ => n - (intOf i).toNat)
      case atStart => exact ⟨0, by omega, rfl, HF1.out, HB1.out⟩
      case round =>
        obtain ⟨k, hk, rfl, hF, hB⟩ := hrel
        have HF := hide hF
        have HB := hide hB
        clear hF hB HF1 HB1
        have j0 := (HF.out.box 0 _ rfl).1
        have j1 := (HF.out.box 1 _ rfl).1
        by_cases hlt : k < n
        · clear HE HKN HS0 HP0 HN HR
          obtain ⟨b, cp', hbe, hBb, hcl⟩ := HF.out.form (by omega)
          cases hbe
          obtain ⟨z0, -⟩ := hcl (k * 4) (by omega)
          obtain ⟨z1, g1⟩ := hcl (k * 4 + 1) (by omega)
          obtain ⟨z2, -⟩ := hcl (k * 4 + 2) (by omega)
          obtain ⟨z3, g3⟩ := hcl (k * 4 + 3) (by omega)
          rw [tk_rest _ _ _ _ (by omega)] at z0 z1 z2 z3
          have cO := l16Open_any (gL L (k * 4)) (gL L (k * 4 + 1)) (gL L (k * 4 + 2)) (gL L (k * 4 + 3))
          have HK : Hid (tkL (c + 1) L (k + 1) = if (opB (gL L (k * 4 + 1)) && decide (gL L (k * 4 + 2) < c + 1)) = true then ((tkL (c + 1) L k).set (k * 4 + 1) 5).set (k * 4 + 3) (c + 1) else tkL (c + 1) L k) := rfl
          clear hcl g1 g3
          generalize gL L (k * 4) = y0 at *
          generalize gL L (k * 4 + 1) = y1 at *
          generalize gL L (k * 4 + 2) = y2 at *
          generalize gL L (k * 4 + 3) = y3 at *
          generalize opB y1 = OB at *
          have SK : Nonempty (Up wr) := up_ne wr
          have u0 := fun p : Up wr => p.cell j0
          have u1 := fun p : Up wr => p.cell j1
          have u2 := fun p : Up wr => p.cell z0
          have u3 := fun p : Up wr => p.cell z1
          have u4 := fun p : Up wr => p.cell z2
          have u5 := fun p : Up wr => p.cell z3
          by_cases hd : y2 < c + 1
          · cases OB
            · skip
              have HK2 : Hid (tkL (c + 1) L (k + 1) = tkL (c + 1) L k) := by show _ = _; rw [HK.out, Bool.false_and]; rfl
              clear HK
              go_upto_region 11 with fail
              refine region_up (by kernel_rfl) (by kernel_rfl) ?_
              repeat (go_big_quiet_step ((go_at_call 31; exact calls_up (cO _))))
              refine wpQuiet_nil ?_
              intro _ hw2
              obtain ⟨pq, hw3⟩ := hw2
              subst hw3
              have HF2 := hide (HF.out.below pq.below)
              have HB2 : Hid (Below wA.heap.size wA pq.w) := HB.out.trans (pq.below.mono (Nat.le_trans HF.out.hB (Nat.le_of_lt HF.out.lt)))
              clear u0 u1 u2 u3 u4 u5 SK z0 z1 z2 z3 j0 j1 cO HF HB
              generalize pq.w = w2 at *
              go_wp2_with fail
              exact ⟨⟨k + 1, by omega, rfl, by rw [HK2.out]; exact HF2.out, HB2.out⟩, by simp [intOf]; omega⟩
            · have HK2 : Hid (tkL (c + 1) L (k + 1) = ((tkL (c + 1) L k).set (k * 4 + 1) 5).set (k * 4 + 3) (c + 1)) := by show _ = _; rw [HK.out, decide_eq_true hd]; rfl
              clear HK
              go_upto_region 11 with fail
              refine region_up (by kernel_rfl) (by kernel_rfl) ?_
              repeat (go_big_quiet_step ((go_at_call 31; exact calls_up (cO _))))
              refine wpQuiet_nil ?_
              intro _ hw2
              obtain ⟨pq, hw3⟩ := hw2
              subst hw3
              have HF2 := hide (HF.out.below pq.below)
              have HB2 : Hid (Below wA.heap.size wA pq.w) := HB.out.trans (pq.below.mono (Nat.le_trans HF.out.hB (Nat.le_of_lt HF.out.lt)))
              clear u0 u1 u2 u3 u4 u5 SK z0 z1 z2 z3 j0 j1 cO HF HB
              generalize pq.w = w2 at *
              have j1 := (HF2.out.box 1 _ rfl).1
              obtain ⟨b', cp', hbe, -, hcl⟩ := HF2.out.form (by omega)
              cases hbe
              obtain ⟨t1, e1⟩ := hcl (k * 4 + 1) (by omega)
              have HFs := hide (HF2.out.set (k * 4 + 1) 5)
              have HBs := hide (HB2.out.setCell (p := ⟨b, k * 4 + 1, none⟩) hBb (.int .i64 5))
              clear hcl HF2 HB2
              go_upto_region 13 with fail
              generalize w2.setCell ⟨b, k * 4 + 1, none⟩ (.int .i64 5) = w3 at *
              clear t1 e1 j1
              have j0 := (HFs.out.box 0 _ rfl).1
              have j1 := (HFs.out.box 1 _ rfl).1
              obtain ⟨b', cp', hbe, -, hcl⟩ := HFs.out.form (by omega)
              cases hbe
              obtain ⟨t3, e3⟩ := hcl (k * 4 + 3) (by omega)
              have HFF := hide (HFs.out.set (k * 4 + 3) (c + 1))
              have HBF := hide (HBs.out.setCell (p := ⟨b, k * 4 + 3, none⟩) hBb (.int .i64 (c + 1)))
              clear hcl HFs HBs
              go_wp2_with fail
              exact ⟨⟨k + 1, by omega, rfl, by rw [HK2.out]; exact HFF.out, HBF.out⟩, by simp [intOf]; omega⟩
          · have hd' : decide (y2 < c + 1) = false := decide_eq_false hd
            cases OB
            · skip
              have HK2 : Hid (tkL (c + 1) L (k + 1) = tkL (c + 1) L k) := by show _ = _; rw [HK.out, Bool.false_and]; rfl
              clear HK
              go_upto_region 11 with fail
              refine region_up (by kernel_rfl) (by kernel_rfl) ?_
              repeat (go_big_quiet_step ((go_at_call 31; exact calls_up (cO _))))
              refine wpQuiet_nil ?_
              intro _ hw2
              obtain ⟨pq, hw3⟩ := hw2
              subst hw3
              have HF2 := hide (HF.out.below pq.below)
              have HB2 : Hid (Below wA.heap.size wA pq.w) := HB.out.trans (pq.below.mono (Nat.le_trans HF.out.hB (Nat.le_of_lt HF.out.lt)))
              clear u0 u1 u2 u3 u4 u5 SK z0 z1 z2 z3 j0 j1 cO HF HB
              generalize pq.w = w2 at *
              go_wp2_with fail
              exact ⟨⟨k + 1, by omega, rfl, by rw [HK2.out]; exact HF2.out, HB2.out⟩, by simp [intOf]; omega⟩
            · skip
              have HK2 : Hid (tkL (c + 1) L (k + 1) = tkL (c + 1) L k) := by show _ = _; rw [HK.out, decide_eq_false hd]; rfl
              clear HK
              go_upto_region 11 with fail
              refine region_up (by kernel_rfl) (by kernel_rfl) ?_
              repeat (go_big_quiet_step ((go_at_call 31; exact calls_up (cO _))))
              refine wpQuiet_nil ?_
              intro _ hw2
              obtain ⟨pq, hw3⟩ := hw2
              subst hw3
              have HF2 := hide (HF.out.below pq.below)
              have HB2 : Hid (Below wA.heap.size wA pq.w) := HB.out.trans (pq.below.mono (Nat.le_trans HF.out.hB (Nat.le_of_lt HF.out.lt)))
              clear u0 u1 u2 u3 u4 u5 SK z0 z1 z2 z3 j0 j1 cO HF HB
              generalize pq.w = w2 at *
              go_wp2_with fail
              exact ⟨⟨k + 1, by omega, rfl, by rw [HK2.out]; exact HF2.out, HB2.out⟩, by simp [intOf]; omega⟩
        · obtain rfl : k = n := by omega
          clear hlt
          obtain ⟨ad', cp', he, t0, t1, k0, k1, e0, e1, d0, d1, hV⟩ := l16Fin2 HS0.out hsz HF.out HB.out (HKN.out.1.trans HE.out.1) (HKN.out.2.1.trans HE.out.2.1) (HKN.out.2.2.1.trans (congrArg gL HE.out.2.2.1)) (HKN.out.2.2.2.trans HE.out.2.2.2)
          cases he
          have HV := hide hV
          clear hV HKN HS0 HF HB HP0 HN HR HE
          go_wp2_with fail
          exact bodyPost_ret (v := .tuple #[vFlow _ _ _ _, .int .i64 0]) (by simp [results, Try.results20, go_sem, d0, d1]) rfl HV.out
    have hkm : kd = 2 ∨ kd = 3 ∨ kd = 4 := by unfold inB at hkB; simp at hkB; omega
    clear hkB hk1 hk5
    have HPL := hide (plL_is id HR.out)
    have HFD : Hid (fdB (fl g (n * 4)) n id = true → plL (fl g (n * 4)) n id < n) := fun h => (of_decide_eq_true h).1
    rcases hkm with rfl | rfl | rfl
    · have HE : Hid (doK c 2 = c ∧ doN c n (fl g (n * 4)) 2 id du = n ∧ doL c n (fl g (n * 4)) 2 id du = mvL 2 c (fdB (fl g (n * 4)) n id) (plL (fl g (n * 4)) n id) (fl g (n * 4)) ∧ doC c n (fl g (n * 4)) 2 id du = mvC 2 (fdB (fl g (n * 4)) n id) (gL (fl g (n * 4)) (plL (fl g (n * 4)) n id * 4 + 1))) := by
        refine ⟨rfl, rfl, ?_, ?_⟩
        · unfold doL; rw [if_neg (by decide), if_neg (by decide), if_pos (by decide)]
        · unfold doC; rw [if_neg (by decide), if_neg (by decide), if_pos (by decide)]
      go_upto_region 2 with fail
      go_quiet ((go_at_call 29; exact Calls.quiet_of_same (cK _)))
      replace HF := hide (HF.out.below (below_drewN (Below.refl _ _) nq))
      replace HB := hide (below_drewN HB.out nq)
      clear i0 i1 j0 j1 j2
      generalize wc.drewN nq = wd at *
      have HSd := hide (HS0.out.next HB.out)
      obtain ⟨i0, i1⟩ := HSd.out.im2 2 rfl
      obtain ⟨j0, j1, j2⟩ := HSd.out.im3 1 rfl
      clear HSd
      clear cK j2
      have cF := l16Find_any c a n cap g id (by omega) wd (HP0.out.below HB.out)
      rw [fd_eq id HR.out] at cF
      go_wp2_with fail
      refine cF.mono ?_
      rintro e we ⟨rfl, hb⟩
      replace HF := hide (HF.out.below hb)
      replace HB := hide (bnext HB.out (Nat.le_refl _) hb)
      clear cF hb i0 i1 j0 j1
      have HSe := hide (HS0.out.next HB.out)
      obtain ⟨i0, i1⟩ := HSe.out.im2 2 rfl
      obtain ⟨j0, j1, j2⟩ := HSe.out.im3 1 rfl
      have HPe := hide (HP0.out.below HB.out)
      clear HSe j1 j2
      generalize plL (fl g (n * 4)) n id = p at *
      cases hf : fdB (fl g (n * 4)) n id
      case false =>
        rw [if_neg (by decide)]
        rw [hf] at HE
        replace HE : Hid (doK c 2 = c ∧ doN c n (fl g (n * 4)) 2 id du = n ∧ doL c n (fl g (n * 4)) 2 id du = fl g (n * 4) ∧ doC c n (fl g (n * 4)) 2 id du = 5) := HE.out
        clear HPe HPL hf HFD
        obtain ⟨ad', cp', he, t0, t1, k0, k1, e0, e1, d0, d1, hV⟩ := l16Fin2 HS0.out hsz HF.out HB.out (HKN.out.1.trans HE.out.1) (HKN.out.2.1.trans HE.out.2.1) (HKN.out.2.2.1.trans (congrArg gL HE.out.2.2.1)) (HKN.out.2.2.2.trans HE.out.2.2.2)
        cases he
        have HV := hide hV
        clear hV HKN HS0 HF HB HP0 HN HR HE i0 i1
        go_wp2_with fail
        exact bodyPost_ret (v := .tuple #[vFlow _ _ _ _, .int .i64 5]) (by simp [results, Try.results20, go_sem, d0, d1]) rfl HV.out
      rw [if_pos rfl]
      rw [hf] at HE
      have hpn : p < n := HFD.out hf
      clear hf HPL HFD
      have hg1 : gL (fl g (n * 4)) (p * 4 + 1) = g (p * 4 + 1) := gL_fl _ _ _ (by omega)
      have HMV : Hid (mvL 2 c true p (fl g (n * 4)) = if mvC 2 true (g (p * 4 + 1)) = 0 then ((fl g (n * 4)).set (p * 4 + 1) 2).set (p * 4 + 3) (gL (fl g (n * 4)) (p * 4 + 3)) else fl g (n * 4)) := by
        show _ = _; unfold mvL; rw [hg1]; rfl
      rw [hg1] at HE
      clear hg1
      obtain ⟨b0, off, rfl, -, z0, z1, z2, z3⟩ := HPe.out.atOrder hpn
      have cO := l16Open_any (g (p * 4)) (g (p * 4 + 1)) (g (p * 4 + 2)) (g (p * 4 + 3))
      clear HPe HP0 HN HR
      generalize fl g (n * 4) = L at *
      generalize g (p * 4) = y0 at *
      generalize g (p * 4 + 1) = y1 at *
      generalize g (p * 4 + 2) = y2 at *
      generalize g (p * 4 + 3) = y3 at *
      obtain ⟨wf, hwf⟩ : ∃ wf, wf = we.alloc (cOrder y0 y1 y2 y3 41) := ⟨_, rfl⟩
      have hbf : Below we.heap.size we wf := by rw [hwf]; exact bnew _ _
      have HBX : Hid (Bx we.heap.size [.int .i64 y0, .int .i64 y1, .int .i64 y2, .int .i64 y3] wf) := by rw [hwf]; exact Bx.new [.int .i64 y0, .int .i64 y1, .int .i64 y2, .int .i64 y3] 41 we
      have hfs : we.heap.size < wf.heap.size := by rw [hwf]; simp
      have hwf' := hwf.symm
      replace HF := hide (HF.out.below hbf)
      replace HB := hide (bnext HB.out (Nat.le_refl _) hbf)
      have q0 := (HBX.out 0 _ rfl).1
      have q1 := (HBX.out 1 _ rfl).1
      have q2 := (HBX.out 2 _ rfl).1
      have q3 := (HBX.out 3 _ rfl).1
      clear hwf hbf
      go_wp2_with fail
      refine (cO _).mono ?_
      rintro e w2 ⟨rfl, hb2⟩
      replace HBX := hide (HBX.out.below hb2 hfs)
      replace HF := hide (HF.out.below hb2)
      replace HB := hide (bnext HB.out (Nat.le_refl _) hb2)
      clear cO hb2 hwf' hfs z0 z1 z2 z3 q0 q1 q2 q3 i0 i1 j0
      generalize we.heap.size = X at *
      have HS2 := hide (HS0.out.next HB.out)
      obtain ⟨i0, i1⟩ := HS2.out.im2 2 rfl
      obtain ⟨j0, j1, j2⟩ := HS2.out.im3 1 rfl
      clear HS2 j1 j2 i1
      have q1 := (HBX.out 1 _ rfl).1
      cases hop : opB y1
      case false =>
        replace HE : Hid (doK c 2 = c ∧ doN c n L 2 id du = n ∧ doL c n L 2 id du = L ∧ doC c n L 2 id du = 6) := by
          have h6 : mvC 2 true y1 = 6 := by unfold mvC; rw [hop]; rfl
          refine ⟨HE.out.1, HE.out.2.1, ?_, HE.out.2.2.2.trans h6⟩
          rw [HE.out.2.2.1, HMV.out, h6]; rfl
        clear HMV hop HBX
        obtain ⟨ad', cp', he, t0, t1, k0, k1, e0, e1, d0, d1, hV⟩ := l16Fin2 HS0.out hsz HF.out HB.out (HKN.out.1.trans HE.out.1) (HKN.out.2.1.trans HE.out.2.1) (HKN.out.2.2.1.trans (congrArg gL HE.out.2.2.1)) (HKN.out.2.2.2.trans HE.out.2.2.2)
        cases he
        have HV := hide hV
        clear hV HKN HS0 HF HB  HE i0 j0 q1
        go_wp2_with fail
        exact bodyPost_ret (v := .tuple #[vFlow _ _ _ _, .int .i64 6]) (by simp [results, Try.results20, go_sem, d0, d1]) rfl HV.out
      have hy1 : y1 = 1 ∨ y1 = 2 := by unfold opB at hop; simpa using hop
      clear hop HBX
      rcases hy1 with rfl | rfl
      · skip
        replace HE : Hid (doK c 2 = c ∧ doN c n L 2 id du = n ∧ doL c n L 2 id du = L.set (p * 4 + 1) 2 ∧ doC c n L 2 id du = 0) :=
          ⟨HE.out.1, HE.out.2.1, HE.out.2.2.1.trans (HMV.out.trans (mv2 L p)), HE.out.2.2.2⟩
        clear HMV
        obtain ⟨b, cp, rfl, hBb, hcl⟩ := HF.out.form (by omega)
        have j1 := (HF.out.box 1 _ rfl).1
        obtain ⟨t1, e1⟩ := hcl (p * 4 + 1) (by omega)
        replace HF := hide (HF.out.set (p * 4 + 1) 2)
        replace HB := hide (HB.out.setCell (p := ⟨b, p * 4 + 1, none⟩) hBb (.int .i64 2))
        clear hcl
        go_upto_region 50 with fail
        generalize w2.setCell ⟨b, p * 4 + 1, none⟩ (.int .i64 2) = w3 at *
        clear t1 e1 j1 i0 j0 q1
        obtain ⟨ad', cp', he, t0, t1, k0, k1, e0, e1, d0, d1, hV⟩ := l16Fin2 HS0.out hsz HF.out HB.out (HKN.out.1.trans HE.out.1) (HKN.out.2.1.trans HE.out.2.1) (HKN.out.2.2.1.trans (congrArg gL HE.out.2.2.1)) (HKN.out.2.2.2.trans HE.out.2.2.2)
        cases he
        have HV := hide hV
        clear hV HKN HS0 HF HB  HE
        go_wp2_with fail
        exact bodyPost_ret (v := .tuple #[vFlow _ _ _ _, .int .i64 0]) (by simp [results, Try.results20, go_sem, d0, d1]) rfl HV.out
      · skip
        replace HE : Hid (doK c 2 = c ∧ doN c n L 2 id du = n ∧ doL c n L 2 id du = L ∧ doC c n L 2 id du = 7) :=
          ⟨HE.out.1, HE.out.2.1, HE.out.2.2.1.trans HMV.out, HE.out.2.2.2⟩
        clear HMV
        obtain ⟨ad', cp', he, t0, t1, k0, k1, e0, e1, d0, d1, hV⟩ := l16Fin2 HS0.out hsz HF.out HB.out (HKN.out.1.trans HE.out.1) (HKN.out.2.1.trans HE.out.2.1) (HKN.out.2.2.1.trans (congrArg gL HE.out.2.2.1)) (HKN.out.2.2.2.trans HE.out.2.2.2)
        cases he
        have HV := hide hV
        clear hV HKN HS0 HF HB  HE i0
        go_wp2_with fail
        exact bodyPost_ret (v := .tuple #[vFlow _ _ _ _, .int .i64 7]) (by simp [results, Try.results20, go_sem, d0, d1]) rfl HV.out
    · have HE : Hid (doK c 3 = c ∧ doN c n (fl g (n * 4)) 3 id du = n ∧ doL c n (fl g (n * 4)) 3 id du = mvL 3 c (fdB (fl g (n * 4)) n id) (plL (fl g (n * 4)) n id) (fl g (n * 4)) ∧ doC c n (fl g (n * 4)) 3 id du = mvC 3 (fdB (fl g (n * 4)) n id) (gL (fl g (n * 4)) (plL (fl g (n * 4)) n id * 4 + 1))) := by
        refine ⟨rfl, rfl, ?_, ?_⟩
        · unfold doL; rw [if_neg (by decide), if_neg (by decide), if_pos (by decide)]
        · unfold doC; rw [if_neg (by decide), if_neg (by decide), if_pos (by decide)]
      go_upto_region 2 with fail
      go_quiet ((go_at_call 29; exact Calls.quiet_of_same (cK _)))
      replace HF := hide (HF.out.below (below_drewN (Below.refl _ _) nq))
      replace HB := hide (below_drewN HB.out nq)
      clear i0 i1 j0 j1 j2
      generalize wc.drewN nq = wd at *
      have HSd := hide (HS0.out.next HB.out)
      obtain ⟨i0, i1⟩ := HSd.out.im2 2 rfl
      obtain ⟨j0, j1, j2⟩ := HSd.out.im3 1 rfl
      clear HSd
      clear cK j2
      have cF := l16Find_any c a n cap g id (by omega) wd (HP0.out.below HB.out)
      rw [fd_eq id HR.out] at cF
      go_wp2_with fail
      refine cF.mono ?_
      rintro e we ⟨rfl, hb⟩
      replace HF := hide (HF.out.below hb)
      replace HB := hide (bnext HB.out (Nat.le_refl _) hb)
      clear cF hb i0 i1 j0 j1
      have HSe := hide (HS0.out.next HB.out)
      obtain ⟨i0, i1⟩ := HSe.out.im2 2 rfl
      obtain ⟨j0, j1, j2⟩ := HSe.out.im3 1 rfl
      have HPe := hide (HP0.out.below HB.out)
      clear HSe j1 j2
      generalize plL (fl g (n * 4)) n id = p at *
      cases hf : fdB (fl g (n * 4)) n id
      case false =>
        rw [if_neg (by decide)]
        rw [hf] at HE
        replace HE : Hid (doK c 3 = c ∧ doN c n (fl g (n * 4)) 3 id du = n ∧ doL c n (fl g (n * 4)) 3 id du = fl g (n * 4) ∧ doC c n (fl g (n * 4)) 3 id du = 5) := HE.out
        clear HPe HPL hf HFD
        obtain ⟨ad', cp', he, t0, t1, k0, k1, e0, e1, d0, d1, hV⟩ := l16Fin2 HS0.out hsz HF.out HB.out (HKN.out.1.trans HE.out.1) (HKN.out.2.1.trans HE.out.2.1) (HKN.out.2.2.1.trans (congrArg gL HE.out.2.2.1)) (HKN.out.2.2.2.trans HE.out.2.2.2)
        cases he
        have HV := hide hV
        clear hV HKN HS0 HF HB HP0 HN HR HE i0 i1
        go_wp2_with fail
        exact bodyPost_ret (v := .tuple #[vFlow _ _ _ _, .int .i64 5]) (by simp [results, Try.results20, go_sem, d0, d1]) rfl HV.out
      rw [if_pos rfl]
      rw [hf] at HE
      have hpn : p < n := HFD.out hf
      clear hf HPL HFD
      have hg1 : gL (fl g (n * 4)) (p * 4 + 1) = g (p * 4 + 1) := gL_fl _ _ _ (by omega)
      have HMV : Hid (mvL 3 c true p (fl g (n * 4)) = if mvC 3 true (g (p * 4 + 1)) = 0 then ((fl g (n * 4)).set (p * 4 + 1) 3).set (p * 4 + 3) c else fl g (n * 4)) := by
        show _ = _; unfold mvL; rw [hg1]; rfl
      rw [hg1] at HE
      clear hg1
      obtain ⟨b0, off, rfl, -, z0, z1, z2, z3⟩ := HPe.out.atOrder hpn
      have cO := l16Open_any (g (p * 4)) (g (p * 4 + 1)) (g (p * 4 + 2)) (g (p * 4 + 3))
      clear HPe HP0 HN HR
      generalize fl g (n * 4) = L at *
      generalize g (p * 4) = y0 at *
      generalize g (p * 4 + 1) = y1 at *
      generalize g (p * 4 + 2) = y2 at *
      generalize g (p * 4 + 3) = y3 at *
      obtain ⟨wf, hwf⟩ : ∃ wf, wf = we.alloc (cOrder y0 y1 y2 y3 41) := ⟨_, rfl⟩
      have hbf : Below we.heap.size we wf := by rw [hwf]; exact bnew _ _
      have HBX : Hid (Bx we.heap.size [.int .i64 y0, .int .i64 y1, .int .i64 y2, .int .i64 y3] wf) := by rw [hwf]; exact Bx.new [.int .i64 y0, .int .i64 y1, .int .i64 y2, .int .i64 y3] 41 we
      have hfs : we.heap.size < wf.heap.size := by rw [hwf]; simp
      have hwf' := hwf.symm
      replace HF := hide (HF.out.below hbf)
      replace HB := hide (bnext HB.out (Nat.le_refl _) hbf)
      have q0 := (HBX.out 0 _ rfl).1
      have q1 := (HBX.out 1 _ rfl).1
      have q2 := (HBX.out 2 _ rfl).1
      have q3 := (HBX.out 3 _ rfl).1
      clear hwf hbf
      go_wp2_with fail
      refine (cO _).mono ?_
      rintro e w2 ⟨rfl, hb2⟩
      replace HBX := hide (HBX.out.below hb2 hfs)
      replace HF := hide (HF.out.below hb2)
      replace HB := hide (bnext HB.out (Nat.le_refl _) hb2)
      clear cO hb2 hwf' hfs z0 z1 z2 z3 q0 q1 q2 q3 i0 i1 j0
      generalize we.heap.size = X at *
      have HS2 := hide (HS0.out.next HB.out)
      obtain ⟨i0, i1⟩ := HS2.out.im2 2 rfl
      obtain ⟨j0, j1, j2⟩ := HS2.out.im3 1 rfl
      clear HS2 j1 j2 i1
      have q1 := (HBX.out 1 _ rfl).1
      cases hop : opB y1
      case false =>
        replace HE : Hid (doK c 3 = c ∧ doN c n L 3 id du = n ∧ doL c n L 3 id du = L ∧ doC c n L 3 id du = 6) := by
          have h6 : mvC 3 true y1 = 6 := by unfold mvC; rw [hop]; rfl
          refine ⟨HE.out.1, HE.out.2.1, ?_, HE.out.2.2.2.trans h6⟩
          rw [HE.out.2.2.1, HMV.out, h6]; rfl
        clear HMV hop HBX
        obtain ⟨ad', cp', he, t0, t1, k0, k1, e0, e1, d0, d1, hV⟩ := l16Fin2 HS0.out hsz HF.out HB.out (HKN.out.1.trans HE.out.1) (HKN.out.2.1.trans HE.out.2.1) (HKN.out.2.2.1.trans (congrArg gL HE.out.2.2.1)) (HKN.out.2.2.2.trans HE.out.2.2.2)
        cases he
        have HV := hide hV
        clear hV HKN HS0 HF HB  HE i0 j0 q1
        go_wp2_with fail
        exact bodyPost_ret (v := .tuple #[vFlow _ _ _ _, .int .i64 6]) (by simp [results, Try.results20, go_sem, d0, d1]) rfl HV.out
      have hy1 : y1 = 1 ∨ y1 = 2 := by unfold opB at hop; simpa using hop
      clear hop HBX
      rcases hy1 with rfl | rfl
      · skip
        replace HE : Hid (doK c 3 = c ∧ doN c n L 3 id du = n ∧ doL c n L 3 id du = L ∧ doC c n L 3 id du = 7) :=
          ⟨HE.out.1, HE.out.2.1, HE.out.2.2.1.trans HMV.out, HE.out.2.2.2⟩
        clear HMV
        obtain ⟨ad', cp', he, t0, t1, k0, k1, e0, e1, d0, d1, hV⟩ := l16Fin2 HS0.out hsz HF.out HB.out (HKN.out.1.trans HE.out.1) (HKN.out.2.1.trans HE.out.2.1) (HKN.out.2.2.1.trans (congrArg gL HE.out.2.2.1)) (HKN.out.2.2.2.trans HE.out.2.2.2)
        cases he
        have HV := hide hV
        clear hV HKN HS0 HF HB  HE i0
        go_wp2_with fail
        exact bodyPost_ret (v := .tuple #[vFlow _ _ _ _, .int .i64 7]) (by simp [results, Try.results20, go_sem, d0, d1]) rfl HV.out
      · skip
        replace HE : Hid (doK c 3 = c ∧ doN c n L 3 id du = n ∧ doL c n L 3 id du = (L.set (p * 4 + 1) 3).set (p * 4 + 3) c ∧ doC c n L 3 id du = 0) :=
          ⟨HE.out.1, HE.out.2.1, HE.out.2.2.1.trans HMV.out, HE.out.2.2.2⟩
        clear HMV
        obtain ⟨b, cp, rfl, hBb, hcl⟩ := HF.out.form (by omega)
        have j1 := (HF.out.box 1 _ rfl).1
        obtain ⟨t1, e1⟩ := hcl (p * 4 + 1) (by omega)
        replace HF := hide (HF.out.set (p * 4 + 1) 3)
        replace HB := hide (HB.out.setCell (p := ⟨b, p * 4 + 1, none⟩) hBb (.int .i64 3))
        clear hcl
        go_upto_region 49 with fail
        generalize w2.setCell ⟨b, p * 4 + 1, none⟩ (.int .i64 3) = w3 at *
        clear t1 e1 j1 i0 j0 q1
        have j1 := (HF.out.box 1 _ rfl).1
        obtain ⟨b', cp', hbe, -, hcl⟩ := HF.out.form (by omega)
        cases hbe
        obtain ⟨t3, e3⟩ := hcl (p * 4 + 3) (by omega)
        have HS3 := hide (HS0.out.next HB.out)
        obtain ⟨i0, -⟩ := HS3.out.im2 2 rfl
        replace HF := hide (HF.out.set (p * 4 + 3) c)
        replace HB := hide (HB.out.setCell (p := ⟨b, p * 4 + 3, none⟩) hBb (.int .i64 c))
        clear hcl HS3
        go_upto_region 50 with fail
        generalize w3.setCell ⟨b, p * 4 + 3, none⟩ (.int .i64 c) = w4 at *
        clear t3 e3 j1 i0
        obtain ⟨ad', cp', he, t0, t1, k0, k1, e0, e1, d0, d1, hV⟩ := l16Fin2 HS0.out hsz HF.out HB.out (HKN.out.1.trans HE.out.1) (HKN.out.2.1.trans HE.out.2.1) (HKN.out.2.2.1.trans (congrArg gL HE.out.2.2.1)) (HKN.out.2.2.2.trans HE.out.2.2.2)
        cases he
        have HV := hide hV
        clear hV HKN HS0 HF HB  HE
        go_wp2_with fail
        exact bodyPost_ret (v := .tuple #[vFlow _ _ _ _, .int .i64 0]) (by simp [results, Try.results20, go_sem, d0, d1]) rfl HV.out
    · have HE : Hid (doK c 4 = c ∧ doN c n (fl g (n * 4)) 4 id du = n ∧ doL c n (fl g (n * 4)) 4 id du = mvL 4 c (fdB (fl g (n * 4)) n id) (plL (fl g (n * 4)) n id) (fl g (n * 4)) ∧ doC c n (fl g (n * 4)) 4 id du = mvC 4 (fdB (fl g (n * 4)) n id) (gL (fl g (n * 4)) (plL (fl g (n * 4)) n id * 4 + 1))) := by
        refine ⟨rfl, rfl, ?_, ?_⟩
        · unfold doL; rw [if_neg (by decide), if_neg (by decide), if_pos (by decide)]
        · unfold doC; rw [if_neg (by decide), if_neg (by decide), if_pos (by decide)]
      go_upto_region 2 with fail
      go_quiet ((go_at_call 29; exact Calls.quiet_of_same (cK _)))
      replace HF := hide (HF.out.below (below_drewN (Below.refl _ _) nq))
      replace HB := hide (below_drewN HB.out nq)
      clear i0 i1 j0 j1 j2
      generalize wc.drewN nq = wd at *
      have HSd := hide (HS0.out.next HB.out)
      obtain ⟨i0, i1⟩ := HSd.out.im2 2 rfl
      obtain ⟨j0, j1, j2⟩ := HSd.out.im3 1 rfl
      clear HSd
      clear cK j2
      have cF := l16Find_any c a n cap g id (by omega) wd (HP0.out.below HB.out)
      rw [fd_eq id HR.out] at cF
      go_wp2_with fail
      refine cF.mono ?_
      rintro e we ⟨rfl, hb⟩
      replace HF := hide (HF.out.below hb)
      replace HB := hide (bnext HB.out (Nat.le_refl _) hb)
      clear cF hb i0 i1 j0 j1
      have HSe := hide (HS0.out.next HB.out)
      obtain ⟨i0, i1⟩ := HSe.out.im2 2 rfl
      obtain ⟨j0, j1, j2⟩ := HSe.out.im3 1 rfl
      have HPe := hide (HP0.out.below HB.out)
      clear HSe j1 j2
      generalize plL (fl g (n * 4)) n id = p at *
      cases hf : fdB (fl g (n * 4)) n id
      case false =>
        rw [if_neg (by decide)]
        rw [hf] at HE
        replace HE : Hid (doK c 4 = c ∧ doN c n (fl g (n * 4)) 4 id du = n ∧ doL c n (fl g (n * 4)) 4 id du = fl g (n * 4) ∧ doC c n (fl g (n * 4)) 4 id du = 5) := HE.out
        clear HPe HPL hf HFD
        obtain ⟨ad', cp', he, t0, t1, k0, k1, e0, e1, d0, d1, hV⟩ := l16Fin2 HS0.out hsz HF.out HB.out (HKN.out.1.trans HE.out.1) (HKN.out.2.1.trans HE.out.2.1) (HKN.out.2.2.1.trans (congrArg gL HE.out.2.2.1)) (HKN.out.2.2.2.trans HE.out.2.2.2)
        cases he
        have HV := hide hV
        clear hV HKN HS0 HF HB HP0 HN HR HE i0 i1
        go_wp2_with fail
        exact bodyPost_ret (v := .tuple #[vFlow _ _ _ _, .int .i64 5]) (by simp [results, Try.results20, go_sem, d0, d1]) rfl HV.out
      rw [if_pos rfl]
      rw [hf] at HE
      have hpn : p < n := HFD.out hf
      clear hf HPL HFD
      have hg1 : gL (fl g (n * 4)) (p * 4 + 1) = g (p * 4 + 1) := gL_fl _ _ _ (by omega)
      have HMV : Hid (mvL 4 c true p (fl g (n * 4)) = if mvC 4 true (g (p * 4 + 1)) = 0 then ((fl g (n * 4)).set (p * 4 + 1) 4).set (p * 4 + 3) c else fl g (n * 4)) := by
        show _ = _; unfold mvL; rw [hg1]; rfl
      rw [hg1] at HE
      clear hg1
      obtain ⟨b0, off, rfl, -, z0, z1, z2, z3⟩ := HPe.out.atOrder hpn
      have cO := l16Open_any (g (p * 4)) (g (p * 4 + 1)) (g (p * 4 + 2)) (g (p * 4 + 3))
      clear HPe HP0 HN HR
      generalize fl g (n * 4) = L at *
      generalize g (p * 4) = y0 at *
      generalize g (p * 4 + 1) = y1 at *
      generalize g (p * 4 + 2) = y2 at *
      generalize g (p * 4 + 3) = y3 at *
      obtain ⟨wf, hwf⟩ : ∃ wf, wf = we.alloc (cOrder y0 y1 y2 y3 41) := ⟨_, rfl⟩
      have hbf : Below we.heap.size we wf := by rw [hwf]; exact bnew _ _
      have HBX : Hid (Bx we.heap.size [.int .i64 y0, .int .i64 y1, .int .i64 y2, .int .i64 y3] wf) := by rw [hwf]; exact Bx.new [.int .i64 y0, .int .i64 y1, .int .i64 y2, .int .i64 y3] 41 we
      have hfs : we.heap.size < wf.heap.size := by rw [hwf]; simp
      have hwf' := hwf.symm
      replace HF := hide (HF.out.below hbf)
      replace HB := hide (bnext HB.out (Nat.le_refl _) hbf)
      have q0 := (HBX.out 0 _ rfl).1
      have q1 := (HBX.out 1 _ rfl).1
      have q2 := (HBX.out 2 _ rfl).1
      have q3 := (HBX.out 3 _ rfl).1
      clear hwf hbf
      go_wp2_with fail
      refine (cO _).mono ?_
      rintro e w2 ⟨rfl, hb2⟩
      replace HBX := hide (HBX.out.below hb2 hfs)
      replace HF := hide (HF.out.below hb2)
      replace HB := hide (bnext HB.out (Nat.le_refl _) hb2)
      clear cO hb2 hwf' hfs z0 z1 z2 z3 q0 q1 q2 q3 i0 i1 j0
      generalize we.heap.size = X at *
      have HS2 := hide (HS0.out.next HB.out)
      obtain ⟨i0, i1⟩ := HS2.out.im2 2 rfl
      obtain ⟨j0, j1, j2⟩ := HS2.out.im3 1 rfl
      clear HS2 j1 j2 i1
      have q1 := (HBX.out 1 _ rfl).1
      cases hop : opB y1
      case false =>
        replace HE : Hid (doK c 4 = c ∧ doN c n L 4 id du = n ∧ doL c n L 4 id du = L ∧ doC c n L 4 id du = 6) := by
          have h6 : mvC 4 true y1 = 6 := by unfold mvC; rw [hop]; rfl
          refine ⟨HE.out.1, HE.out.2.1, ?_, HE.out.2.2.2.trans h6⟩
          rw [HE.out.2.2.1, HMV.out, h6]; rfl
        clear HMV hop HBX
        obtain ⟨ad', cp', he, t0, t1, k0, k1, e0, e1, d0, d1, hV⟩ := l16Fin2 HS0.out hsz HF.out HB.out (HKN.out.1.trans HE.out.1) (HKN.out.2.1.trans HE.out.2.1) (HKN.out.2.2.1.trans (congrArg gL HE.out.2.2.1)) (HKN.out.2.2.2.trans HE.out.2.2.2)
        cases he
        have HV := hide hV
        clear hV HKN HS0 HF HB  HE i0 j0 q1
        go_wp2_with fail
        exact bodyPost_ret (v := .tuple #[vFlow _ _ _ _, .int .i64 6]) (by simp [results, Try.results20, go_sem, d0, d1]) rfl HV.out
      have hy1 : y1 = 1 ∨ y1 = 2 := by unfold opB at hop; simpa using hop
      clear hop HBX
      rcases hy1 with rfl | rfl
      · skip
        replace HE : Hid (doK c 4 = c ∧ doN c n L 4 id du = n ∧ doL c n L 4 id du = (L.set (p * 4 + 1) 4).set (p * 4 + 3) c ∧ doC c n L 4 id du = 0) :=
          ⟨HE.out.1, HE.out.2.1, HE.out.2.2.1.trans HMV.out, HE.out.2.2.2⟩
        clear HMV
        obtain ⟨b, cp, rfl, hBb, hcl⟩ := HF.out.form (by omega)
        have j1 := (HF.out.box 1 _ rfl).1
        obtain ⟨t1, e1⟩ := hcl (p * 4 + 1) (by omega)
        replace HF := hide (HF.out.set (p * 4 + 1) 4)
        replace HB := hide (HB.out.setCell (p := ⟨b, p * 4 + 1, none⟩) hBb (.int .i64 4))
        clear hcl
        go_upto_region 40 with fail
        generalize w2.setCell ⟨b, p * 4 + 1, none⟩ (.int .i64 4) = w3 at *
        clear t1 e1 j1 i0 j0 q1
        have j1 := (HF.out.box 1 _ rfl).1
        obtain ⟨b', cp', hbe, -, hcl⟩ := HF.out.form (by omega)
        cases hbe
        obtain ⟨t3, e3⟩ := hcl (p * 4 + 3) (by omega)
        have HS3 := hide (HS0.out.next HB.out)
        obtain ⟨i0, -⟩ := HS3.out.im2 2 rfl
        replace HF := hide (HF.out.set (p * 4 + 3) c)
        replace HB := hide (HB.out.setCell (p := ⟨b, p * 4 + 3, none⟩) hBb (.int .i64 c))
        clear hcl HS3
        go_upto_region 50 with fail
        generalize w3.setCell ⟨b, p * 4 + 3, none⟩ (.int .i64 c) = w4 at *
        clear t3 e3 j1 i0
        obtain ⟨ad', cp', he, t0, t1, k0, k1, e0, e1, d0, d1, hV⟩ := l16Fin2 HS0.out hsz HF.out HB.out (HKN.out.1.trans HE.out.1) (HKN.out.2.1.trans HE.out.2.1) (HKN.out.2.2.1.trans (congrArg gL HE.out.2.2.1)) (HKN.out.2.2.2.trans HE.out.2.2.2)
        cases he
        have HV := hide hV
        clear hV HKN HS0 HF HB  HE
        go_wp2_with fail
        exact bodyPost_ret (v := .tuple #[vFlow _ _ _ _, .int .i64 0]) (by simp [results, Try.results20, go_sem, d0, d1]) rfl HV.out
      · skip
        replace HE : Hid (doK c 4 = c ∧ doN c n L 4 id du = n ∧ doL c n L 4 id du = (L.set (p * 4 + 1) 4).set (p * 4 + 3) c ∧ doC c n L 4 id du = 0) :=
          ⟨HE.out.1, HE.out.2.1, HE.out.2.2.1.trans HMV.out, HE.out.2.2.2⟩
        clear HMV
        obtain ⟨b, cp, rfl, hBb, hcl⟩ := HF.out.form (by omega)
        have j1 := (HF.out.box 1 _ rfl).1
        obtain ⟨t1, e1⟩ := hcl (p * 4 + 1) (by omega)
        replace HF := hide (HF.out.set (p * 4 + 1) 4)
        replace HB := hide (HB.out.setCell (p := ⟨b, p * 4 + 1, none⟩) hBb (.int .i64 4))
        clear hcl
        go_upto_region 40 with fail
        generalize w2.setCell ⟨b, p * 4 + 1, none⟩ (.int .i64 4) = w3 at *
        clear t1 e1 j1 i0 j0 q1
        have j1 := (HF.out.box 1 _ rfl).1
        obtain ⟨b', cp', hbe, -, hcl⟩ := HF.out.form (by omega)
        cases hbe
        obtain ⟨t3, e3⟩ := hcl (p * 4 + 3) (by omega)
        have HS3 := hide (HS0.out.next HB.out)
        obtain ⟨i0, -⟩ := HS3.out.im2 2 rfl
        replace HF := hide (HF.out.set (p * 4 + 3) c)
        replace HB := hide (HB.out.setCell (p := ⟨b, p * 4 + 3, none⟩) hBb (.int .i64 c))
        clear hcl HS3
        go_upto_region 50 with fail
        generalize w3.setCell ⟨b, p * 4 + 3, none⟩ (.int .i64 c) = w4 at *
        clear t3 e3 j1 i0
        obtain ⟨ad', cp', he, t0, t1, k0, k1, e0, e1, d0, d1, hV⟩ := l16Fin2 HS0.out hsz HF.out HB.out (HKN.out.1.trans HE.out.1) (HKN.out.2.1.trans HE.out.2.1) (HKN.out.2.2.1.trans (congrArg gL HE.out.2.2.1)) (HKN.out.2.2.2.trans HE.out.2.2.2)
        cases he
        have HV := hide hV
        clear hV HKN HS0 HF HB  HE
        go_wp2_with fail
        exact bodyPost_ret (v := .tuple #[vFlow _ _ _ _, .int .i64 0]) (by simp [results, Try.results20, go_sem, d0, d1]) rfl HV.out

end Go.Proofs.Ytfhfddmiiopgdaa

/- Flows: when a flow is right: the specification's way. -/
import Derived.Test.YtefgpdfbgkhncaaWfo
namespace Go.Proofs.Ytefgpdfbgkhncaa
open Go.RowKit

theorem orB_id {c i s d e : Int} (h : inB i 0 1000000 = false) : orB c i s d e = false := by unfold orB; rw [h]; rfl
theorem orB_due {c i s d e : Int} (h : inB d 1 1000000000 = false) : orB c i s d e = false := by unfold orB; rw [h]; simp
theorem orB_st {c i s d e : Int} (h : inB i 0 1000000 = true) (h2 : inB d 1 1000000000 = true) : orB c i s d e = stB c s d e := by unfold orB; rw [h, h2]; rfl
theorem flAt_f {c : Int} {g : Nat → Int} {k : Nat} (h : orB c (g (k * 4)) (g (k * 4 + 1)) (g (k * 4 + 2)) (g (k * 4 + 3)) = false) : flAt c g k = false := by unfold flAt; rw [h]; simp

set_option maxRecDepth 100000 in
theorem l1Min_any (x y : Int) (w : World) : Calls Try.prog 27 #[.int .i64 x, .int .i64 y] w fun e w' => e = .returned (.int .i64 (min x y)) ∧ w' = w := by
  by_cases h : x < y
  · have hm : min x y = x := by omega
    rw [hm]
    go_enter Try.func27, Try.ntmps27
    go_wp2
    go_ret
    exact ⟨rfl, rfl⟩
  · have hm : min x y = y := by omega
    rw [hm]
    go_enter Try.func27, Try.ntmps27
    go_wp2
    go_ret
    exact ⟨rfl, rfl⟩

set_option maxRecDepth 100000 in
set_option maxHeartbeats 4000000 in
theorem specFlowOk_any (x : Int) (a : Option Addr) (n cap : Nat) (g : Nat → Int) (hl : n ≤ 1048576) (w : World) (h : Px a (n * 4) g w) :
    Calls Try.prog 7 #[vFlow x a n cap] w fun e w' => e = .returned (.bool (flB x g n)) ∧ Below w.heap.size w w' := by
  obtain ⟨W, hW⟩ : ∃ W, W = w.alloc (.cells #[.int .i64 x, .slice a n cap] 29) := ⟨_, rfl⟩
  have hWB : Below w.heap.size w W := by rw [hW]; exact bnew _ _
  have hWs : w.heap.size < W.heap.size := by rw [hW]; simp
  have i0 : W.cell? ⟨w.heap.size, 0, none⟩ = some (.int .i64 x) := by rw [hW]; simp [go_sem]
  have i1 : W.cell? ⟨w.heap.size, 1, none⟩ = some (.slice a n cap) := by rw [hW]; simp [go_sem]
  have HI : Hid (∀ wz, Below W.heap.size W wz → wz.cell? ⟨w.heap.size, 0, none⟩ = some (.int .i64 x) ∧ wz.cell? ⟨w.heap.size, 1, none⟩ = some (.slice a n cap)) := fun wz hb => ⟨(hb.cell (p := ⟨w.heap.size, 0, none⟩) hWs).trans i0, (hb.cell (p := ⟨w.heap.size, 1, none⟩) hWs).trans i1⟩
  have hW' := hW.symm
  have HWB := hide hWB
  have HP := hide (h.below hWB)
  have c0 := l1In_any x 0 1000000000
  clear h hW hWB hWs
  cases hc : inB x 0 1000000000
  · rw [hc] at c0
    have HV := hide (flB_clock (g := g) (n := n) hc)
    clear hc HP HI
    go_enter Try.func7, Try.ntmps7
    go_wp2_with fail
    refine (c0 _).mono ?_
    rintro r w1 ⟨rfl, rfl⟩
    go_wp2_with fail
    go_ret
    exact ⟨by rw [HV.out]; rfl, HWB.out⟩
  rw [hc] at c0
  by_cases hn : n ≤ 500
  · have hn2 : ¬ (500 : Int) < n := by omega
    have HC := hide hc
    clear hc
    go_enter Try.func7, Try.ntmps7
    go_wp2_with fail
    refine (c0 _).mono ?_
    rintro r w1 ⟨rfl, rfl⟩
    clear c0
    go_wp2_with fail
    clear hW' i0 i1
    go_loopw [3] (fun i wr => ∃ k : Nat, k ≤ n ∧ i = .int .i64 k ∧ (∀ j, j < k → flAt x g j = true) ∧ Below w1.heap.size w1 wr) (fun i _ => n - (intOf i).toNat)
    case atStart => exact ⟨0, by omega, rfl, fun j hj => by omega, Below.refl _ _⟩
    case round =>
      obtain ⟨k, hk, rfl, hA, hb⟩ := hrel
      have HA := hide hA
      have HB := hide hb
      obtain ⟨i0, i1⟩ := HI.out wr hb
      clear hA hb
      by_cases hlt : k < n
      · obtain ⟨b, off, rfl, hbl, z0, z1, z2, z3⟩ := (HP.out.below HB.out).atOrder hlt
        have HST : Hid (∀ v, flAt x g k = v → v = true → ∀ j, j < k + 1 → flAt x g j = true) := fun v h hv j hj => by
          by_cases e : j = k
          · rw [e, h, hv]
          · exact HA.out j (by omega)
        have HF := hide (fun h => flB_bad (c := x) (g := g) (n := n) hlt h)
        obtain ⟨wb, hwb⟩ : ∃ wb, wb = wr.alloc (cOrder (g (k * 4)) (g (k * 4 + 1)) (g (k * 4 + 2)) (g (k * 4 + 3)) 56) := ⟨_, rfl⟩
        have hbb : Below wr.heap.size wr wb := by rw [hwb]; exact bnew _ _
        obtain ⟨q0, q1, q2, q3⟩ : BOrder wr.heap.size (g (k * 4)) (g (k * 4 + 1)) (g (k * 4 + 2)) (g (k * 4 + 3)) wb := by rw [hwb]; exact BOrder.new _ _ _ _ _ _
        have HB4 : Hid (Below w1.heap.size w1 wb) := bnext HB.out (Nat.le_refl _) hbb
        obtain ⟨j0, j1⟩ := HI.out wb HB4.out
        have hwb' := hwb.symm
        have HBf : Hid (∀ d, Below w.heap.size w (wb.drewN d)) := fun d => below_drewN (bnext HWB.out (Nat.le_refl _) HB4.out) d
        have HBn : Hid (∀ d, Below w1.heap.size w1 (wb.drewN d)) := fun d => below_drewN HB4.out d
        have HBn2 : Hid (∀ d d', Below w1.heap.size w1 ((wb.drewN d).drewN d')) := fun d d' => below_drewN (below_drewN HB4.out d) d'
        have HBf2 : Hid (∀ d d', Below w.heap.size w ((wb.drewN d).drewN d')) := fun d d' => below_drewN (HBf.out d) d'
        have cI := l1In_any (g (k * 4)) 0 1000000
        have cD := l1In_any (g (k * 4 + 2)) 1 1000000000
        have cM := l1Min_any (g (k * 4 + 2)) x
        have cE := l1In_any (g (k * 4 + 3)) 0 (min (g (k * 4 + 2)) x)
        have H1 := hide (fun h => HF.out (flAt_f (c := x) (g := g) (k := k) (orB_id h)))
        have H2 := hide (fun h => HF.out (flAt_f (c := x) (g := g) (k := k) (orB_due h)))
        have H3 := hide (fun hk0 h => HF.out (flAt_no (c := x) (g := g) (k := k) hk0 h))
        have H4 : Hid (inB (g (k * 4)) 0 1000000 = true → inB (g (k * 4 + 2)) 1 1000000000 = true → (k = 0 ∨ g ((k - 1) * 4) < g (k * 4)) → flAt x g k = stB x (g (k * 4 + 1)) (g (k * 4 + 2)) (g (k * 4 + 3))) := fun h1 h2 h3 => (flAt_or h3).trans (orB_st h1 h2)
        have HDb : Hid (inB (g (k * 4 + 2)) 1 1000000000 = true → 1 ≤ g (k * 4 + 2) ∧ g (k * 4 + 2) ≤ 1000000000) := fun h => (inB_iff _ _ _).1 h
        obtain ⟨J, hJ⟩ : ∃ J, J = k - 1 := ⟨_, rfl⟩
        rw [← hJ] at H3 H4
        have HPJ : Hid (k ≠ 0 → wb.cell? ⟨b, off + J * 4, none⟩ = some (.int .i64 (g (J * 4)))) := fun h0 => by
          obtain ⟨b', off', hbe, -, p0, -, -, -⟩ := (HP.out.below HB4.out).atOrder (k := J) (by omega)
          cases hbe
          exact p0
        generalize inB (g (k * 4)) 0 1000000 = B0 at *
        generalize inB (g (k * 4 + 2)) 1 1000000000 = B1 at *
        generalize hse : stB x (g (k * 4 + 1)) (g (k * 4 + 2)) (g (k * 4 + 3)) = SB at *
        have HSE := hide hse
        clear hse
        generalize g (k * 4) = y0 at *
        generalize g (k * 4 + 1) = y1 at *
        generalize g (k * 4 + 2) = y2 at *
        generalize g (k * 4 + 3) = y3 at *
        generalize g (J * 4) = y4 at *
        clear hwb hbb HB hbl HP HA
        cases B0
        · have HR := hide (H1.out rfl)
          clear HST H1 H2 H3 H4 HBn HBn2 HBf2 HDb HPJ cM cE HSE
          go_upto_region 7 with fail
          go_quiet ((go_at_call 26; (first | with_reducible exact Calls.quiet_of_same (cI _) | with_reducible exact Calls.quiet_of_same (cD _))))
          go_wp2_with fail
          go_ret
          exact ⟨by rw [HR.out]; rfl, HBf.out nq⟩
        by_cases hk0 : k = 0
        · subst hk0
          simp only [Nat.zero_mul, Nat.add_zero] at z0 z1 z2 z3 hwb'
          clear H1 H3 HPJ hJ
          cases B1
          · have HR := hide (H2.out rfl)
            clear HST H2 H4 HBn HBn2 HBf2 HDb cM cE HSE
            go_upto_region 7 with fail
            go_quiet ((go_at_call 26; (first | with_reducible exact Calls.quiet_of_same (cI _) | with_reducible exact Calls.quiet_of_same (cD _))))
            go_wp2_with fail
            go_ret
            exact ⟨by rw [HR.out]; rfl, HBf.out nq⟩
          have H5 := hide (H4.out rfl rfl (.inl rfl))
          have hd := HDb.out rfl
          clear H2 H4 HDb
          go_upto_region 7 with fail
          go_quiet ((go_at_call 26; (first | with_reducible exact Calls.quiet_of_same (cI _) | with_reducible exact Calls.quiet_of_same (cD _))))
          clear cI cD
          obtain ⟨wq, hwq⟩ : ∃ wq, wq = wb.drewN nq := ⟨_, rfl⟩
          have HFq : Hid (Below w.heap.size w wq) := by rw [hwq]; exact HBf.out nq
          have HNq : Hid (Below w1.heap.size w1 wq) := by rw [hwq]; exact HBn.out nq
          have q1 : wq.cell? ⟨wr.heap.size, 1, none⟩ = some (.int .i64 y1) := by rw [hwq]; exact q1
          have q2 : wq.cell? ⟨wr.heap.size, 2, none⟩ = some (.int .i64 y2) := by rw [hwq]; exact q2
          have q3 : wq.cell? ⟨wr.heap.size, 3, none⟩ = some (.int .i64 y3) := by rw [hwq]; exact q3
          have j0 : wq.cell? ⟨w.heap.size, 0, none⟩ = some (.int .i64 x) := by rw [hwq]; exact j0
          have j1 : wq.cell? ⟨w.heap.size, 1, none⟩ = some (.slice (some ⟨b, off, none⟩) n cap) := by rw [hwq]; exact j1
          have HFq2 : Hid (∀ d, Below w.heap.size w (wq.drewN d)) := fun d => below_drewN HFq.out d
          have HNq2 : Hid (∀ d, Below w1.heap.size w1 (wq.drewN d)) := fun d => below_drewN HNq.out d
          rw [← hwq]
          clear hwq HBf HBn HBn2 HBf2 hwb' z0 z1 z2 z3 q0
          by_cases h1 : y1 = 1 ∨ y1 = 2
          · have HE2 : Hid (SB = (decide (y3 = 0) && decide (x ≤ y2))) := by show _ = _; rw [← HSE.out]; unfold stB; rw [if_pos h1]
            clear cM cE
            by_cases hx : y2 < x
            · have HR : Hid (flB x g n = false) := HF.out (H5.out.trans (by rw [HE2.out]; simp; omega))
              rcases h1 with h1 | h1 <;> subst h1 <;> (go_wp2_with fail; go_ret; exact ⟨by rw [HR.out]; rfl, HFq.out⟩)
            · by_cases hy : y3 = 0
              · have HT : Hid (SB = true) := by show _ = _; rw [HE2.out]; simp; omega
                subst hy
                rcases h1 with h1 | h1 <;> subst h1 <;> (go_wp2_with fail; exact ⟨⟨0 + 1, by omega, rfl, HST.out _ H5.out HT.out, HNq.out⟩, by simp [intOf]; omega⟩)
              · have HR : Hid (flB x g n = false) := HF.out (H5.out.trans (by rw [HE2.out]; simp [hy]))
                have hy2 : (y3 != 0) = true := by simpa using hy
                rcases h1 with h1 | h1 <;> subst h1 <;> (go_wp2_with fail; go_ret; exact ⟨by rw [HR.out]; rfl, HFq.out⟩)
          by_cases h2 : y1 = 3 ∨ y1 = 4
          · have HE2 : Hid (SB = inB y3 0 (min y2 x)) := by show _ = _; rw [← HSE.out]; unfold stB; rw [if_neg h1, if_pos h2]
            generalize inB y3 0 (min y2 x) = IB at *
            obtain ⟨m, hm⟩ : ∃ m, m = min y2 x := ⟨_, rfl⟩
            rw [← hm] at cM cE
            clear hm
            rcases h2 with h2 | h2 <;> subst h2 <;> (
              go_upto_region 17 with fail
              go_quiet (first | (go_at_call 27; exact Calls.quiet_of_same (cM _)) | (go_at_call 26; exact Calls.quiet_of_same (cE _)))
              cases IB
              · have HR : Hid (flB x g n = false) := HF.out (H5.out.trans HE2.out)
                go_wp2_with fail
                go_ret
                exact ⟨by rw [HR.out]; rfl, HFq2.out _⟩
              · go_wp2_with fail
                exact ⟨⟨0 + 1, by omega, rfl, HST.out _ H5.out HE2.out, HNq2.out _⟩, by simp [intOf]; omega⟩)
          clear cM cE
          have hs : ¬ y1 = 1 ∧ ¬ y1 = 2 ∧ ¬ y1 = 3 ∧ ¬ y1 = 4 := by omega
          obtain ⟨s1, s2, s3, s4⟩ := hs
          by_cases h5 : y1 = 5
          · have HE2 : Hid (SB = (decide (y3 = y2 + 1) && decide (y3 ≤ x))) := by show _ = _; rw [← HSE.out]; unfold stB; rw [if_neg h1, if_neg h2, if_pos h5]
            subst h5
            clear s1 s2 s3 s4 h1 h2
            by_cases hy : y3 = y2 + 1
            · by_cases hx : y3 ≤ x
              · have HT : Hid (SB = true) := by show _ = _; rw [HE2.out]; simp [hy]; omega
                subst hy
                go_wp2_with fail
                exact ⟨⟨0 + 1, by omega, rfl, HST.out _ H5.out HT.out, HNq.out⟩, by simp [intOf]; omega⟩
              · have HR : Hid (flB x g n = false) := HF.out (H5.out.trans (by rw [HE2.out]; simp [hx]))
                subst hy
                go_wp2_with fail
                go_ret
                exact ⟨by rw [HR.out]; rfl, HFq.out⟩
            · have HR : Hid (flB x g n = false) := HF.out (H5.out.trans (by rw [HE2.out]; simp [hy]))
              have hy2 : (y3 != y2 + 1) = true := by simpa using hy
              go_wp2_with fail
              go_ret
              exact ⟨by rw [HR.out]; rfl, HFq.out⟩
          have HE2 : Hid (SB = false) := by show _ = _; rw [← HSE.out]; unfold stB; rw [if_neg h1, if_neg h2, if_neg h5]
          have HR : Hid (flB x g n = false) := HF.out (H5.out.trans HE2.out)
          clear h1 h2
          go_wp2_with fail
          go_ret
          exact ⟨by rw [HR.out]; rfl, HFq.out⟩
        have hkz : decide (0 < k) = true := decide_eq_true (by omega)
        have hJ1 : (k : Int) - 1 = (J : Int) := by omega
        have hJ2 : J < n := by omega
        have p0 := HPJ.out hk0
        clear hJ
        by_cases hle : y0 ≤ y4
        · have HR := hide (H3.out hk0 hle)
          clear HST H1 H2 H3 H4 HBn HBn2 HBf2 HDb HPJ cM cE HSE cD
          go_upto_region 7 with fail
          go_quiet ((go_at_call 26; exact Calls.quiet_of_same (cI _)))
          go_wp2_with fail
          go_ret
          exact ⟨by rw [HR.out]; rfl, HBf.out nq⟩
        cases B1
        · have HR := hide (H2.out rfl)
          clear HST H1 H2 H3 H4 HBn HBn2 HBf2 HDb HPJ cM cE HSE
          go_upto_region 7 with fail
          go_quiet ((go_at_call 26; (first | with_reducible exact Calls.quiet_of_same (cI _) | with_reducible exact Calls.quiet_of_same (cD _))))
          go_wp2_with fail
          go_ret
          exact ⟨by rw [HR.out]; rfl, HBf.out nq⟩
        have H5 := hide (H4.out rfl rfl (.inr (by omega)))
        have hd := HDb.out rfl
        clear H1 H2 H3 H4 HDb HPJ
        go_upto_region 7 with fail
        go_quiet ((go_at_call 26; (first | with_reducible exact Calls.quiet_of_same (cI _) | with_reducible exact Calls.quiet_of_same (cD _))))
        clear p0
        clear cI cD
        obtain ⟨wq, hwq⟩ : ∃ wq, wq = wb.drewN nq := ⟨_, rfl⟩
        have HFq : Hid (Below w.heap.size w wq) := by rw [hwq]; exact HBf.out nq
        have HNq : Hid (Below w1.heap.size w1 wq) := by rw [hwq]; exact HBn.out nq
        have q1 : wq.cell? ⟨wr.heap.size, 1, none⟩ = some (.int .i64 y1) := by rw [hwq]; exact q1
        have q2 : wq.cell? ⟨wr.heap.size, 2, none⟩ = some (.int .i64 y2) := by rw [hwq]; exact q2
        have q3 : wq.cell? ⟨wr.heap.size, 3, none⟩ = some (.int .i64 y3) := by rw [hwq]; exact q3
        have j0 : wq.cell? ⟨w.heap.size, 0, none⟩ = some (.int .i64 x) := by rw [hwq]; exact j0
        have j1 : wq.cell? ⟨w.heap.size, 1, none⟩ = some (.slice (some ⟨b, off, none⟩) n cap) := by rw [hwq]; exact j1
        have HFq2 : Hid (∀ d, Below w.heap.size w (wq.drewN d)) := fun d => below_drewN HFq.out d
        have HNq2 : Hid (∀ d, Below w1.heap.size w1 (wq.drewN d)) := fun d => below_drewN HNq.out d
        rw [← hwq]
        clear hwq HBf HBn HBn2 HBf2 hwb' z0 z1 z2 z3 q0
        by_cases h1 : y1 = 1 ∨ y1 = 2
        · have HE2 : Hid (SB = (decide (y3 = 0) && decide (x ≤ y2))) := by show _ = _; rw [← HSE.out]; unfold stB; rw [if_pos h1]
          clear cM cE
          by_cases hx : y2 < x
          · have HR : Hid (flB x g n = false) := HF.out (H5.out.trans (by rw [HE2.out]; simp; omega))
            rcases h1 with h1 | h1 <;> subst h1 <;> (go_wp2_with fail; go_ret; exact ⟨by rw [HR.out]; rfl, HFq.out⟩)
          · by_cases hy : y3 = 0
            · have HT : Hid (SB = true) := by show _ = _; rw [HE2.out]; simp; omega
              subst hy
              rcases h1 with h1 | h1 <;> subst h1 <;> (go_wp2_with fail; exact ⟨⟨k + 1, by omega, rfl, HST.out _ H5.out HT.out, HNq.out⟩, by simp [intOf]; omega⟩)
            · have HR : Hid (flB x g n = false) := HF.out (H5.out.trans (by rw [HE2.out]; simp [hy]))
              have hy2 : (y3 != 0) = true := by simpa using hy
              rcases h1 with h1 | h1 <;> subst h1 <;> (go_wp2_with fail; go_ret; exact ⟨by rw [HR.out]; rfl, HFq.out⟩)
        by_cases h2 : y1 = 3 ∨ y1 = 4
        · have HE2 : Hid (SB = inB y3 0 (min y2 x)) := by show _ = _; rw [← HSE.out]; unfold stB; rw [if_neg h1, if_pos h2]
          generalize inB y3 0 (min y2 x) = IB at *
          obtain ⟨m, hm⟩ : ∃ m, m = min y2 x := ⟨_, rfl⟩
          rw [← hm] at cM cE
          clear hm
          rcases h2 with h2 | h2 <;> subst h2 <;> (
            go_upto_region 17 with fail
            go_quiet (first | (go_at_call 27; exact Calls.quiet_of_same (cM _)) | (go_at_call 26; exact Calls.quiet_of_same (cE _)))
            cases IB
            · have HR : Hid (flB x g n = false) := HF.out (H5.out.trans HE2.out)
              go_wp2_with fail
              go_ret
              exact ⟨by rw [HR.out]; rfl, HFq2.out _⟩
            · go_wp2_with fail
              exact ⟨⟨k + 1, by omega, rfl, HST.out _ H5.out HE2.out, HNq2.out _⟩, by simp [intOf]; omega⟩)
        clear cM cE
        have hs : ¬ y1 = 1 ∧ ¬ y1 = 2 ∧ ¬ y1 = 3 ∧ ¬ y1 = 4 := by omega
        obtain ⟨s1, s2, s3, s4⟩ := hs
        by_cases h5 : y1 = 5
        · have HE2 : Hid (SB = (decide (y3 = y2 + 1) && decide (y3 ≤ x))) := by show _ = _; rw [← HSE.out]; unfold stB; rw [if_neg h1, if_neg h2, if_pos h5]
          subst h5
          clear s1 s2 s3 s4 h1 h2
          by_cases hy : y3 = y2 + 1
          · by_cases hx : y3 ≤ x
            · have HT : Hid (SB = true) := by show _ = _; rw [HE2.out]; simp [hy]; omega
              subst hy
              go_wp2_with fail
              exact ⟨⟨k + 1, by omega, rfl, HST.out _ H5.out HT.out, HNq.out⟩, by simp [intOf]; omega⟩
            · have HR : Hid (flB x g n = false) := HF.out (H5.out.trans (by rw [HE2.out]; simp [hx]))
              subst hy
              go_wp2_with fail
              go_ret
              exact ⟨by rw [HR.out]; rfl, HFq.out⟩
          · have HR : Hid (flB x g n = false) := HF.out (H5.out.trans (by rw [HE2.out]; simp [hy]))
            have hy2 : (y3 != y2 + 1) = true := by simpa using hy
            go_wp2_with fail
            go_ret
            exact ⟨by rw [HR.out]; rfl, HFq.out⟩
        have HE2 : Hid (SB = false) := by show _ = _; rw [← HSE.out]; unfold stB; rw [if_neg h1, if_neg h2, if_neg h5]
        have HR : Hid (flB x g n = false) := HF.out (H5.out.trans HE2.out)
        clear h1 h2
        go_wp2_with fail
        go_ret
        exact ⟨by rw [HR.out]; rfl, HFq.out⟩
      · obtain rfl : k = n := by omega
        have HR : Hid (flB x g k = true) := flB_ok HC.out hn HA.out
        have HFF : Hid (Below w.heap.size w wr) := bnext HWB.out (Nat.le_refl _) HB.out
        clear HA HB HP
        go_wp2_with fail
        go_ret
        exact ⟨by rw [HR.out]; rfl, HFF.out⟩
  · rw [flB_big hn]
    have hn2 : (500 : Int) < n := by omega
    clear hc HP HI
    go_enter Try.func7, Try.ntmps7
    go_wp2_with fail
    refine (c0 _).mono ?_
    rintro r w1 ⟨rfl, rfl⟩
    go_wp2_with fail
    go_ret
    exact ⟨rfl, HWB.out⟩

end Go.Proofs.Ytefgpdfbgkhncaa
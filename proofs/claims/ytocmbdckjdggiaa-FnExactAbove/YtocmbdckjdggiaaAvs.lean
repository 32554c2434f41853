/- Above: the specification. -/
import Derived.Test.YtocmbdckjdggiaaAvn
import Derived.Test.YtocmbdckjdggiaaGrk
import Derived.Test.YtocmbdckjdggiaaPut
namespace Go.Proofs.Ytocmbdckjdggiaa
open Go.RowKit

set_option maxRecDepth 100000 in
set_option maxHeartbeats 8000000 in
theorem specAbove_any (a : Option Addr) (m cap : Nat) (f : Nat → Int) (hl : m ≤ 1048576) (a' : Option Addr) (p cap' : Nat) (g : Nat → Int) (hl' : p ≤ 1048576) (o : Int) (w : World) (h : Px a m f w) (h' : Px a' p g w) :
    Calls Try.prog 48 #[.slice a m cap, .slice a' p cap', .int .i64 o] w (LsR (avN m p f g o) (fun q => (avF m f g o).getD q 0) w) := by
  have hb0 := bnew w (.cells #[] 2)
  have HO0 : Hid ((w.alloc (.cells #[] 2)).ownsRow w.heap.size 2 1 (.slice (some ⟨w.heap.size, 0, none⟩) 0 0) 0 (ints [])) := World.ownsRow_lit w #[] 0 (Nat.le_refl _) (by unfold maxLen; omega) rfl
  have HO1 : Hid (((w.alloc (.cells #[] 2)).alloc (.cells #[] 2)).ownsRow (w.heap.size + 1) 2 1 (.slice (some ⟨w.heap.size + 1, 0, none⟩) 0 0) 0 (ints [])) := by
    have := World.ownsRow_lit (e := 2) (size := 1) (base := w.heap.size + 1) (w.alloc (.cells #[] 2)) #[] 0 (by simp) (by unfold maxLen; omega) rfl
    rw [show (w.alloc (.cells #[] 2)).heap.size = w.heap.size + 1 by simp] at this
    exact this
  have HB0 := hide hb0
  have c0 := l11Doses_any a m cap f hl a' p cap' hl' _ (h.below hb0)
  have HP := hide h
  have HP' := hide h'
  clear h h' hb0
  have HB1 : Hid (Below w.heap.size w ((w.alloc (.cells #[] 2)).alloc (.cells #[] 2))) := (bnew _ _).alloc (by simp) _
  have HOo : Hid (((w.alloc (.cells #[] 2)).alloc (.cells #[] 2)).ownsRow w.heap.size 2 1 (.slice (some ⟨w.heap.size, 0, none⟩) 0 0) 0 (ints [])) := HO0.out.alloc _
  have HZ1 : Hid (w.heap.size + 1 ≤ ((w.alloc (.cells #[] 2)).alloc (.cells #[] 2)).heap.size) := by show _ ≤ _; simp
  unfold avN
  cases hq : dsB m p f
  · rw [hq] at c0
    simp only [Bool.false_eq_true, if_false]
    clear hq HP HP' HO1 HOo HB1
    go_enter Try.func48, Try.ntmps48
    go_wp2_with fail
    refine c0.mono ?_
    rintro e w1 ⟨rfl, rfl⟩
    go_wp2_with fail
    go_ret
    exact ⟨_, _, 0, rfl, .inl rfl, .inl rfl, HB0.out⟩
  rw [hq] at c0
  obtain ⟨rfl, hm, -⟩ := dsB_parts hq
  simp only [if_true]
  have HE : Hid (∀ M v w', M = avM p f g o → w'.ownsRow w.heap.size 2 1 v (avL M M.length).length (ints (avL M M.length)) → Below w.heap.size w w' → LsR (avF p f g o).length (fun q => (avF p f g o).getD q 0) w (.returned v) w') := fun M v w' hM h1 h2 => by
    subst hM
    exact LsR.ofL h1 h2
  have HMl := hide (avM_len p f g o)
  have HMu : Hid (∀ M : List Int, Srt M → M.Perm (doL f g o p) → M = avM p f g o) := fun M h1 h2 => srt_uniq h1 h2
  generalize (fun q => (avF p f g o).getD q 0) = S at *
  generalize (avF p f g o).length = R at *
  clear hq HO0 HB0
  go_enter Try.func48, Try.ntmps48
  go_wp2_with fail
  refine c0.mono ?_
  rintro e w1 ⟨rfl, rfl⟩
  clear c0
  go_wp2_with fail
  generalize (w.alloc (.cells #[] 2)).alloc (.cells #[] 2) = wb at *
  go_loopw [8, 9] (fun v i wr => ∃ k : Nat, k ≤ p ∧ i = .int .i64 k ∧ (∃ M : List Int, wr.ownsRow (w.heap.size + 1) 2 1 v M.length (ints M) ∧ Srt M ∧ M.Perm (doL f g o k)) ∧ Below (w.heap.size + 1) wb wr) (fun _ i _ => p - (intOf i).toNat)
  case atStart => exact ⟨0, by omega, rfl, ⟨[], HO1.out, List.Pairwise.nil, List.Perm.nil⟩, Below.refl _ _⟩
  case round =>
    clear HO1
    obtain ⟨k, hk, rfl, ⟨M, ho, hsm, hpm⟩, hb⟩ := hrel
    have hbw : Below w.heap.size w wr := HB1.out.trans (hb.mono (by omega))
    by_cases hlt : k < p
    · obtain ⟨b, off, rfl, hz⟩ := (HP.out.below hbw).at hlt
      obtain ⟨b', off', rfl, hz'⟩ := (HP'.out.below hbw).at hlt
      have HO := hide ho
      have HSm := hide hsm
      have HPm := hide hpm
      have HB := hide hb
      have HZs : Hid (w.heap.size + 1 ≤ wr.heap.size) := Nat.le_trans HZ1.out hb.size
      have HMk : Hid (M.length ≤ k) := by show _ ≤ _; rw [hpm.length_eq]; exact doL_len f g o k
      clear ho hsm hpm hb hbw HP HP' HE HMl HMu HB1 HOo HZ1
      by_cases hg : g k = o
      · have q1 : (g k == o) = true := by simp [hg]
        have HD := hide (doL_pos (f := f) hg)
        have cP := fun x => l8Put_any (w.heap.size + 1) u8 M.length M x wr HO.out rfl (by have := HMk.out; omega) HZs.out
        clear hg
        generalize f k = X at *
        generalize g k = Y at *
        go_wp2_with fail
        refine (cP X).mono ?_
        rintro e w2 ⟨v2, rfl, i, hi, hle, hgt, ho2, hb2⟩
        have HO2 : Hid (w2.ownsRow (w.heap.size + 1) 2 1 v2 (putAt M i X).length (ints (putAt M i X))) := by rw [putAt_len M i X hi]; exact ho2
        have HS2 := hide (putAt_srt HSm.out hi hle hgt)
        have HP2 : Hid ((putAt M i X).Perm (doL f g o (k + 1))) := by
          rw [HD.out]
          exact (putAt_perm M i X).trans (HPm.out.append (List.Perm.refl _))
        have HB2 := hide (HB.out.trans hb2)
        clear ho2 hb2 hle hgt HO HSm HPm HB HD cP hi
        generalize putAt M i X = M2 at *
        go_wp2_with fail
        exact ⟨⟨k + 1, by omega, rfl, ⟨M2, HO2.out, HS2.out, HP2.out⟩, HB2.out⟩, by simp [intOf]; omega⟩
      · have q1 : (g k == o) = false := by simp [hg]
        have HP2 : Hid (M.Perm (doL f g o (k + 1))) := by rw [doL_neg hg]; exact HPm.out
        clear hg
        go_wp2_with fail
        exact ⟨⟨k + 1, by omega, rfl, ⟨M, HO.out, HSm.out, HP2.out⟩, HB.out⟩, by simp [intOf]; omega⟩
    · obtain rfl : k = p := by omega
      have HM := hide (HMu.out M hsm hpm)
      have HLn : Hid (M.length ≤ k) := by show _ ≤ _; rw [HM.out]; exact HMl.out
      obtain ⟨lv, hlv⟩ : ∃ lv, lv = u8 := ⟨_, rfl⟩
      have HOl : Hid (wr.ownsRow w.heap.size 2 1 u8 M.length (ints M)) := owns_mono ho (by omega)
      have HOn : Hid (wr.ownsRow w.heap.size 2 1 (.slice (some ⟨w.heap.size, 0, none⟩) 0 0) 0 (ints [])) := owns_keep HOo.out fun b hb' => by
        cases hb'
        exact hb.block _ (by show w.heap.size < _; omega)
      have HAp : Hid (Apart (.slice (some ⟨w.heap.size, 0, none⟩) 0 0) u8) := Apart.below (fun b hb' => by cases hb'; show w.heap.size < _; omega) ho
      have HBw := hide hbw
      have hvl : ∃ x y, u8 = .slice x M.length y := by
        rcases ho.2 with ⟨hv, h0⟩ | ⟨g', c', cur, hv, _⟩
        · exact ⟨none, 0, by rw [hv, h0]⟩
        · exact ⟨_, _, hv⟩
      obtain ⟨x8, y8, rfl⟩ := hvl
      clear ho hsm hpm hb hbw HP HP' HMl HMu HB1 HOo HZ1 hlv lv
      go_wp2_with fail
      go_loopw [7, 10] (fun v i wr => ∃ j : Nat, j ≤ M.length ∧ i = .int .i64 j ∧ wr.ownsRow w.heap.size 2 1 v (avL M j).length (ints (avL M j)) ∧ wr.ownsRow w.heap.size 2 1 (.slice x8 M.length y8) M.length (ints M) ∧ Apart v (.slice x8 M.length y8) ∧ Below w.heap.size w wr) (fun _ i _ => M.length - (intOf i).toNat)
      case atStart => exact ⟨0, by omega, rfl, HOn.out, HOl.out, HAp.out, HBw.out⟩
      case round =>
        clear HOn HOl HAp HBw
        obtain ⟨j, hj, rfl, ho, hol, hap, hb⟩ := hrel
        have HO := hide ho
        have HOl := hide hol
        have HAp := hide hap
        have HB := hide hb
        have hMk := HLn.out
        by_cases hlt : j < M.length
        · obtain ⟨b, cp, heq, -, hc⟩ := own_partsL hol (by omega)
          cases heq
          have HZ := hide hb.size
          have hll := avL_len M j
          have HNL : Hid ((avL M j).length ≤ 1048576) := by show _ ≤ _; omega
          have HWr : IntKind.i64.wrap ((M.length : Int) - j) = (M.length : Int) - j := by rw [IntKind.wrap_i64]; omega
          clear ho hol hap hb HE HM HLn hll
          by_cases hj0 : j = 0
          · subst hj0
            have HD : Hid (avL M (0 + 1) = avL M 0 ++ [(M.length : Int)]) := by
              have := avL_pos (M := M) (k := 0) (.inl rfl)
              show avL M 1 = _
              simpa using this
            have q1 : (((0 : Nat) : Int) == 0) = true := rfl
            have HOd0 := hide (fun d => ownsRow_below' HO.out (below_drewN (Below.refl _ _) d))
            have HOld0 := hide (fun d => ownsRow_below' HOl.out (below_drewN (Below.refl _ _) d))
            have HBd0 := hide (fun d => below_drewN HB.out d)
            clear HO HOl HB HZ
            go_wp2_with fail
            go_quiet (fail)
            have HOd := hide (HOd0.out nq)
            have HOld := hide (HOld0.out nq)
            have HBd := hide (HBd0.out nq)
            have HZd := hide HBd.out.size
            clear HOld0 HBd0 HOd0
            generalize wr.drewN nq = wd at *
            go_upto_region 14 with fail
            go_wp2_with (refine growN _ rfl _ _ rfl w.heap.size _ _ (avL M 0) rfl w HOd.out HBd.out HZd.out (M.length : Int) rfl HNL.out ?_)
            intro v' w7 ho1 hb1 hs1 hk1 hm1
            have HO1 : Hid (w7.ownsRow w.heap.size 2 1 v' (avL M (0 + 1)).length (ints (avL M (0 + 1)))) := by
              rw [HD.out, List.length_append, List.length_singleton]; exact ho1
            have HB1 := hide hb1
            have HAp1 := hide (HAp.out.symm.moved hm1 HOld.out).symm
            have HOl1 := hide (owns_side HOld.out hk1 HAp.out.symm)
            clear ho1 hb1 hs1 hk1 hm1 HOd HOld HBd HZd HD HNL HAp
            go_wp2_with fail
            exact ⟨⟨0 + 1, by omega, by first | rfl | (congr 1; omega), HO1.out, HOl1.out, HAp1.out, HB1.out⟩, by simp [intOf]; omega⟩
          · have q1 : ((j : Int) == 0) = false := by
              have : ¬ (j : Int) = 0 := by omega
              exact beq_eq_false_iff_ne.2 this
            obtain ⟨d0, -⟩ := hc j hlt
            obtain ⟨d1, -⟩ := hc (j - 1) (by omega)
            obtain ⟨j1, hj1⟩ : ∃ j1 : Nat, j - 1 = j1 := ⟨_, rfl⟩
            have hj1' : (j : Int) - 1 = (j1 : Int) := by omega
            have hj1l : (j1 : Int) < (M.length : Int) := by omega
            have HX : Hid (∀ x y, M.getD j 0 = x → M.getD (j - 1) 0 = y → (x ≠ y → avL M (j + 1) = avL M j ++ [(M.length : Int) - j]) ∧ (x = y → avL M (j + 1) = avL M j)) := fun x y hx hy => ⟨fun hne => avL_pos (.inr (by rw [hx, hy]; exact hne)), fun he => avL_neg (by rw [hx, hy]; intro hh; rcases hh with hh | hh; exact hj0 hh; exact hh he)⟩
            obtain ⟨x, hx⟩ : ∃ x, M.getD j 0 = x := ⟨_, rfl⟩
            obtain ⟨y, hy⟩ : ∃ y, M.getD (j - 1) 0 = y := ⟨_, rfl⟩
            have hXX := HX.out x y hx hy
            rw [hx] at d0
            rw [hy, hj1] at d1
            clear hc HX hx hy hj1
            by_cases hxy : x = y
            · have HD := hide (hXX.2 hxy)
              have q2 : (x != y) = false := by simp [hxy]
              have HO10 : Hid (∀ d, (wr.drewN d).ownsRow w.heap.size 2 1 u7 (avL M (j + 1)).length (ints (avL M (j + 1)))) := fun d => by rw [HD.out]; exact ownsRow_below' HO.out (below_drewN (Below.refl _ _) d)
              have HOld0 := hide (fun d => ownsRow_below' HOl.out (below_drewN (Below.refl _ _) d))
              have HBd0 := hide (fun d => below_drewN HB.out d)
              clear HO HOl HB HZ hXX HD hxy HNL
              go_wp2_with fail
              go_quiet (fail)
              have HO1 := hide (HO10.out nq)
              have HOld := hide (HOld0.out nq)
              have HBd := hide (HBd0.out nq)
              clear HOld0 HBd0 HO10
              generalize wr.drewN nq = wd at *
              clear d0 d1
              go_wp2_with fail
              exact ⟨⟨j + 1, by omega, by first | rfl | (congr 1; omega), HO1.out, HOld.out, HAp.out, HBd.out⟩, by simp [intOf]; omega⟩
            · have HD := hide (hXX.1 hxy)
              have q2 : (x != y) = true := by simp [hxy]
              clear hXX hxy
              have HOd0 := hide (fun d => ownsRow_below' HO.out (below_drewN (Below.refl _ _) d))
              have HOld0 := hide (fun d => ownsRow_below' HOl.out (below_drewN (Below.refl _ _) d))
              have HBd0 := hide (fun d => below_drewN HB.out d)
              clear HO HOl HB HZ
              go_wp2_with fail
              go_quiet (fail)
              have HOd := hide (HOd0.out nq)
              have HOld := hide (HOld0.out nq)
              have HBd := hide (HBd0.out nq)
              have HZd := hide HBd.out.size
              clear HOld0 HBd0 HOd0
              generalize wr.drewN nq = wd at *
              clear d0 d1
              go_upto_region 14 with fail
              go_wp2_with (refine growN _ rfl _ _ rfl w.heap.size _ _ (avL M j) rfl w HOd.out HBd.out HZd.out ((M.length : Int) - (j : Nat)) rfl HNL.out ?_)
              intro v' w7 ho1 hb1 hs1 hk1 hm1
              have HO1 : Hid (w7.ownsRow w.heap.size 2 1 v' (avL M (j + 1)).length (ints (avL M (j + 1)))) := by
                rw [HD.out, List.length_append, List.length_singleton]; exact ho1
              have HB1 := hide hb1
              have HAp1 := hide (HAp.out.symm.moved hm1 HOld.out).symm
              have HOl1 := hide (owns_side HOld.out hk1 HAp.out.symm)
              clear ho1 hb1 hs1 hk1 hm1 HOd HOld HBd HZd HD HNL HAp
              go_wp2_with fail
              exact ⟨⟨j + 1, by omega, by first | rfl | (congr 1; omega), HO1.out, HOl1.out, HAp1.out, HB1.out⟩, by simp [intOf]; omega⟩
        · obtain rfl : j = M.length := by omega
          have HR := hide (HE.out M u7 wr HM.out ho hb)
          clear HE HO HOl HAp HB ho hol hap hb HM HLn
          go_wp2_with fail
          go_ret
          exact HR.out

end Go.Proofs.Ytocmbdckjdggiaa

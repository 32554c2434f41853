/- Above: the program. -/
import Derived.Test.YtocmbdckjdggiaaAvn
import Derived.Test.YtocmbdckjdggiaaSrt
namespace Go.Proofs.Ytocmbdckjdggiaa
open Go.RowKit

set_option maxRecDepth 100000 in
set_option maxHeartbeats 8000000 in
theorem implAbove_any (a : Option Addr) (m cap : Nat) (f : Nat → Int) (hl : m ≤ 1048576) (a' : Option Addr) (p cap' : Nat) (g : Nat → Int) (hl' : p ≤ 1048576) (o : Int) (w : World) (h : Px a m f w) (h' : Px a' p g w) :
    Calls Try.prog 49 #[.slice a m cap, .slice a' p cap', .int .i64 o] w (LsR (avN m p f g o) (fun q => (avF m f g o).getD q 0) w) := by
  have c0 := areDoses_any a m cap f hl a' p cap' hl' w h
  unfold avN
  cases hq : dsB m p f
  · rw [hq] at c0
    simp only [Bool.false_eq_true, if_false]
    clear hq h h'
    go_enter Try.func49, Try.ntmps49
    go_wp2_with fail
    refine c0.mono ?_
    rintro e w1 ⟨rfl, rfl⟩
    go_wp2_with fail
    go_ret
    exact ⟨_, _, 0, rfl, .inl rfl, .inl rfl, Below.refl _ _⟩
  rw [hq] at c0
  obtain ⟨rfl, hm, -⟩ := dsB_parts hq
  simp only [if_true]
  have cD := dosesOf_any a p cap f hl a' cap' g o w h h'
  have HE : Hid (∀ M v w', M = avM p f g o → w'.ownsRow w.heap.size 2 1 v (avL M M.length).length (ints (avL M M.length)) → Below w.heap.size w w' → LsR (avF p f g o).length (fun q => (avF p f g o).getD q 0) w (.returned v) w') := fun M v w' hM h1 h2 => by
    subst hM
    exact LsR.ofL h1 h2
  have HMl := hide (avM_len p f g o)
  have HDl := hide (doL_len f g o p)
  have HMs : Hid (srt (doL f g o p) = avM p f g o) := rfl
  generalize (fun q => (avF p f g o).getD q 0) = S at *
  generalize (avF p f g o).length = R at *
  clear hq h h'
  go_enter Try.func49, Try.ntmps49
  go_wp2_with fail
  refine c0.mono ?_
  rintro e w1 ⟨rfl, rfl⟩
  clear c0
  go_wp2_with fail
  refine cD.mono ?_
  rintro e w2 ⟨x, rfl, ho, hb⟩
  clear cD
  have cS := sort_any w1.heap.size x (doL f g o p) w2 ho (by have := HDl.out; omega) hb.size
  have HB2 := hide hb
  clear hb ho
  go_wp2_with fail
  refine cS.mono ?_
  rintro e w3 ⟨rfl, ho, hb⟩
  have HBw := hide (HB2.out.trans hb)
  clear cS hb HB2
  rw [← srt_len (doL f g o p), HMs.out] at ho
  obtain ⟨M, hM⟩ : ∃ M, M = avM p f g o := ⟨_, rfl⟩
  rw [← hM] at ho
  have HM := hide hM
  have HLn : Hid (M.length ≤ p) := by show _ ≤ _; rw [hM]; exact HMl.out
  have hvl : ∃ x8 y8, x = .slice x8 M.length y8 := by
    rcases ho.2 with ⟨hv, h0⟩ | ⟨g', c', cur, hv, _⟩
    · exact ⟨none, 0, by rw [hv, h0]⟩
    · exact ⟨_, _, hv⟩
  obtain ⟨x8, y8, rfl⟩ := hvl
  have HOl := hide ho
  have HOn : Hid (w3.ownsRow w1.heap.size 2 1 (.slice none 0 0) 0 (ints [])) := World.ownsRow_nil _ _ _ _
  have HAp : Hid (Apart (.slice none 0 0) (.slice x8 M.length y8)) := fun b hb' => by cases hb'
  clear ho hM HMl HMs HDl
  go_wp2_with fail
  go_loopw [8, 9, 22] (fun v _ i wr => ∃ j : Nat, j ≤ M.length ∧ i = .int .i64 j ∧ wr.ownsRow w1.heap.size 2 1 v (avL M j).length (ints (avL M j)) ∧ wr.ownsRow w1.heap.size 2 1 (.slice x8 M.length y8) M.length (ints M) ∧ Apart v (.slice x8 M.length y8) ∧ Below w1.heap.size w1 wr) (fun _ _ i _ => M.length - (intOf i).toNat)
  case atStart => exact ⟨0, by omega, rfl, HOn.out, HOl.out, HAp.out, HBw.out⟩
  case round =>
    clear HOn HOl HAp HBw
    obtain ⟨j, hj, rfl, ho, hol, hap, hb⟩ := hrel
    have HO := hide ho
    have HOl := hide hol
    have HAp := hide hap
    have HB := hide hb
    have hMk := HLn.out
    by_cases hlt : j < M.length
    · obtain ⟨b, cp, heq, -, hc⟩ := own_partsL hol (by omega)
      cases heq
      have HZ := hide hb.size
      have hll := avL_len M j
      have HNL : Hid ((avL M j).length ≤ 1048576) := by show _ ≤ _; omega
      have HWr : IntKind.i64.wrap ((M.length : Int) - j) = (M.length : Int) - j := by rw [IntKind.wrap_i64]; omega
      clear ho hol hap hb HE HM HLn hll
      by_cases hj0 : j = 0
      · subst hj0
        have HD : Hid (avL M (0 + 1) = avL M 0 ++ [(M.length : Int)]) := by
          have := avL_pos (M := M) (k := 0) (.inl rfl)
          show avL M 1 = _
          simpa using this
        have q1 : (((0 : Nat) : Int) == 0) = true := rfl
        have HOd0 := hide (fun d => ownsRow_below' HO.out (below_drewN (Below.refl _ _) d))
        have HOld0 := hide (fun d => ownsRow_below' HOl.out (below_drewN (Below.refl _ _) d))
        have HBd0 := hide (fun d => below_drewN HB.out d)
        clear HO HOl HB HZ
        go_wp2_with fail
        go_quiet (fail)
        have HOd := hide (HOd0.out nq)
        have HOld := hide (HOld0.out nq)
        have HBd := hide (HBd0.out nq)
        have HZd := hide HBd.out.size
        clear HOld0 HBd0 HOd0
        generalize wr.drewN nq = wd at *
        go_upto_region 10 with fail
        go_wp2_with (refine growN _ rfl _ _ rfl w1.heap.size _ _ (avL M 0) rfl w1 HOd.out HBd.out HZd.out (M.length : Int) rfl HNL.out ?_)
        intro v' w7 ho1 hb1 hs1 hk1 hm1
        have HO1 : Hid (w7.ownsRow w1.heap.size 2 1 v' (avL M (0 + 1)).length (ints (avL M (0 + 1)))) := by
          rw [HD.out, List.length_append, List.length_singleton]; exact ho1
        have HB1 := hide hb1
        have HAp1 := hide (HAp.out.symm.moved hm1 HOld.out).symm
        have HOl1 := hide (owns_side HOld.out hk1 HAp.out.symm)
        clear ho1 hb1 hs1 hk1 hm1 HOd HOld HBd HZd HD HNL HAp
        go_wp2_with fail
        exact ⟨⟨0 + 1, by omega, by first | rfl | (congr 1; omega), HO1.out, HOl1.out, HAp1.out, HB1.out⟩, by simp [intOf]; omega⟩
      · have q1 : ((j : Int) == 0) = false := by
          have : ¬ (j : Int) = 0 := by omega
          exact beq_eq_false_iff_ne.2 this
        obtain ⟨d0, -⟩ := hc j hlt
        obtain ⟨d1, -⟩ := hc (j - 1) (by omega)
        obtain ⟨j1, hj1⟩ : ∃ j1 : Nat, j - 1 = j1 := ⟨_, rfl⟩
        have hj1' : (j : Int) - 1 = (j1 : Int) := by omega
        have hj1l : (j1 : Int) < (M.length : Int) := by omega
        have HX : Hid (∀ x y, M.getD j 0 = x → M.getD (j - 1) 0 = y → (x ≠ y → avL M (j + 1) = avL M j ++ [(M.length : Int) - j]) ∧ (x = y → avL M (j + 1) = avL M j)) := fun x y hx hy => ⟨fun hne => avL_pos (.inr (by rw [hx, hy]; exact hne)), fun he => avL_neg (by rw [hx, hy]; intro hh; rcases hh with hh | hh; exact hj0 hh; exact hh he)⟩
        obtain ⟨x, hx⟩ : ∃ x, M.getD j 0 = x := ⟨_, rfl⟩
        obtain ⟨y, hy⟩ : ∃ y, M.getD (j - 1) 0 = y := ⟨_, rfl⟩
        have hXX := HX.out x y hx hy
        rw [hx] at d0
        rw [hy, hj1] at d1
        clear hc HX hx hy hj1
        by_cases hxy : x = y
        · have HD := hide (hXX.2 hxy)
          have q2 : (x != y) = false := by simp [hxy]
          have HO10 : Hid (∀ d, (wr.drewN d).ownsRow w1.heap.size 2 1 u8 (avL M (j + 1)).length (ints (avL M (j + 1)))) := fun d => by rw [HD.out]; exact ownsRow_below' HO.out (below_drewN (Below.refl _ _) d)
          have HOld0 := hide (fun d => ownsRow_below' HOl.out (below_drewN (Below.refl _ _) d))
          have HBd0 := hide (fun d => below_drewN HB.out d)
          clear HO HOl HB HZ hXX HD hxy HNL
          go_wp2_with fail
          go_quiet (fail)
          have HO1 := hide (HO10.out nq)
          have HOld := hide (HOld0.out nq)
          have HBd := hide (HBd0.out nq)
          clear HOld0 HBd0 HO10
          generalize wr.drewN nq = wd at *
          clear d0 d1
          go_wp2_with fail
          exact ⟨⟨j + 1, by omega, by first | rfl | (congr 1; omega), HO1.out, HOld.out, HAp.out, HBd.out⟩, by simp [intOf]; omega⟩
        · have HD := hide (hXX.1 hxy)
          have q2 : (x != y) = true := by simp [hxy]
          clear hXX hxy
          have HOd0 := hide (fun d => ownsRow_below' HO.out (below_drewN (Below.refl _ _) d))
          have HOld0 := hide (fun d => ownsRow_below' HOl.out (below_drewN (Below.refl _ _) d))
          have HBd0 := hide (fun d => below_drewN HB.out d)
          clear HO HOl HB HZ
          go_wp2_with fail
          go_quiet (fail)
          have HOd := hide (HOd0.out nq)
          have HOld := hide (HOld0.out nq)
          have HBd := hide (HBd0.out nq)
          have HZd := hide HBd.out.size
          clear HOld0 HBd0 HOd0
          generalize wr.drewN nq = wd at *
          clear d0 d1
          go_upto_region 10 with fail
          go_wp2_with (refine growN _ rfl _ _ rfl w1.heap.size _ _ (avL M j) rfl w1 HOd.out HBd.out HZd.out ((M.length : Int) - (j : Nat)) rfl HNL.out ?_)
          intro v' w7 ho1 hb1 hs1 hk1 hm1
          have HO1 : Hid (w7.ownsRow w1.heap.size 2 1 v' (avL M (j + 1)).length (ints (avL M (j + 1)))) := by
            rw [HD.out, List.length_append, List.length_singleton]; exact ho1
          have HB1 := hide hb1
          have HAp1 := hide (HAp.out.symm.moved hm1 HOld.out).symm
          have HOl1 := hide (owns_side HOld.out hk1 HAp.out.symm)
          clear ho1 hb1 hs1 hk1 hm1 HOd HOld HBd HZd HD HNL HAp
          go_wp2_with fail
          exact ⟨⟨j + 1, by omega, by first | rfl | (congr 1; omega), HO1.out, HOl1.out, HAp1.out, HB1.out⟩, by simp [intOf]; omega⟩
    · obtain rfl : j = M.length := by omega
      have HR := hide (HE.out M u8 wr HM.out ho hb)
      clear HE HO HOl HAp HB ho hol hap hb HM HLn
      go_wp2_with fail
      go_ret
      exact HR.out

end Go.Proofs.Ytocmbdckjdggiaa

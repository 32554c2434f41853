/- Thresholds: the program's answer. -/
import Derived.Test.YtionmmmmmjjciaaThp
namespace Go.Proofs.Ytionmmmmmjjciaa
open Go.RowKit Go.Lib

def bI (s : Bst) : Int := if s.best < 0 then 0 else s.best
def tI (s : Bst) : Int := if s.best < 0 then 0 else s.top
def lI (s : Bst) : Int := if s.best < 0 then 0 else s.low
def fI (s : Bst) : Bool := !decide (s.best < 0)
/-- the threshold that is told, and whether one is -/
def thrI (n : Nat) (f : Nat → Int) : Int := if hisB n f = true then bI (thr f 255) else 0
def thrF (n : Nat) (f : Nat → Int) : Bool := if hisB n f = true then fI (thr f 255) else false

set_option maxRecDepth 100000 in
set_option maxHeartbeats 2000000 in
theorem isHistogram_any (a : Option Addr) (n cap : Nat) (f : Nat → Int) (hl : n ≤ 1048576) (w : World) (h : Px a n f w) :
    Calls Try.prog 13 #[.slice a n cap] w fun e w' => e = .returned (.bool (hisB n f)) ∧ Below w.heap.size w w' := by
  by_cases hn : n = 256
  case neg =>
    have HF : Hid (hisB n f = false) := by show hisB n f = false; unfold hisB; simp [hn]
    have hn' : ¬ (n : Int) = 256 := by omega
    clear h
    go_enter Try.func13, Try.ntmps13
    go_wp2_with fail
    go_ret
    exact ⟨by rw [HF.out]; rfl, Below.refl _ _⟩
  subst hn
  have c1 := allWithin_any 0 4096 a 256 cap f (by omega) w h
  cases hq : alW f 0 4096 256
  · have HF : Hid (hisB 256 f = false) := by show hisB 256 f = false; unfold hisB; simp [hq]
    rw [hq] at c1
    clear hq h
    go_enter Try.func13, Try.ntmps13
    go_wp2_with fail
    refine c1.mono ?_
    rintro e w1 ⟨rfl, rfl⟩
    go_wp2_with fail
    go_ret
    exact ⟨by rw [HF.out]; rfl, Below.refl _ _⟩
  have hat : ∀ k, k < 256 → 0 ≤ f k ∧ f k ≤ 4096 := fun k hk => by
    have := alW_at hq hk
    unfold inB at this
    simp at this
    omega
  have HF : Hid (hisB 256 f = decide (sm f 256 ≤ 4096)) := by show hisB 256 f = _; unfold hisB; simp [hq]
  have c2 := partOf_any a cap f hat 0 255 (by omega) (by omega) w h
  have e1 : sm f (255 + 1) - sm f 0 = sm f 256 := Int.sub_zero _
  rw [e1] at c2
  rw [hq] at c1
  clear hq h e1 hat
  generalize sm f 256 = S at *
  generalize sto f (255 + 1) - sto f 0 = S' at *
  go_enter Try.func13, Try.ntmps13
  go_wp2_with fail
  refine c1.mono ?_
  rintro e w1 ⟨rfl, rfl⟩
  go_wp2_with fail
  refine c2.mono ?_
  rintro e w2 ⟨rfl, hb⟩
  have HB := hide hb
  clear hb
  have hfd : (Instr.field 43 (.agg #[.int .i64 S, .int .i64 S']) 0).run Try.prog w2 = .ok (.int .i64 S) w2 := rfl
  go_wp2_with fail
  go_ret
  exact ⟨by rw [HF.out]; rfl, HB.out⟩

set_option maxRecDepth 100000 in
set_option maxHeartbeats 4000000 in
theorem implThreshold_any (a : Option Addr) (n cap : Nat) (f : Nat → Int) (hl : n ≤ 1048576) (w : World) (h : Px a n f w) :
    Calls Try.prog 6 #[.slice a n cap] w fun e w' => e = .returned (.tuple #[.int .i64 (thrI n f), .bool (thrF n f)]) ∧ Below w.heap.size w w' := by
  have c := isHistogram_any a n cap f hl w h
  unfold thrI thrF
  cases hq : hisB n f
  · rw [hq] at c
    clear hq h
    go_enter Try.func6, Try.ntmps6
    go_wp2_with fail
    refine c.mono ?_
    rintro e w1 ⟨rfl, hb⟩
    go_wp2_with fail
    exact bodyPost_ret (v := .tuple #[.int .i64 0, .bool false]) (by simp [results, Try.results6, go_sem]) rfl ⟨rfl, hb⟩
  rw [hq] at c
  obtain ⟨rfl, hH⟩ := hisB_parts hq
  have HH := hide hH
  have HP := hide h
  rw [if_pos rfl, if_pos rfl]
  clear hq h hH
  go_enter Try.func6, Try.ntmps6
  go_wp2_with fail
  refine c.mono ?_
  rintro e w1 ⟨rfl, hb⟩
  have HS1 : Hid (St w [(w1.heap.size, [.int .i64 (tI (thr f 0)), .int .i64 (lI (thr f 0))])] [] (w1.alloc (.cells #[.int .i64 0, .int .i64 0] 39))) := ((St.start w).next hb).box [.int .i64 0, .int .i64 0] 39
  clear c hb
  go_wp2_with fail
  go_loopw [4, 5, 14] (fun x y i wr => ∃ k : Nat, k ≤ 255 ∧ i = .int .i64 k ∧ x = .int .i64 (bI (thr f k)) ∧ y = .bool (fI (thr f k)) ∧ St w [(w1.heap.size, [.int .i64 (tI (thr f k)), .int .i64 (lI (thr f k))])] [] wr) (fun _ _ i _ => 255 - (intOf i).toNat)
  case atStart => exact ⟨0, by omega, rfl, rfl, rfl, HS1.out⟩
  case round =>
    obtain ⟨k, hk, rfl, rfl, rfl, hs⟩ := hrel
    have HS := hide hs
    clear hs HS1
    by_cases hlt : k < 255
    · have c1 := fun w' h => partOf_any a cap f HH.out.at' 0 k (by omega) (by omega) w' h
      have c2 := fun w' h => partOf_any a cap f HH.out.at' (k + 1) 255 (by omega) (by omega) w' h
      have e1 : sm f (k + 1) - sm f 0 = nlo f k := Int.sub_zero _
      have e2 : sto f (k + 1) - sto f 0 = slo f k := Int.sub_zero _
      have e3 : sm f (255 + 1) - sm f (k + 1) = nhi f k := rfl
      have e4 : sto f (255 + 1) - sto f (k + 1) = shi f k := rfl
      rw [e1, e2] at c1
      rw [e3, e4] at c2
      have hc1 : ((k : Int) + 1) = ((k + 1 : Nat) : Int) := by omega
      rw [← hc1] at c2
      clear e1 e2 e3 e4 hc1
      obtain ⟨ma, mb', mc, md, me⟩ := HH.out.more hlt
      have ok := thr_ok HH.out k hk
      by_cases hg : goodT f k
      case neg =>
        have HN := hide (thr_skip hg)
        have cW := fun w' => worthBad_any (nlo f k) (slo f k) (nhi f k) (shi f k) (by unfold goodT at hg; omega) w'
        clear ma mb' mc md me hg ok
        generalize nlo f k = n0 at *
        generalize slo f k = s0 at *
        generalize nhi f k = n1 at *
        generalize shi f k = s1 at *
        go_wp2_with fail
        refine (c1 _ (HP.out.below HS.out.below)).mono ?_
        rintro e w2 ⟨rfl, hb⟩
        have HS2 := hide (HS.out.next hb)
        clear hb c1
        go_wp2_with fail
        refine (c2 _ (HP.out.below HS2.out.below)).mono ?_
        rintro e w3 ⟨rfl, hb⟩
        have HS3 := hide (HS2.out.next hb)
        clear hb c2 HS2
        go_wp2_with fail
        refine (cW _).mono ?_
        rintro e w4 ⟨rfl, hb⟩
        have HS4 := hide ((HS3.out.next hb).box [.int .i64 0, .int .i64 0] 39)
        have HS5 := hide (HS4.out.sub (L' := [(w1.heap.size, [.int .i64 (tI (thr f k)), .int .i64 (lI (thr f k))])]) (O' := []) (List.sublist_cons_self ..) (List.Sublist.refl _))
        clear hb cW HS3 HS4
        go_wp2_with fail
        refine ⟨⟨k + 1, by omega, rfl, ?_, ?_, ?_⟩, by simp [intOf]; omega⟩
        · rw [HN.out]
        · rw [HN.out]
        · rw [HN.out]; exact HS5.out
      have lp := lwt_pos HH.out hlt hg
      have cW := fun w' => worthGood_any (nlo f k) (slo f k) (nhi f k) (shi f k) (slo f k * nhi f k) (shi f k * nlo f k) (apt f k) (tpw f k) (lwt f k) hg.1 hg.2 (by rw [IntKind.wrap_i64]; omega) (by rw [IntKind.wrap_i64]; omega) (by show IntKind.i64.wrap (apt f k) = _; rw [IntKind.wrap_i64]; omega) (by show IntKind.i64.wrap (tpw f k) = _; rw [IntKind.wrap_i64]; omega) (by show IntKind.i64.wrap (lwt f k) = _; rw [IntKind.wrap_i64]; omega) w'
      have HT : Hid ((thr f k).best < 0 ∨ aboF (tpw f k) (lwt f k) (thr f k).top (thr f k).low → thr f (k + 1) = ⟨k, tpw f k, lwt f k⟩) := thr_take hg
      by_cases hbest : (thr f k).best < 0
      · have HN := hide (HT.out (.inl hbest))
        have eF : fI (thr f k) = false := by unfold fI; simp [hbest]
        have vt : tI (thr f (k + 1)) = tpw f k := by rw [HN.out]; unfold tI; rw [if_neg (by show ¬ (k : Int) < 0; omega)]
        have vl : lI (thr f (k + 1)) = lwt f k := by rw [HN.out]; unfold lI; rw [if_neg (by show ¬ (k : Int) < 0; omega)]
        have vb : bI (thr f (k + 1)) = k := by rw [HN.out]; unfold bI; rw [if_neg (by show ¬ (k : Int) < 0; omega)]
        have vf : fI (thr f (k + 1)) = true := by rw [HN.out]; unfold fI; simp
        have HV := hide (And.intro vt (And.intro vl (And.intro vb vf)))
        rw [eF]
        clear ma mb' mc md me hg ok lp HT hbest HN eF vt vl vb vf
        generalize bI (thr f k) = x0 at *
        generalize tI (thr f k) = x1 at *
        generalize lI (thr f k) = x2 at *
        generalize nlo f k = n0 at *
        generalize slo f k = s0 at *
        generalize nhi f k = n1 at *
        generalize shi f k = s1 at *
        generalize tpw f k = T at *
        generalize lwt f k = D at *
        go_wp2_with fail
        refine (c1 _ (HP.out.below HS.out.below)).mono ?_
        rintro e w2 ⟨rfl, hb⟩
        have HS2 := hide (HS.out.next hb)
        clear hb c1
        go_wp2_with fail
        refine (c2 _ (HP.out.below HS2.out.below)).mono ?_
        rintro e w3 ⟨rfl, hb⟩
        have HS3 := hide (HS2.out.next hb)
        clear hb c2 HS2
        go_wp2_with fail
        refine (cW _).mono ?_
        rintro e w4 ⟨rfl, hb⟩
        have HS4 := hide ((HS3.out.next hb).box [.int .i64 T, .int .i64 D] 39)
        have HS5 := hide (((St.fill (L1 := [(w4.heap.size, [.int .i64 T, .int .i64 D])]) (St.fill (L1 := [(w4.heap.size, [.int .i64 T, .int .i64 D])]) HS4.out 0 (.int .i64 T)) 1 (.int .i64 D)).drew).sub (L' := [(w1.heap.size, [.int .i64 T, .int .i64 D])]) (O' := []) (List.sublist_cons_self ..) (List.Sublist.refl _))
        have q0 := HS4.out.cell 0 rfl 0 rfl
        have q1 := HS4.out.cell 0 rfl 1 rfl
        have m0 := HS4.out.cell 1 rfl 0 rfl
        have m1 := HS4.out.cell 1 rfl 1 rfl
        have f0 := HS4.out.free 1 rfl 0 rfl
        have f1 := HS4.out.free 1 rfl 1 rfl
        clear hb cW HS3 HS4
        go_upto_region 9 with fail
        go_region
        all_goals
          clear q0 q1 m0 m1 f0 f1
          go_wp2_with fail
          refine ⟨⟨k + 1, by omega, rfl, ?_, ?_, ?_⟩, by simp [intOf]; omega⟩
          · rw [HV.out.2.2.1]
          · rw [HV.out.2.2.2]
          · rw [HV.out.1, HV.out.2.1]; exact HS5.out
      have eF : fI (thr f k) = true := by unfold fI; simp [hbest]
      have eT : tI (thr f k) = (thr f k).top := by unfold tI; rw [if_neg hbest]
      have eL : lI (thr f k) = (thr f k).low := by unfold lI; rw [if_neg hbest]
      have cM := fun w' => isMore_any (tpw f k) (lwt f k) (thr f k).top (thr f k).low md ⟨lp, me.2⟩ ok.2.1 ok.2.2 w'
      rw [← eT, ← eL] at cM
      by_cases hmore : aboF (tpw f k) (lwt f k) (thr f k).top (thr f k).low
      · have HN := hide (HT.out (.inr hmore))
        rw [← eT, ← eL] at hmore
        rw [decide_eq_true hmore] at cM
        have vt : tI (thr f (k + 1)) = tpw f k := by rw [HN.out]; unfold tI; rw [if_neg (by show ¬ (k : Int) < 0; omega)]
        have vl : lI (thr f (k + 1)) = lwt f k := by rw [HN.out]; unfold lI; rw [if_neg (by show ¬ (k : Int) < 0; omega)]
        have vb : bI (thr f (k + 1)) = k := by rw [HN.out]; unfold bI; rw [if_neg (by show ¬ (k : Int) < 0; omega)]
        have vf : fI (thr f (k + 1)) = true := by rw [HN.out]; unfold fI; simp
        have HV := hide (And.intro vt (And.intro vl (And.intro vb vf)))
        rw [eF]
        clear ma mb' mc md me hg ok lp HT hbest HN eF vt vl vb vf eT eL hmore
        generalize bI (thr f k) = x0 at *
        generalize tI (thr f k) = x1 at *
        generalize lI (thr f k) = x2 at *
        generalize nlo f k = n0 at *
        generalize slo f k = s0 at *
        generalize nhi f k = n1 at *
        generalize shi f k = s1 at *
        generalize tpw f k = T at *
        generalize lwt f k = D at *
        go_wp2_with fail
        refine (c1 _ (HP.out.below HS.out.below)).mono ?_
        rintro e w2 ⟨rfl, hb⟩
        have HS2 := hide (HS.out.next hb)
        clear hb c1
        go_wp2_with fail
        refine (c2 _ (HP.out.below HS2.out.below)).mono ?_
        rintro e w3 ⟨rfl, hb⟩
        have HS3 := hide (HS2.out.next hb)
        clear hb c2 HS2
        go_wp2_with fail
        refine (cW _).mono ?_
        rintro e w4 ⟨rfl, hb⟩
        have HS4 := hide ((HS3.out.next hb).box [.int .i64 T, .int .i64 D] 39)
        have m0 := HS4.out.cell 1 rfl 0 rfl
        have m1 := HS4.out.cell 1 rfl 1 rfl
        clear hb cW HS3
        go_wp2_with fail
        refine (cM _).mono ?_
        rintro e w6 ⟨rfl, hb⟩
        have HS6 := hide (HS4.out.next hb)
        have HS5 := hide (((St.fill (L1 := [(w4.heap.size, [.int .i64 T, .int .i64 D])]) (St.fill (L1 := [(w4.heap.size, [.int .i64 T, .int .i64 D])]) HS6.out 0 (.int .i64 T)) 1 (.int .i64 D)).drew).sub (L' := [(w1.heap.size, [.int .i64 T, .int .i64 D])]) (O' := []) (List.sublist_cons_self ..) (List.Sublist.refl _))
        clear m0 m1
        have q0 := HS6.out.cell 0 rfl 0 rfl
        have q1 := HS6.out.cell 0 rfl 1 rfl
        have m0 := HS6.out.cell 1 rfl 0 rfl
        have m1 := HS6.out.cell 1 rfl 1 rfl
        have f0 := HS6.out.free 1 rfl 0 rfl
        have f1 := HS6.out.free 1 rfl 1 rfl
        clear hb cM HS4 HS6
        go_upto_region 9 with fail
        go_region
        all_goals
          clear q0 q1 m0 m1 f0 f1
          go_wp2_with fail
          refine ⟨⟨k + 1, by omega, rfl, ?_, ?_, ?_⟩, by simp [intOf]; omega⟩
          · rw [HV.out.2.2.1]
          · rw [HV.out.2.2.2]
          · rw [HV.out.1, HV.out.2.1]; exact HS5.out
      · have HN := hide (thr_keep hbest hmore)
        rw [← eT, ← eL] at hmore
        rw [decide_eq_false hmore] at cM
        rw [eF]
        have HF := hide eF
        clear ma mb' mc md me hg ok lp HT hbest eF eT eL hmore
        generalize nlo f k = n0 at *
        generalize slo f k = s0 at *
        generalize nhi f k = n1 at *
        generalize shi f k = s1 at *
        generalize tpw f k = T at *
        generalize lwt f k = D at *
        go_wp2_with fail
        refine (c1 _ (HP.out.below HS.out.below)).mono ?_
        rintro e w2 ⟨rfl, hb⟩
        have HS2 := hide (HS.out.next hb)
        clear hb c1
        go_wp2_with fail
        refine (c2 _ (HP.out.below HS2.out.below)).mono ?_
        rintro e w3 ⟨rfl, hb⟩
        have HS3 := hide (HS2.out.next hb)
        clear hb c2 HS2
        go_wp2_with fail
        refine (cW _).mono ?_
        rintro e w4 ⟨rfl, hb⟩
        have HS4 := hide ((HS3.out.next hb).box [.int .i64 T, .int .i64 D] 39)
        have m0 := HS4.out.cell 1 rfl 0 rfl
        have m1 := HS4.out.cell 1 rfl 1 rfl
        clear hb cW HS3
        go_wp2_with fail
        refine (cM _).mono ?_
        rintro e w6 ⟨rfl, hb⟩
        have HS5 := hide ((HS4.out.next hb).sub (L' := [(w1.heap.size, [.int .i64 (tI (thr f k)), .int .i64 (lI (thr f k))])]) (O' := []) (List.sublist_cons_self ..) (List.Sublist.refl _))
        clear hb cM HS4 m0 m1
        go_wp2_with fail
        refine ⟨⟨k + 1, by omega, rfl, ?_, ?_, ?_⟩, by simp [intOf]; omega⟩
        · rw [HN.out]
        · rw [HN.out, HF.out]
        · rw [HN.out]; exact HS5.out
    · obtain rfl : k = 255 := by omega
      have HB := hide HS.out.below
      clear HS
      go_wp2_with fail
      exact bodyPost_ret (v := .tuple #[.int .i64 (bI (thr f 255)), .bool (fI (thr f 255))]) (by simp [results, Try.results6, go_sem]) rfl ⟨rfl, HB.out⟩

end Go.Proofs.Ytionmmmmmjjciaa

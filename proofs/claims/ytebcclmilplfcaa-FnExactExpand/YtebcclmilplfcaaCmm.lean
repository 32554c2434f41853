/- The program's Compress. -/
import Derived.Test.YtebcclmilplfcaaCml
namespace Go.Proofs.Ytebcclmilplfcaa
open Go.RowKit

/-- bytes and a flag are answered -/
def LsUF (n : Nat) (s : Nat → Int) (p : Bool) (w : World) (e : Ending) (w' : World) : Prop :=
  ∃ a cap b, e = .returned (.tuple #[.slice a n cap, .bool p]) ∧ OwV a b n (u8V s) w' ∧ (n = 0 ∨ w.heap.size ≤ b) ∧ Below w.heap.size w w'
/-- what Compress answers -/
def CmR (c : Nat) (f : Nat → Int) (n : Nat) (w : World) (e : Ending) (w' : World) : Prop := LsUF (cmL c f n).length (fun k => (cmL c f n).getD k 0) (cmOk c f n) w e w'
theorem CmR.no {c : Nat} {f : Nat → Int} {n : Nat} (h : cmOk c f n = false) (w w' : World) (a : Option Addr) (cap : Nat) (hb : Below w.heap.size w w') : CmR c f n w (.returned (.tuple #[.slice a 0 cap, .bool false])) w' := by
  have h0 : cmL c f n = [] := by unfold cmL; rw [if_neg (by rw [h]; decide)]
  unfold CmR
  rw [h0, h]
  exact ⟨a, cap, 0, rfl, .inl rfl, .inl rfl, hb⟩
/-- the bits that the program writes -/
def cmX (c : Nat) (f : Nat → Int) (n : Nat) : List Int :=
  bb (smL n) ++ (if c = 1 then tlB f 16 n else if c = 2 then bitK (bst f n) 8 ++ rcB f (bst f n) n else if c = 3 then bb (rnL f n n) else bb (stL f n))
theorem cmX_is {c : Nat} {f : Nat → Int} {n : Nat} (h : cmOk c f n = true) : fl (byA (cmX c f n)) (nB (cmX c f n).length) = cmL c f n := by
  unfold cmX cmL cdL
  rw [if_pos h]
  split
  · rw [tlB_16, ← bb_app, fl_bb0 _ ((smL_by n).app (plL_by f n))]
  · split
    · have := bst_le f n
      rw [← List.append_assoc, ← bb_one, ← bb_app, fl_bb _ ((smL_by n).app (isBy_one (by omega) (by omega))), rcB_len, List.append_assoc]
    · split
      · rw [← bb_app, fl_bb0 _ ((smL_by n).app (rnL_by f n n))]
      · rw [← bb_app, fl_bb0 _ ((smL_by n).app (stL_by f n))]
theorem BW.out {p : Nat} {X M : List Int} {w : World} (h : BW p X w) (hM : fl (byA X) (nB X.length) = M) : ∃ v, Bx p [v, .int .i64 X.length] w ∧ ∃ a cap b, v = .slice a M.length cap ∧ OwV a b M.length (u8V fun k => M.getD k 0) w ∧ (M.length = 0 ∨ p + 1 ≤ b) := by
  obtain ⟨v, hx, ho, _, _⟩ := h
  have hl : nB X.length = M.length := by rw [← hM, fl_len]
  rw [hM, hl] at ho
  exact ⟨v, hx, own_u8 ho⟩

set_option maxRecDepth 100000 in
theorem implCompress_any (s : ByteArray) (a : Option Addr) (n cap : Nat) (f : Nat → Int) (hl : n ≤ 1048576) (hcap : n ≤ cap) (w : World) (h : Px a n f w) :
    Calls Try.prog 8 #[.string s, .slice a n cap] w (CmR (cdN s) f n w) := by
  have HP := hide h
  have cN := codecNumber_any s w
  clear h
  cases hT : cmOk (cdN s) f n with
  | false =>
    have HT := hide hT
    by_cases hc : cdN s = 0
    · have e0 : ((cdN s : Nat) : Int) = 0 := by omega
      rw [e0] at cN
      clear HP hT
      go_enter Try.func8, Try.ntmps8
      go_wp2_with fail
      refine cN.mono ?_
      rintro e w1 ⟨rfl, hb1⟩
      have HB1 := hide hb1
      clear cN hb1
      go_wp2_with fail
      go_ret2
      exact CmR.no HT.out _ _ _ _ HB1.out
    · have hton : tonB f n = false := by
        simp only [cmOk, Bool.and_eq_false_iff] at hT
        rcases hT with h1 | h1
        · exact h1
        · simp at h1; exact absurd h1 hc
      have e0 : (((cdN s : Nat) : Int) == 0) = false := by simp; omega
      have cA := fun w' h' => areTones_any a n cap f hl w' h'
      rw [hton] at cA
      clear hT hton
      generalize cdN s = C at *
      go_enter Try.func8, Try.ntmps8
      go_wp2_with fail
      refine cN.mono ?_
      rintro e w1 ⟨rfl, hb1⟩
      have HB1 := hide hb1
      have cA1 := cA w1 (HP.out.below hb1)
      clear cN hb1 cA
      go_wp2_with fail
      refine cA1.mono ?_
      rintro e w2 ⟨rfl, rfl⟩
      clear cA1
      go_wp2_with fail
      go_ret2
      exact CmR.no HT.out _ _ _ _ HB1.out
  | true =>
    have HT := hide hT
    have hton : tonB f n = true := by simp only [cmOk, Bool.and_eq_true] at hT; exact hT.1
    obtain ⟨hn, htn⟩ := tonB_is hton
    have hc0 : cdN s ≠ 0 := by intro e; simp [cmOk, e] at hT
    have hc4 := cdN_le s
    have cA := fun w' h' => areTones_any a n cap f hl w' h'
    rw [hton] at cA
    have hsl := smL_len n (by omega)
    have cQ := fun (w' : World) h' => putSmall_any w'.heap.size [] n (by omega) (by simp; omega) (w'.alloc (.cells #[.slice none 0 0, .int .i64 0] 49)) h'
    have HMX := hide (cmX_is hT)
    have HLE : Hid ((bb (smL n)).length ≤ 24) := by show _ ≤ _; rw [bb_len]; omega
    have c1 := fun p w' hWp hWb h' => putAll_any p (bb (smL n)) a n cap f hl 16 (by omega) (by have := HLE.out; omega) w HP.out hWp w' hWb h'
    have c2 := fun p w' hWp hWb h' => putRice_any p (bb (smL n)) a n cap f hn htn (by have := HLE.out; omega) w HP.out hWp w' hWb h'
    have c3 := fun p w' hWp hWb h' => putRuns_any p (bb (smL n)) a n cap f hcap hn htn (by have := HLE.out; omega) w HP.out hWp w' hWb h'
    have c4 := fun p w' hWp hWb h' => putSteps_any p (bb (smL n)) a n cap f hn htn (by have := HLE.out; omega) w HP.out hWp w' hWb h'
    have e16 : ((16 : Nat) : Int) = 16 := rfl
    rw [e16] at c1
    have HC : Hid (∀ M, M = cmL (cdN s) f n → ∀ e w', LsUF M.length (fun k => M.getD k 0) true w e w' → CmR (cdN s) f n w e w') := by
      rintro M rfl e w' h
      unfold CmR
      rw [HT.out]
      exact h
    generalize cmL (cdN s) f n = ML at *
    clear hT hton htn hsl HLE
    obtain hc | hc | hc | hc : cdN s = 1 ∨ cdN s = 2 ∨ cdN s = 3 ∨ cdN s = 4 := by omega
    · have e0 : ((cdN s : Nat) : Int) = 1 := by omega
      rw [e0] at cN
      unfold cmX at HMX
      simp only [hc, if_true, if_false, Nat.reduceEqDiff] at HMX
      clear c2 c3 c4 hc0 hc4 hc e0
      go_enter Try.func8, Try.ntmps8
      go_wp2_with fail
      refine cN.mono ?_
      rintro e w1 ⟨rfl, hb1⟩
      have HB1 := hide hb1
      have cA1 := cA w1 (HP.out.below hb1)
      have cQ1 := cQ w1 (BW.new w1)
      have HBW : Hid (Below w1.heap.size w1 (w1.alloc (.cells #[.slice none 0 0, .int .i64 0] 49))) := bnew _ _
      clear cN hb1 cA cQ
      go_wp2_with fail
      refine cA1.mono ?_
      rintro e w2 ⟨rfl, rfl⟩
      clear cA1
      go_wp2_with fail
      refine cQ1.mono ?_
      rintro e w3 ⟨rfl, hw3, hb3⟩
      rw [List.nil_append] at hw3
      have HB3 : Hid (Below w.heap.size w w3) := bnext HB1.out (Nat.le_refl _) (HBW.out.trans hb3)
      have c5 := c1 _ w3 HB1.out.size HB3.out hw3
      have HB0 := hide (HBW.out.trans hb3)
      clear cQ1 hw3 hb3 HBW c1
      go_wp2_with fail
      refine c5.mono ?_
      rintro e w4 ⟨rfl, hw4, hb4⟩
      obtain ⟨v, hx, a3, cap3, b3, rfl, ho3, h3⟩ := hw4.out HMX.out
      have i0 := (hx 0 _ rfl).1
      have HR : Hid (CmR (cdN s) f n w (.returned (.tuple #[.slice a3 ML.length cap3, .bool true])) w4) := HC.out _ rfl _ _ ⟨a3, cap3, b3, rfl, ho3, h3.imp id (by have := HB1.out.size; omega), bnext HB1.out (Nat.le_refl _) (HB0.out.trans hb4)⟩
      clear c5 hw4 hb4 hx ho3 h3 HMX HC
      generalize ML.length = NB at *
      go_wp2_with fail
      go_ret2
      exact HR.out
    · have e0 : ((cdN s : Nat) : Int) = 2 := by omega
      rw [e0] at cN
      unfold cmX at HMX
      simp only [hc, if_true, if_false, Nat.reduceEqDiff] at HMX
      clear c1 c3 c4 hc0 hc4 hc e0
      go_enter Try.func8, Try.ntmps8
      go_wp2_with fail
      refine cN.mono ?_
      rintro e w1 ⟨rfl, hb1⟩
      have HB1 := hide hb1
      have cA1 := cA w1 (HP.out.below hb1)
      have cQ1 := cQ w1 (BW.new w1)
      have HBW : Hid (Below w1.heap.size w1 (w1.alloc (.cells #[.slice none 0 0, .int .i64 0] 49))) := bnew _ _
      clear cN hb1 cA cQ
      go_wp2_with fail
      refine cA1.mono ?_
      rintro e w2 ⟨rfl, rfl⟩
      clear cA1
      go_wp2_with fail
      refine cQ1.mono ?_
      rintro e w3 ⟨rfl, hw3, hb3⟩
      rw [List.nil_append] at hw3
      have HB3 : Hid (Below w.heap.size w w3) := bnext HB1.out (Nat.le_refl _) (HBW.out.trans hb3)
      have c5 := c2 _ w3 HB1.out.size HB3.out hw3
      have HB0 := hide (HBW.out.trans hb3)
      clear cQ1 hw3 hb3 HBW c2
      go_wp2_with fail
      refine c5.mono ?_
      rintro e w4 ⟨rfl, hw4, hb4⟩
      rw [List.append_assoc] at hw4
      obtain ⟨v, hx, a3, cap3, b3, rfl, ho3, h3⟩ := hw4.out HMX.out
      have i0 := (hx 0 _ rfl).1
      have HR : Hid (CmR (cdN s) f n w (.returned (.tuple #[.slice a3 ML.length cap3, .bool true])) w4) := HC.out _ rfl _ _ ⟨a3, cap3, b3, rfl, ho3, h3.imp id (by have := HB1.out.size; omega), bnext HB1.out (Nat.le_refl _) (HB0.out.trans hb4)⟩
      clear c5 hw4 hb4 hx ho3 h3 HMX HC
      generalize ML.length = NB at *
      go_wp2_with fail
      go_ret2
      exact HR.out
    · have e0 : ((cdN s : Nat) : Int) = 3 := by omega
      rw [e0] at cN
      unfold cmX at HMX
      simp only [hc, if_true, if_false, Nat.reduceEqDiff] at HMX
      clear c1 c2 c4 hc0 hc4 hc e0
      go_enter Try.func8, Try.ntmps8
      go_wp2_with fail
      refine cN.mono ?_
      rintro e w1 ⟨rfl, hb1⟩
      have HB1 := hide hb1
      have cA1 := cA w1 (HP.out.below hb1)
      have cQ1 := cQ w1 (BW.new w1)
      have HBW : Hid (Below w1.heap.size w1 (w1.alloc (.cells #[.slice none 0 0, .int .i64 0] 49))) := bnew _ _
      clear cN hb1 cA cQ
      go_wp2_with fail
      refine cA1.mono ?_
      rintro e w2 ⟨rfl, rfl⟩
      clear cA1
      go_wp2_with fail
      refine cQ1.mono ?_
      rintro e w3 ⟨rfl, hw3, hb3⟩
      rw [List.nil_append] at hw3
      have HB3 : Hid (Below w.heap.size w w3) := bnext HB1.out (Nat.le_refl _) (HBW.out.trans hb3)
      have c5 := c3 _ w3 HB1.out.size HB3.out hw3
      have HB0 := hide (HBW.out.trans hb3)
      clear cQ1 hw3 hb3 HBW c3
      go_wp2_with fail
      refine c5.mono ?_
      rintro e w4 ⟨rfl, hw4, hb4⟩
      obtain ⟨v, hx, a3, cap3, b3, rfl, ho3, h3⟩ := hw4.out HMX.out
      have i0 := (hx 0 _ rfl).1
      have HR : Hid (CmR (cdN s) f n w (.returned (.tuple #[.slice a3 ML.length cap3, .bool true])) w4) := HC.out _ rfl _ _ ⟨a3, cap3, b3, rfl, ho3, h3.imp id (by have := HB1.out.size; omega), bnext HB1.out (Nat.le_refl _) (HB0.out.trans hb4)⟩
      clear c5 hw4 hb4 hx ho3 h3 HMX HC
      generalize ML.length = NB at *
      go_wp2_with fail
      go_ret2
      exact HR.out
    · have e0 : ((cdN s : Nat) : Int) = 4 := by omega
      rw [e0] at cN
      unfold cmX at HMX
      simp only [hc, if_false, Nat.reduceEqDiff] at HMX
      clear c1 c2 c3 hc0 hc4 hc e0
      go_enter Try.func8, Try.ntmps8
      go_wp2_with fail
      refine cN.mono ?_
      rintro e w1 ⟨rfl, hb1⟩
      have HB1 := hide hb1
      have cA1 := cA w1 (HP.out.below hb1)
      have cQ1 := cQ w1 (BW.new w1)
      have HBW : Hid (Below w1.heap.size w1 (w1.alloc (.cells #[.slice none 0 0, .int .i64 0] 49))) := bnew _ _
      clear cN hb1 cA cQ
      go_wp2_with fail
      refine cA1.mono ?_
      rintro e w2 ⟨rfl, rfl⟩
      clear cA1
      go_wp2_with fail
      refine cQ1.mono ?_
      rintro e w3 ⟨rfl, hw3, hb3⟩
      rw [List.nil_append] at hw3
      have HB3 : Hid (Below w.heap.size w w3) := bnext HB1.out (Nat.le_refl _) (HBW.out.trans hb3)
      have c5 := c4 _ w3 HB1.out.size HB3.out hw3
      have HB0 := hide (HBW.out.trans hb3)
      clear cQ1 hw3 hb3 HBW c4
      go_wp2_with fail
      refine c5.mono ?_
      rintro e w4 ⟨rfl, hw4, hb4⟩
      obtain ⟨v, hx, a3, cap3, b3, rfl, ho3, h3⟩ := hw4.out HMX.out
      have i0 := (hx 0 _ rfl).1
      have HR : Hid (CmR (cdN s) f n w (.returned (.tuple #[.slice a3 ML.length cap3, .bool true])) w4) := HC.out _ rfl _ _ ⟨a3, cap3, b3, rfl, ho3, h3.imp id (by have := HB1.out.size; omega), bnext HB1.out (Nat.le_refl _) (HB0.out.trans hb4)⟩
      clear c5 hw4 hb4 hx ho3 h3 HMX HC
      generalize ML.length = NB at *
      go_wp2_with fail
      go_ret2
      exact HR.out

end Go.Proofs.Ytebcclmilplfcaa

/- The law on Fits, walked. -/
import Derived.Test.YtakoiionehfipaaFts
namespace Go.Proofs.Ytakoiionehfipaa
open Go.RowKit

set_option maxRecDepth 100000 in
set_option maxHeartbeats 4000000 in
theorem fnExactFits_walk (a : Option Addr) (len cap : Nat) (g : Nat → Int) (hl : len ≤ maxLen) (a' : Option Addr) (m cap' : Nat) (lim : Nat → Int) (hl' : m ≤ maxLen) (w : World) (h : Px a (len * 2) g w) (h' : Px a' m lim w) :
    Calls Try.prog 13 #[.slice a len cap, .slice a' m cap'] w fun e w' => e = .returned (.bool true) ∧ Below w.heap.size w w' := by
  unfold maxLen at hl hl'
  have hz := szExpS_any a len cap 1048576 (by omega) (by omega) (by omega)
  have HP := hide h
  have HP' := hide h'
  clear h h'
  by_cases hbig' : (1048576 : Int) < m
  · clear hz hl hl'
    go_enter Try.func13, Try.ntmps13
    go_wp2_with fail
    go_ret
    exact ⟨rfl, Below.refl _ _⟩
  by_cases hbig : (1048576 : Int) < len
  · rw [if_pos hbig] at hz
    clear hbig hl hl'
    go_enter Try.func13, Try.ntmps13
    go_wp2_with fail
    refine (hz _).mono ?_
    rintro e w1 ⟨rfl, rfl⟩
    go_wp2_with fail
    go_ret
    exact ⟨rfl, Below.refl _ _⟩
  rw [if_neg hbig] at hz
  have hL : len ≤ 1048576 := by omega
  have hL' : m ≤ 1048576 := by omega
  have hn : ¬ 1048576 - (len : Int) < 0 := by omega
  have cT := fun w' h => toExpS_any a len cap g hL w' h
  have cU := fun w' h => toInts_any a' m cap' lim hL' w' h
  have cS := fun a1 a2 w' => specFits_any a1 len len g hL a2 m m lim hL' w'
  have cI := fun a1 a2 w' => implFits_any a1 len len g hL a2 m m lim hL' w'
  have cA := fun a1 a2 => eqExpS_any a1 a2 len len len g hL
  have cB := fun a1 a2 => eqInts_b a1 a2 m m m lim hL'
  have cM := fun a' b => markExpS_any a' b len len g hL
  have cM2 := fun a' b => mark_any a' b m m lim (1 + 2 * (len : Int)) (by omega) (by omega) hL'
  unfold FtR at cS cI
  obtain ⟨rN, hr1, hr2⟩ : ∃ r, (ftL len g m lim).length = r * 2 ∧ r ≤ 1048576 := by
    unfold ftL
    split
    · obtain ⟨r, h1, h2⟩ := ft_len g lim len
      exact ⟨r, h1, by omega⟩
    · exact ⟨0, rfl, by omega⟩
  rw [hr1] at cS cI
  clear hr1 hl hl' hbig
  generalize (fun q => (ftL len g m lim).getD q 0) = s at *
  have cE := fun a1 a2 c1 c2 => eqExpS_any a1 a2 rN c1 c2 s hr2
  have cN := fun a' b c1 => markExpS_any a' b rN c1 s hr2
  have cH := fun a' b c1 => heldExpS_any a' b rN c1 hr2
  have q0 : ¬ 1 + 2 * (rN : Int) < 0 := by omega
  have q1 : (1 + 2 * (rN : Int) != 1 + 2 * (rN : Int)) = false := by simp
  have q2 : ¬ 1 + 2 * (len : Int) + (m : Int) < 0 := by omega
  go_enter Try.func13, Try.ntmps13
  go_wp2_with fail
  refine (hz _).mono ?_
  rintro e w0 ⟨rfl, rfl⟩
  clear hz
  go_wp2_with fail
  refine (cT _ HP.out).mono ?_
  rintro e w1 ⟨rfl, hr, hb, hs⟩
  have HS1 := hide ((St.start w0).own hb hr.v (.inr (Nat.le_refl _)))
  clear hr hb hs
  go_wp2_with fail
  refine (cU _ (HP'.out.below HS1.out.below)).mono ?_
  rintro e w1b ⟨rfl, hr, hb, -⟩
  have HS1b := hide (HS1.out.own hb hr.v (.inr (Nat.le_refl _)))
  clear hr hb HS1
  have pA := (HS1b.out.nthO 1 rfl).px
  have pB := (HS1b.out.nthO 0 rfl).px
  go_wp2_with fail
  refine (cS _ _ _ pA pB).mono ?_
  rintro e w2 ⟨a0, c0, b0, r0, hr0, rfl, ho, h1, hb⟩
  obtain rfl : rN = r0 := by omega
  have HS2 := hide (HS1b.out.own hb ho.v h1)
  clear h1 ho hb HS1b pA pB cS hr0
  go_wp2_with fail
  refine (cT _ (HP.out.below HS2.out.below)).mono ?_
  rintro e w3 ⟨rfl, hr, hb, hs⟩
  have HS3 := hide (HS2.out.own hb hr.v (.inr (Nat.le_refl _)))
  generalize hbx : w2.heap.size = bx at *
  clear hr hb hs HS2 hbx
  go_wp2_with fail
  refine (cU _ (HP'.out.below HS3.out.below)).mono ?_
  rintro e w3b ⟨rfl, hr, hb, -⟩
  have HS3b := hide (HS3.out.own hb hr.v (.inr (Nat.le_refl _)))
  generalize hbx : w3.heap.size = by' at *
  clear hr hb HS3 hbx
  have pA := (HS3b.out.nthO 1 rfl).px
  have pB := (HS3b.out.nthO 0 rfl).px
  go_wp2_with fail
  refine (cI _ _ _ pA pB).mono ?_
  rintro e w4 ⟨a9, c9, b9, r9, hr9, rfl, ho, h1, hb⟩
  obtain rfl : rN = r9 := by omega
  have HS4 := hide (HS3b.out.own hb ho.v h1)
  clear h1 ho hb HS3b pA pB hr9
  have pA := (HS4.out.nthO 0 rfl).px
  have pB := (HS4.out.nthO 3 rfl).px
  go_wp2_with fail
  refine (cE _ _ _ _ _ pA pB).mono ?_
  rintro e w5 ⟨rfl, hb⟩
  have HS5 := hide (HS4.out.next hb)
  clear HS4 hb pA pB
  go_wp2_with fail
  refine (cT _ (HP.out.below HS5.out.below)).mono ?_
  rintro e w6 ⟨rfl, hr, hb, hs⟩
  have pB := hr.px
  have HS6 := hide (HS5.out.next hb)
  have pA := (HS6.out.nthO 2 rfl).px
  clear hr hb hs HS5
  go_wp2_with fail
  refine (cA _ _ _ pA pB).mono ?_
  rintro e w7 ⟨rfl, hb⟩
  have HS7 := hide (HS6.out.next hb)
  clear HS6 hb pA pB
  go_wp2_with fail
  refine (cU _ (HP'.out.below HS7.out.below)).mono ?_
  rintro e w7b ⟨rfl, hr, hb, -⟩
  have pB := hr.px
  have HS7b := hide (HS7.out.next hb)
  have pA := (HS7b.out.nthO 1 rfl).px
  clear hr hb HS7
  go_wp2_with fail
  refine (cB _ _ _ pA pB).mono ?_
  rintro e w7c ⟨rfl, hb⟩
  have HS7c := hide (HS7b.out.next hb)
  clear HS7b hb pA pB
  go_wp2_with fail
  refine (cM _ _ _ (HS7c.out.nthO 2 rfl).bk.i).mono ?_
  rintro e w8 ⟨rfl, ho, hk⟩
  have HS8 := hide (HS7c.out.mark (O1 := [_, _]) hk ho.v)
  clear HS7c hk ho cM
  go_wp2_with fail
  refine (cM2 _ _ _ (HS8.out.nthO 1 rfl).bk.i).mono ?_
  rintro e w8b ⟨rfl, ho, hk, -⟩
  have HS8b := hide (HS8.out.mark (O1 := [_]) hk ho.v)
  clear HS8 hk ho cM2
  have pA := (HS8b.out.nthO 0 rfl).px
  have pB := (HS8b.out.nthO 3 rfl).px
  go_wp2_with fail
  refine (cE _ _ _ _ _ pA pB).mono ?_
  rintro e w9 ⟨rfl, hb⟩
  have HS9 := hide (HS8b.out.next hb)
  clear HS8b hb pA pB
  go_wp2_with fail
  refine (cN _ _ _ _ (HS9.out.nthO 0 rfl).bk.i).mono ?_
  rintro e w10 ⟨rfl, ho, hk⟩
  have HS10 := hide (HS9.out.mark (O1 := []) hk ho.v)
  clear HS9 ho hk
  go_wp2_with fail
  refine (cH _ _ _ _ (HS10.out.nthO 0 rfl).i).mono ?_
  rintro e w11 ⟨rfl, rfl⟩
  go_wp2_with fail
  refine (cT _ (HP.out.below HS10.out.below)).mono ?_
  rintro e w12 ⟨rfl, hr, hb, hs⟩
  have HS12 := hide (HS10.out.own hb hr.v (.inr (Nat.le_refl _)))
  clear hr hb hs HS10
  go_wp2_with fail
  refine (cU _ (HP'.out.below HS12.out.below)).mono ?_
  rintro e w12b ⟨rfl, hr, hb, -⟩
  have HS12b := hide (HS12.out.next hb)
  have pA := (HS12b.out.nthO 0 rfl).px
  have pB := hr.px
  clear hr hb HS12
  go_wp2_with fail
  refine (cI _ _ _ pA pB).mono ?_
  rintro e w13 ⟨a1, c1, b1, r1, hr1, rfl, ho, h1, hb⟩
  obtain rfl : rN = r1 := by omega
  have HS13 := hide (HS12b.out.own hb ho.v h1)
  clear h1 ho hb HS12b pA pB cI cT hr1
  have pA := (HS13.out.nthO 0 rfl).px
  have pB := (HS13.out.nthO 5 rfl).px
  go_wp2_with fail
  refine (cE _ _ _ _ _ pA pB).mono ?_
  rintro e w14 ⟨rfl, hb⟩
  have HS14 := hide (HS13.out.next hb)
  clear HS13 hb pA pB
  go_wp2_with fail
  refine (cH _ _ _ _ (HS14.out.nthO 2 rfl).i).mono ?_
  rintro e w15 ⟨rfl, rfl⟩
  have HB := hide HS14.out.below
  clear HS14
  go_wp2_with fail
  go_ret
  exact ⟨rfl, HB.out⟩

end Go.Proofs.Ytakoiionehfipaa

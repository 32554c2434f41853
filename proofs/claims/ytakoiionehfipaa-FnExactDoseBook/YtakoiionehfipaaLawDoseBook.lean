/- The law on DoseBook, walked. -/
import Derived.Test.YtakoiionehfipaaDoi
namespace Go.Proofs.Ytakoiionehfipaa
open Go.RowKit

set_option maxRecDepth 100000 in
set_option maxHeartbeats 4000000 in
theorem fnExactDoseBook_walk (a : Option Addr) (len cap : Nat) (g : Nat → Int) (hl : len ≤ maxLen) (w : World) (h : Px a (len * 2) g w) :
    Calls Try.prog 12 #[.slice a len cap] w fun e w' => e = .returned (.bool true) ∧ Below w.heap.size w w' := by
  unfold maxLen at hl
  have hz := szExpS_any a len cap 1048576 (by omega) (by omega) (by omega)
  have HP := hide h
  clear h
  by_cases hbig : (1048576 : Int) < len
  · rw [if_pos hbig] at hz
    clear hbig hl
    go_enter Try.func12, Try.ntmps12
    go_wp2_with fail
    refine (hz _).mono ?_
    rintro e w1 ⟨rfl, rfl⟩
    go_wp2_with fail
    go_ret
    exact ⟨rfl, Below.refl _ _⟩
  rw [if_neg hbig] at hz
  have hL : len ≤ 1048576 := by omega
  have hn : ¬ 1048576 - (len : Int) < 0 := by omega
  have cT := fun w' h => toExpS_any a len cap g hL w' h
  have cS := fun a' w' => specDoseBook_any a' len len g hL w'
  have cI := fun a' w' => implDoseBook_any a' len len g hL w'
  have cA := fun a1 a2 => eqExpS_any a1 a2 len len len g hL
  have cM := fun a' b => markExpS_any a' b len len g hL
  unfold LsRI at cS cI
  have hrn : dbN len g ≤ 1048576 := by
    unfold dbN
    split <;> omega
  clear hl hbig
  generalize dbN len g = rN at *
  generalize dbC len g = rC at *
  generalize bkF g len = s at *
  have qc : (rC != rC) = false := by simp
  have cE := fun a1 a2 c1 c2 => eqInts_b a1 a2 rN c1 c2 s hrn
  have cN := fun a' b c1 => mark_any a' b rN c1 s 1 (by omega) (by omega) hrn
  have cH := fun a' b c1 => held_any a' b rN c1 1 (by omega) (by omega) hrn
  have q0 : ¬ 1 + (rN : Int) < 0 := by omega
  have q1 : (1 + (rN : Int) != 1 + (rN : Int)) = false := by simp
  have q2 : ¬ 1 + 2 * (len : Int) < 0 := by omega
  go_enter Try.func12, Try.ntmps12
  go_wp2_with fail
  refine (hz _).mono ?_
  rintro e w0 ⟨rfl, rfl⟩
  clear hz
  go_wp2_with fail
  refine (cT _ HP.out).mono ?_
  rintro e w1 ⟨rfl, hr, hb, hs⟩
  have HS1 := hide ((St.start w0).own hb hr.v (.inr (Nat.le_refl _)))
  clear hr hb hs
  have pA := (HS1.out.nthO 0 rfl).px
  go_wp2_with fail
  refine (cS _ _ pA).mono ?_
  rintro e w2 ⟨a0, c0, b0, rfl, ho, h1, hb⟩
  have HS2 := hide (HS1.out.own hb ho.v h1)
  clear h1 ho hb HS1 pA cS
  go_wp2_with fail
  refine (cT _ (HP.out.below HS2.out.below)).mono ?_
  rintro e w3 ⟨rfl, hr, hb, hs⟩
  have HS3 := hide (HS2.out.own hb hr.v (.inr (Nat.le_refl _)))
  generalize hbx : w2.heap.size = bx at *
  clear hr hb hs HS2 hbx
  have pA := (HS3.out.nthO 0 rfl).px
  go_wp2_with fail
  refine (cI _ _ pA).mono ?_
  rintro e w4 ⟨a9, c9, b9, rfl, ho, h1, hb⟩
  have HS4 := hide (HS3.out.own hb ho.v h1)
  clear h1 ho hb HS3 pA
  have pA := (HS4.out.nthO 0 rfl).px
  have pB := (HS4.out.nthO 2 rfl).px
  go_wp2_with fail
  refine (cE _ _ _ _ _ pA pB).mono ?_
  rintro e w5 ⟨rfl, hb⟩
  have HS5 := hide (HS4.out.next hb)
  clear HS4 hb pA pB
  go_wp2_with fail
  refine (cT _ (HP.out.below HS5.out.below)).mono ?_
  rintro e w6 ⟨rfl, hr, hb, hs⟩
  have pB := hr.px
  have HS6 := hide (HS5.out.next hb)
  have pA := (HS6.out.nthO 1 rfl).px
  clear hr hb hs HS5
  go_wp2_with fail
  refine (cA _ _ _ pA pB).mono ?_
  rintro e w7 ⟨rfl, hb⟩
  have HS7 := hide (HS6.out.next hb)
  clear HS6 hb pA pB
  go_wp2_with fail
  refine (cM _ _ _ (HS7.out.nthO 1 rfl).bk.i).mono ?_
  rintro e w8 ⟨rfl, ho, hk⟩
  have HS8 := hide (HS7.out.mark (O1 := [_]) hk ho.v)
  clear HS7 hk ho cM
  have pA := (HS8.out.nthO 0 rfl).px
  have pB := (HS8.out.nthO 2 rfl).px
  go_wp2_with fail
  refine (cE _ _ _ _ _ pA pB).mono ?_
  rintro e w9 ⟨rfl, hb⟩
  have HS9 := hide (HS8.out.next hb)
  clear HS8 hb pA pB
  go_wp2_with fail
  refine (cN _ _ _ _ (HS9.out.nthO 0 rfl).bk.i).mono ?_
  rintro e w10 ⟨rfl, ho, hk, -⟩
  have HS10 := hide (HS9.out.mark (O1 := []) hk ho.v)
  clear HS9 ho hk
  go_wp2_with fail
  refine (cH _ _ _ _ (HS10.out.nthO 0 rfl).i).mono ?_
  rintro e w11 ⟨rfl, rfl⟩
  go_wp2_with fail
  refine (cT _ (HP.out.below HS10.out.below)).mono ?_
  rintro e w12 ⟨rfl, hr, hb, hs⟩
  have HS12 := hide (HS10.out.next hb)
  have pA := hr.px
  clear hr hb hs HS10
  go_wp2_with fail
  refine (cI _ _ pA).mono ?_
  rintro e w13 ⟨a1, c1, b1, rfl, ho, h1, hb⟩
  have HS13 := hide (HS12.out.own hb ho.v h1)
  clear h1 ho hb HS12 pA cI cT
  have pA := (HS13.out.nthO 0 rfl).px
  have pB := (HS13.out.nthO 3 rfl).px
  go_wp2_with fail
  refine (cE _ _ _ _ _ pA pB).mono ?_
  rintro e w14 ⟨rfl, hb⟩
  have HS14 := hide (HS13.out.next hb)
  clear HS13 hb pA pB
  go_wp2_with fail
  refine (cH _ _ _ _ (HS14.out.nthO 1 rfl).i).mono ?_
  rintro e w15 ⟨rfl, rfl⟩
  have HB := hide HS14.out.below
  clear HS14
  go_wp2_with fail
  go_ret
  exact ⟨rfl, HB.out⟩

end Go.Proofs.Ytakoiionehfipaa

/- The law on SeqOk, walked. -/
import Derived.Test.YtbfpfpoodoflpaaDoorSok
namespace Go.Proofs.YtbfpfpoodoflpaaDoor
open Go.RowKit

set_option maxHeartbeats 1000000 in
theorem fnExactSeqOk_walk (a : Option Addr) (len cap : Nat) (g : Nat → Int) (hl : len ≤ maxLen) (w : World) (h : Px a (len * 4) g w) (hF : Frm w) :
    Calls Tryd.prog 7 #[.slice a len cap] w fun e w' => e = .returned (.bool true) ∧ Below w.heap.size w w' := by
  have hl' : (len : Int) ≤ 9223372036854775807 := by unfold maxLen at hl; omega
  have cZ := szPulseS_any a len cap 1048576 (by omega) (by omega) hl'
  clear hl
  by_cases hbig : (1048576 : Int) < len
  · rw [if_pos hbig] at cZ
    clear h hF hbig hl'
    go_enter Tryd.func7, Tryd.ntmps7
    go_wp2_with fail
    refine (cZ _).mono ?_
    rintro e w' ⟨rfl, rfl⟩
    go_wp2_with fail
    go_ret
    exact ⟨rfl, Below.refl _ _⟩
  rw [if_neg hbig] at cZ
  have hL : len ≤ 1048576 := by omega
  have hpos : ¬ (1048576 : Int) - len < 0 := by omega
  have HP : Hid (Px a (len * 4) g w) := h
  have HF := hide hF
  have cT := toPulseS_any a len cap g hL
  have cS := fun a' => specSeq_any a' len len g hL
  have cI := fun a' => implSeq_any a' len len g hL
  have cE := fun a1 a2 => eqPulseS_any a1 a2 len len len g hL
  clear h hF hbig hl'
  generalize seqB g len = r at *
  have hrr : (r != r) = false := by simp
  go_enter Tryd.func7, Tryd.ntmps7
  go_wp2_with fail
  refine (cZ _).mono ?_
  rintro e w' ⟨rfl, rfl⟩
  clear cZ
  go_wp2_with fail
  refine (cT _ HP.out).mono ?_
  rintro e w1 ⟨rfl, hr, hb, hs⟩
  have HB1 := hide hb
  have pA := hr.px
  clear hr hb hs
  go_wp2_with fail
  refine (cS _ _ pA).mono ?_
  rintro e w2 ⟨rfl, hb⟩
  have HB2 := hide (bnext HB1.out (Nat.le_refl _) hb)
  clear hb HB1 pA cS
  go_wp2_with fail
  refine (cT _ (HP.out.below HB2.out)).mono ?_
  rintro e w3 ⟨rfl, hr, hb, hs⟩
  have HB3 := hide (bnext HB2.out (Nat.le_refl _) hb)
  have HR3 := hide hr
  have pA := hr.px
  have fA := HF.out.below HB3.out
  clear hr hb HB2
  go_wp2_with fail
  refine (cI _ _ pA fA).mono ?_
  rintro e w4 ⟨rfl, hb⟩
  have HB4 := hide (bnext HB3.out (Nat.le_refl _) hb)
  have HR4 := hide (HR3.out.below hb hs)
  have hs4 := Nat.lt_of_lt_of_le hs hb.size
  clear hb HB3 HR3 pA cI hs fA HF
  go_wp2_with fail
  refine (cT _ (HP.out.below HB4.out)).mono ?_
  rintro e w5 ⟨rfl, hr, hb, hs⟩
  have HB5 := hide (bnext HB4.out (Nat.le_refl _) hb)
  have pA := (HR4.out.below hb hs4).px
  have pB := hr.px
  clear hr hb HB4 HR4 cT hs
  go_wp2_with fail
  refine (cE _ _ _ pA pB).mono ?_
  rintro e w6 ⟨rfl, hb⟩
  have HB6 := hide (bnext HB5.out (Nat.le_refl _) hb)
  clear hb HB5 pA pB cE
  go_wp2_with fail
  go_ret
  exact ⟨rfl, HB6.out⟩

end Go.Proofs.YtbfpfpoodoflpaaDoor

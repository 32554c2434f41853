/- The law on Blend, walked. -/
import Derived.Test.YtfgjooddolnifaaBlk
namespace Go.Proofs.Ytfgjooddolnifaa
open Ieee Go.RowKit

theorem blN_le (m : Nat) (ln : Nat → Nat) : blN m ln ≤ 1048576 := by
  unfold blN
  split
  · rename_i h
    unfold canB at h
    rw [Bool.and_eq_true, Bool.and_eq_true, decide_eq_true_iff] at h
    have := h.2.1
    omega
  · omega

set_option maxRecDepth 100000 in
set_option maxHeartbeats 1000000 in
theorem fnExactBlend_walk (a : Option Addr) (m cap : Nat) (ad : Nat → Option Addr) (ln cp : Nat → Nat) (F : Nat → Nat → Nat) (hm : m ≤ maxLen) (hl : ∀ i, ln i ≤ maxLen) (w : World) (h : PxS a m ad ln cp F w) :
    Calls Try.prog 5 #[.slice a m cap] w fun e w' => e = .returned (.bool true) ∧ Below w.heap.size w w' := by
  have hz := szCxSS_any a m cap ad ln cp hm hl
  have HP := hide h
  clear h hm hl
  go_enter Try.func5, Try.ntmps5
  go_wp2_with fail
  refine (hz _ HP.out.1).mono ?_
  rintro e wz ⟨rfl, v, rfl, hv | ⟨hv, hsum⟩⟩
  · clear hz HP
    go_wp2_with fail
    go_ret
    exact ⟨rfl, Below.refl _ _⟩
  have hv' : ¬ v < 0 := by omega
  have hL : m ≤ 1048576 := by omega
  have hl : ∀ i, i < m → ln i ≤ 1048576 := fun i hi => by
    have := sumN_le (ln := ln) hi
    omega
  have cT := fun w' h => toCxSS_any a m cap ad ln cp F hL hl w' h
  have cS := fun a' ad' w' h => specBlend_any a' m m ad' ln ln F hL w' h
  have cI := fun a' ad' w' h => implBlend_any a' m m ad' ln ln F hL w' h
  have cA := fun a1 a2 ad1 ad2 => eqCxSS_any a1 a2 m m m ad1 ad2 ln ln ln F hL hl
  have cM := fun o B s0 s1 w' h => markCxSS_any o B m ln F s0 s1 hsum w' h
  unfold LsP at cS cI
  have hrn : blN m ln ≤ 1048576 := blN_le m ln
  have hP : ∀ k r r', blP F m k r → blP F m k r' → same r r' := fun k r r' h1 h2 => blP_same h1 h2
  have cE := fun a1 a2 c1 c2 F1 G1 hs => eqFloats_any a1 a2 (blN m ln) c1 c2 F1 G1 hrn hs
  have cN := fun a' b c1 F1 => markFloats_any a' b (blN m ln) c1 F1 1 (by omega) (by omega) hrn
  have cH := fun a' b c1 => heldFloats_any a' b (blN m ln) c1 1 (by omega) (by omega) hrn
  have q0 : ¬ 1 + ((blN m ln : Nat) : Int) < 0 := by omega
  have q1 : (1 + ((blN m ln : Nat) : Int) != 1 + ((blN m ln : Nat) : Int)) = false := by simp
  have q2 : ¬ 1 + (sumN ln m : Int) * 2 < 0 := by omega
  generalize sumN ln m = SN at *
  generalize blP F m = P at *
  generalize blN m ln = rC at *
  have HL := hide hl
  clear hz hsum hl hv
  go_wp2_with fail
  refine (cT _ HP.out).mono ?_
  rintro e w1 ⟨rfl, hb, B1, hx⟩
  have HB1 := hide hb
  have pA := hx.pxs
  have HS1 := hide ((St.start wz).next hb)
  clear hb hx
  go_wp2_with fail
  refine (cS _ _ _ pA).mono ?_
  rintro e w2 ⟨a0, c0, b0, r0, rfl, ho, h1, hb, hp0⟩
  have HS2 := hide (HS1.out.own hb ho h1)
  have L0 : Hid (rC = 0 ∨ b0 < w2.heap.size) := by
    by_cases h0 : rC = 0
    · exact .inl h0
    · exact .inr (ho.lt h0)
  have HP0 := hide hp0
  clear h1 ho hb HS1 pA cS hp0 HB1
  go_wp2_with fail
  refine (cT _ (HP.out.below HS2.out.below)).mono ?_
  rintro e w3 ⟨rfl, hb, B3, hx⟩
  have HX3 := hide hx
  have HS3 := hide (HS2.out.next hb)
  have L2 : Hid (wz.heap.size ≤ w2.heap.size) := HS2.out.below.size
  generalize w2.heap.size = s0 at *
  have pA := hx.pxs
  clear hb hx HS2
  go_wp2_with fail
  refine (cI _ _ _ pA).mono ?_
  rintro e w4 ⟨a9, c9, b9, r9, rfl, ho, h1, hb, hp9⟩
  have HS4 := hide (HS3.out.own hb ho h1)
  have HX4 := hide (HX3.out.below hb)
  have L9 := hide h1
  have HR9 := hide (fun k hk => hP k _ _ (hp9 k hk) (HP0.out k hk))
  generalize w3.heap.size = s1 at *
  clear h1 ho hb HS3 HX3 pA hp9
  have pA := (HS4.out.nthO 0 rfl).pxv
  have pB := (HS4.out.nthO 1 rfl).pxv
  go_wp2_with fail
  refine (cE _ _ _ _ _ _ HR9.out _ pA pB).mono ?_
  rintro e w5 ⟨rfl, hb⟩
  have HS5 := hide (HS4.out.next hb)
  have HX5 := hide (HX4.out.below hb)
  clear HS4 HX4 hb pA pB
  go_wp2_with fail
  refine (cT _ (HP.out.below HS5.out.below)).mono ?_
  rintro e w6 ⟨rfl, hb, B6, hx⟩
  have pB := hx.pxs
  have HS6 := hide (HS5.out.next hb)
  have HX6 := hide (HX5.out.below hb)
  have pA := HX6.out.pxs
  clear hb hx HS5 HX5
  go_wp2_with fail
  refine (cA _ _ _ _ _ pA pB).mono ?_
  rintro e w7 ⟨rfl, hb⟩
  have HS7 := hide (HS6.out.next hb)
  have HX7 := hide (HX6.out.below hb)
  clear HS6 HX6 hb pA pB
  go_wp2_with fail
  refine (cM _ _ _ _ _ HX7.out).mono ?_
  rintro e w8 ⟨rfl, hk⟩
  have HS8 := hide (HS7.out.keptR hk L2.out (fun x hx => by
    rcases List.mem_cons.1 hx with rfl | hx
    · rcases L9.out with h | h
      · exact .inl h
      · exact .inr (.inr h)
    · rcases List.mem_cons.1 hx with rfl | hx
      · rcases L0.out with h | h
        · exact .inl h
        · exact .inr (.inl h)
      · cases hx))
  clear HS7 HX7 hk cM L0 L2 L9
  have pA := (HS8.out.nthO 0 rfl).pxv
  have pB := (HS8.out.nthO 1 rfl).pxv
  go_wp2_with fail
  refine (cE _ _ _ _ _ _ HR9.out _ pA pB).mono ?_
  rintro e w9 ⟨rfl, hb⟩
  have HS9 := hide (HS8.out.next hb)
  clear HS8 hb pA pB HR9
  go_wp2_with fail
  refine (cN _ _ _ _ _ (HS9.out.nthO 0 rfl).bk).mono ?_
  rintro e w10 ⟨rfl, ho, hk⟩
  have HS10 := hide (HS9.out.mark (O1 := []) hk ho)
  clear HS9 ho hk
  go_wp2_with fail
  refine (cH _ _ _ _ (HS10.out.nthO 0 rfl)).mono ?_
  rintro e w11 ⟨rfl, rfl⟩
  go_wp2_with fail
  refine (cT _ (HP.out.below HS10.out.below)).mono ?_
  rintro e w12 ⟨rfl, hb, B12, hx⟩
  have HS12 := hide (HS10.out.next hb)
  have pA := hx.pxs
  clear hx hb HS10
  go_wp2_with fail
  refine (cI _ _ _ pA).mono ?_
  rintro e w13 ⟨a1, c1, b1, r1, rfl, ho, h1, hb, hp1⟩
  have HS13 := hide (HS12.out.own hb ho h1)
  have HR1 := hide (fun k hk => hP k _ _ (hp1 k hk) (HP0.out k hk))
  clear h1 ho hb HS12 pA cI cT hp1
  have pA := (HS13.out.nthO 0 rfl).pxv
  have pB := (HS13.out.nthO 2 rfl).pxv
  go_wp2_with fail
  refine (cE _ _ _ _ _ _ HR1.out _ pA pB).mono ?_
  rintro e w14 ⟨rfl, hb⟩
  have HS14 := hide (HS13.out.next hb)
  clear HS13 hb pA pB
  go_wp2_with fail
  refine (cH _ _ _ _ (HS14.out.nthO 1 rfl)).mono ?_
  rintro e w15 ⟨rfl, rfl⟩
  have HB := hide HS14.out.below
  clear HS14
  go_wp2_with fail
  go_ret
  exact ⟨rfl, HB.out⟩

end Go.Proofs.Ytfgjooddolnifaa

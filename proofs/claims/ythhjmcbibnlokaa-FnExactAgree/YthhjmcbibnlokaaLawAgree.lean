/- The law on Agree, walked. -/
import Derived.Test.YthhjmcbibnlokaaOfd
import Derived.Test.YthhjmcbibnlokaaOfm
namespace Go.Proofs.Ythhjmcbibnlokaa
open Go.RowKit

theorem agN_le (m n : Nat) (h : m ≤ 1048576) : agN m n ≤ 1048576 := by unfold agN; split <;> omega

set_option maxRecDepth 100000 in
set_option maxHeartbeats 4000000 in
theorem fnExactAgree_walk (a : Option Addr) (m cap : Nat) (ad : Nat → Option Addr) (ln cp : Nat → Nat) (F : Nat → Nat → Int) (Bv : Nat → Int) (hm : m ≤ maxLen) (hl : ∀ i, ln i ≤ maxLen) (a' : Option Addr) (n cap' : Nat) (x : Nat → Int) (hn : n ≤ maxLen) (w : World) (h : PxB a m ad ln cp F Bv w) (h' : Px a' n x w) :
    Calls Try.prog 3 #[.slice a m cap, .slice a' n cap'] w fun e w' => e = .returned (.bool true) ∧ Below w.heap.size w w' := by
  have cz := szOfferS_any a m cap ad ln cp F Bv hm hl w h
  have HP := hide h
  have HP' := hide h'
  unfold maxLen at hm hn
  clear h h'
  by_cases hbn : (1048576 : Int) < n
  · clear HP HP' cz hl
    go_enter Try.func3, Try.ntmps3
    go_wp2_with fail
    go_ret
    exact ⟨rfl, Below.refl _ _⟩
  have hn' : n ≤ 1048576 := by omega
  go_enter Try.func3, Try.ntmps3
  go_wp2_with fail
  refine cz.mono ?_
  rintro e w1 ⟨hb1, v, rfl, hv⟩
  have HS1 := hide ((St.start w).next hb1)
  clear cz hb1
  rcases hv with hv | ⟨hv0, hv⟩
  · clear HP HP'
    go_wp2_with fail
    go_ret
    exact ⟨rfl, HS1.out.below⟩
  have hv1 : ¬ v < 0 := by omega
  have hm' : m ≤ 1048576 := by omega
  have HL : Hid (∀ i, i < m → ln i ≤ 1048576) := fun i hi => by have := sumN_le (ln := ln) hi; omega
  have cT := fun w' h => toOfferS_any a m cap ad ln cp F Bv hm' HL.out w' h
  have cU := fun w' h => toInts_any a' n cap' x hn' w' h
  have cS := fun a0 (B0 : Nat → Nat) a1 w' h h' => specAgree_any a0 m m (fun i => some ⟨B0 i, 0, none⟩) ln ln F Bv hm' HL.out a1 n n x hn' w' h h'
  have cI := fun a0 (B0 : Nat → Nat) a1 w' h h' => implAgree_any a0 m m (fun i => some ⟨B0 i, 0, none⟩) ln ln F Bv hm' (Nat.le_refl _) HL.out a1 n n x hn' w' h h'
  have cE := fun a0 a1 (B0 B1 : Nat → Nat) w' h h' => eqOfferS_any a0 a1 m m m (fun i => some ⟨B0 i, 0, none⟩) (fun i => some ⟨B1 i, 0, none⟩) ln ln ln F Bv hm' HL.out w' h h'
  have cF := fun a0 a1 w' h h' => eqInts_b a0 a1 n n n x hn' w' h h'
  have cM := fun o (B0 : Nat → Nat) w' h => markOfferS_any o m m B0 ln F Bv hv w' h
  have hrn : agN m n ≤ 1048576 := agN_le m n hm'
  unfold LsR at cS cI
  generalize agN m n = rN at *
  generalize agF Bv ln F x n = s at *
  have cG := fun a1 a2 c1 c2 => eqInts_b a1 a2 rN c1 c2 s hrn
  have cN := fun a' b c1 => mark_any a' b rN c1 s 1 (by omega) (by omega) hrn
  have cH := fun a' b c1 => held_any a' b rN c1 1 (by omega) (by omega) hrn
  have hsum : 1 + (m : Int) + (sumN ln m : Int) ≤ 1048577 := by omega
  have hsum0 : 0 ≤ 1 + (m : Int) + (sumN ln m : Int) := by omega
  have cM1 := fun a' b => mark_any a' b n n x (1 + (m : Int) + (sumN ln m : Int)) hsum0 (by omega) hn'
  have qm : ¬ 1 + (m : Int) + (sumN ln m : Int) + (n : Int) < 0 := by omega
  have q0 : ¬ 1 + (rN : Int) < 0 := by omega
  have q1 : (1 + (rN : Int) != 1 + (rN : Int)) = false := by simp
  have HSM := hide hv
  clear hv hv0 hm hn hl
  generalize 1 + (m : Int) + (sumN ln m : Int) = SM at *
  go_wp2_with fail
  refine (cT _ (HP.out.below HS1.out.below)).mono ?_
  rintro e w2 ⟨B2, rfl, hp, hb⟩
  have HS2 := hide (HS1.out.next hb)
  have HA := hide hp.px
  clear hp hb HS1
  go_wp2_with fail
  refine (cU _ (HP'.out.below HS2.out.below)).mono ?_
  rintro e w3 ⟨rfl, hr, hb, -⟩
  have HS3 := hide (HS2.out.next hb)
  have HA3 := hide (HA.out.below hb)
  have HX3 := hide hr.px
  clear hr hb HS2 HA
  go_wp2_with fail
  refine (cS _ _ _ _ HA3.out HX3.out).mono ?_
  rintro e w4 ⟨ra4, rc4, rb4, rfl, ho, h1, hb⟩
  have HS4 := hide (HS3.out.own hb ho.v h1)
  have HL4 : Hid (rN = 0 ∨ rb4 < w4.heap.size) := by
    by_cases h0 : rN = 0
    · exact .inl h0
    · exact .inr (ho.v.lt h0)
  clear cS hb ho h1 HS3 HA3 HX3
  go_wp2_with fail
  refine (cT _ (HP.out.below HS4.out.below)).mono ?_
  rintro e w5 ⟨B5, rfl, hp, hb⟩
  have HS5 := hide (HS4.out.next hb)
  have HA5 := hide hp
  have HZ5 : Hid (w4.heap.size < w5.heap.size) := hp.olt
  have HZ5w : Hid (w.heap.size ≤ w4.heap.size) := HS4.out.below.size
  clear hp hb HS4
  go_wp2_with fail
  refine (cU _ (HP'.out.below HS5.out.below)).mono ?_
  rintro e w6 ⟨rfl, hr, hb, -⟩
  have HS6 := hide (HS5.out.own hb hr.v (.inr (Nat.le_refl _)))
  have HA6 := hide (OwO.below HA5.out hb)
  have HZ6 : Hid (w5.heap.size ≤ w6.heap.size) := hb.size
  clear hr hb HS5
  have p1 := (HS6.out.nthO 0 rfl).px
  go_wp2_with fail
  refine (cI _ _ _ _ HA6.out.px p1).mono ?_
  rintro e w7 ⟨ra7, rc7, rb7, rfl, ho, h1, hb⟩
  have HS7 := hide (HS6.out.own hb ho.v h1)
  have HA7 := hide (OwO.below HA6.out hb)
  have HL7 : Hid (rN = 0 ∨ w5.heap.size ≤ rb7) := h1.imp id (fun h => Nat.le_trans HZ6.out h)
  have HLB : Hid (∀ b, blO w4.heap.size m B5 b → w4.heap.size ≤ b ∧ b < w5.heap.size) := fun b hS => by
    rcases hS with rfl | ⟨i, hi, rfl⟩
    · exact ⟨Nat.le_refl _, HZ5.out⟩
    · have := HA5.out.lt i hi; omega
  clear hb ho h1 HS6 HA6 p1 HA5
  have pA := (HS7.out.nthO 0 rfl).px
  have pB := (HS7.out.nthO 2 rfl).px
  go_wp2_with fail
  refine (cG _ _ _ _ _ pA pB).mono ?_
  rintro e w8 ⟨rfl, hb⟩
  have HS8 := hide (HS7.out.next hb)
  have HA8 := hide (OwO.below HA7.out hb)
  clear HS7 hb pA pB HA7
  go_wp2_with fail
  refine (cT _ (HP.out.below HS8.out.below)).mono ?_
  rintro e w9 ⟨B9, rfl, hp, hb⟩
  have HS9 := hide (HS8.out.next hb)
  have HA9 := hide (OwO.below HA8.out hb)
  have HN9 := hide hp.px
  clear hp hb HS8 HA8
  go_wp2_with fail
  refine (cE _ _ _ _ _ HA9.out.px HN9.out).mono ?_
  rintro e w10 ⟨rfl, hb⟩
  have HS10 := hide (HS9.out.next hb)
  have HA10 := hide (OwO.below HA9.out hb)
  clear HS9 hb HA9 HN9 cE
  go_wp2_with fail
  refine (cU _ (HP'.out.below HS10.out.below)).mono ?_
  rintro e w11 ⟨rfl, hr, hb, -⟩
  have pB := hr.px
  have HS11 := hide (HS10.out.next hb)
  have HA11 := hide (OwO.below HA10.out hb)
  clear hr hb HS10 HA10
  have pA := (HS11.out.nthO 1 rfl).px
  go_wp2_with fail
  refine (cF _ _ _ pA pB).mono ?_
  rintro e w12 ⟨rfl, hb⟩
  have HS12 := hide (HS11.out.next hb)
  have HA12 := hide (OwO.below HA11.out hb)
  clear HS11 hb pA pB HA11 cF
  go_wp2_with fail
  refine (cM _ _ _ HA12.out).mono ?_
  rintro e w13 ⟨rfl, hk⟩
  have HS13 := hide (HS12.out.kps hk (fun b hS => Nat.le_trans HZ5w.out (HLB.out b hS).1) (fun b hb hS => by
    have hr := HLB.out b hS
    unfold blocks at hb
    simp only [List.map_nil, List.nil_append, List.mem_map, List.mem_filter] at hb
    obtain ⟨y, ⟨hy, h0⟩, rfl⟩ := hb
    rcases List.mem_cons.1 hy with rfl | hy
    · rcases HL7.out with e | e
      · simp [e] at h0
      · exact absurd hr.2 (by show ¬ rb7 < _; omega)
    rcases List.mem_cons.1 hy with rfl | hy
    · exact absurd hr.2 (by show ¬ w5.heap.size < _; omega)
    rcases List.mem_cons.1 hy with rfl | hy
    · rcases HL4.out with e | e
      · simp [e] at h0
      · exact absurd hr.1 (by show ¬ _ ≤ rb4; omega)
    · cases hy))
  clear HS12 hk HA12 cM HLB HL4 HL7 HZ5 HZ5w HZ6
  go_wp2_with fail
  refine (cM1 _ _ _ (HS13.out.nthO 1 rfl).bk.i).mono ?_
  rintro e w14 ⟨rfl, ho, hk, -⟩
  have HS14 := hide (HS13.out.mark (O1 := [_]) hk ho.v)
  clear HS13 hk ho cM1
  have pA := (HS14.out.nthO 0 rfl).px
  have pB := (HS14.out.nthO 2 rfl).px
  go_wp2_with fail
  refine (cG _ _ _ _ _ pA pB).mono ?_
  rintro e w15 ⟨rfl, hb⟩
  have HS15 := hide (HS14.out.next hb)
  clear HS14 hb pA pB
  go_wp2_with fail
  refine (cN _ _ _ _ (HS15.out.nthO 0 rfl).bk.i).mono ?_
  rintro e w16 ⟨rfl, ho, hk, -⟩
  have HS16 := hide (HS15.out.mark (O1 := []) hk ho.v)
  clear HS15 hk ho cN
  go_wp2_with fail
  refine (cH _ _ _ _ (HS16.out.nthO 0 rfl).i).mono ?_
  rintro e w17 ⟨rfl, rfl⟩
  go_wp2_with fail
  refine (cT _ (HP.out.below HS16.out.below)).mono ?_
  rintro e w18 ⟨B18, rfl, hp, hb⟩
  have HS18 := hide (HS16.out.next hb)
  have HA18 := hide hp.px
  clear hp hb HS16 cT
  go_wp2_with fail
  refine (cU _ (HP'.out.below HS18.out.below)).mono ?_
  rintro e w19 ⟨rfl, hr, hb, -⟩
  have HS19 := hide (HS18.out.next hb)
  have HA19 := hide (HA18.out.below hb)
  have HX19 := hide hr.px
  clear hr hb HS18 HA18 cU
  go_wp2_with fail
  refine (cI _ _ _ _ HA19.out HX19.out).mono ?_
  rintro e w20 ⟨ra8, rc8, rb8, rfl, ho, h1, hb⟩
  have HS20 := hide (HS19.out.own hb ho.v h1)
  clear HS19 hb ho h1 cI HA19 HX19
  have pA := (HS20.out.nthO 0 rfl).px
  have pB := (HS20.out.nthO 3 rfl).px
  go_wp2_with fail
  refine (cG _ _ _ _ _ pA pB).mono ?_
  rintro e w21 ⟨rfl, hb⟩
  have HS21 := hide (HS20.out.next hb)
  clear HS20 hb pA pB
  go_wp2_with fail
  refine (cH _ _ _ _ (HS21.out.nthO 1 rfl).i).mono ?_
  rintro e w22 ⟨rfl, rfl⟩
  have HB := hide HS21.out.below
  clear HS21
  go_wp2_with fail
  go_ret
  exact ⟨rfl, HB.out⟩

end Go.Proofs.Ythhjmcbibnlokaa

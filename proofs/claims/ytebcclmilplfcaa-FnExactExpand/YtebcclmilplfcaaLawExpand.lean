/- The law on Expand, walked. -/
import Derived.Test.YtebcclmilplfcaaXsi
namespace Go.Proofs.Ytebcclmilplfcaa
open Go.RowKit

theorem exT_le (c : Nat) (B : List Int) : (exT c B).length ≤ 1048576 := by
  by_cases he : ∃ T, Vld c (gL T) T.length B
  · unfold exT
    rw [dif_pos he]
    have := he.choose_spec.is.1
    omega
  · unfold exT
    rw [dif_neg he]
    simp

set_option maxRecDepth 100000 in
set_option maxHeartbeats 4000000 in
theorem fnExactExpand_walk (s0 : ByteArray) (a0 : Option Addr) (n0 cap0 : Nat) (f0 : Nat → Int) (hl0 : n0 ≤ maxLen) (hU0 : ∀ k, k < n0 → 0 ≤ f0 k ∧ f0 k ≤ 255) (w : World) (h0 : PxU a0 (n0) f0 w) :
    Calls Try.prog 4 #[.string s0, .slice a0 n0 cap0] w fun e w' => e = .returned (.bool true) ∧ Below w.heap.size w w' := by
  unfold maxLen at hl0
  have HS0 := hide (St.start w)
  have HU0 := hide hU0
  clear hU0
  have HP0 := hide h0
  clear h0
  by_cases hb9 : (1048576 : Int) < s0.size
  · have HB := hide HS0.out.below
    clear hl0
    go_enter Try.func4, Try.ntmps4
    go_wp2_with fail
    go_ret
    exact ⟨rfl, HB.out⟩
  by_cases hb0 : (1048576 : Int) < n0
  · have HB := hide HS0.out.below
    clear hl0
    go_enter Try.func4, Try.ntmps4
    go_wp2_with fail
    go_ret
    exact ⟨rfl, HB.out⟩
  have hL0 : n0 ≤ 1048576 := by omega
  have cT0 := fun w' h => toBytes_any a0 n0 cap0 f0 hL0 w' h
  have cA0 := fun a1 a2 => eqBytes_b a1 a2 n0 n0 n0 f0 hL0
  have cS := fun b0 w' h0 => specExpand_any s0 b0 n0 n0 f0 hL0 HU0.out w' h0
  have cI := fun b0 w' h0 => implExpand_any s0 b0 n0 n0 f0 hL0 HU0.out w' h0
  unfold LsF at cS cI
  have hrn : (exT (cdN s0) (fl f0 n0)).length ≤ 1048576 := exT_le _ _
  have cM0 := fun a' b => markBytes_any a' b n0 n0 (u8V f0) (1) (by omega) (by omega) hL0
  have qm : ¬ 1 + (n0 : Int) < 0 := by omega
  generalize (gL (exT (cdN s0) (fl f0 n0))) = s at *
  generalize (exT (cdN s0) (fl f0 n0)).length = rN at *
  generalize exO (cdN s0) (fl f0 n0) = rB at *
  clear hl0
  have qb : (rB != rB) = false := by simp
  have cE := fun a1 a2 c1 c2 => eqInts_b a1 a2 rN c1 c2 s hrn
  have cN := fun a' b c1 => mark_any a' b rN c1 s 1 (by omega) (by omega) hrn
  have cH := fun a' b c1 => held_any a' b rN c1 1 (by omega) (by omega) hrn
  have q0 : ¬ 1 + (rN : Int) < 0 := by omega
  have q1 : (1 + (rN : Int) != 1 + (rN : Int)) = false := by simp
  go_enter Try.func4, Try.ntmps4
  go_wp2_with fail
  refine (cT0 _ (HP0.out.below HS0.out.below)).mono ?_
  rintro e v1 ⟨rfl, hr, hb, -⟩
  have HS1 := hide (HS0.out.own hb hr.v (.inr (Nat.le_refl _)))
  clear HS0 hb hr
  have p0 := (HS1.out.nthO 0 rfl).pxU
  go_wp2_with fail
  refine (cS _ _ p0).mono ?_
  rintro e v2 ⟨ra2, rc2, rb2, rfl, ho, h1, hb⟩
  have HS2 := hide (HS1.out.own hb ho.v h1)
  clear HS1 hb ho h1 p0  cS
  go_wp2_with fail
  refine (cT0 _ (HP0.out.below HS2.out.below)).mono ?_
  rintro e v3 ⟨rfl, hr, hb, -⟩
  have HS3 := hide (HS2.out.own hb hr.v (.inr (Nat.le_refl _)))
  clear HS2 hb hr
  have p0 := (HS3.out.nthO 0 rfl).pxU
  go_wp2_with fail
  refine (cI _ _ p0).mono ?_
  rintro e v4 ⟨ra4, rc4, rb4, rfl, ho, h1, hb⟩
  have HS4 := hide (HS3.out.own hb ho.v h1)
  clear HS3 hb ho h1 p0
  have pA := (HS4.out.nthO 0 rfl).px
  have pB := (HS4.out.nthO 2 rfl).px
  go_wp2_with fail
  refine (cE _ _ _ _ _ pA pB).mono ?_
  rintro e v5 ⟨rfl, hb⟩
  have HS5 := hide (HS4.out.next hb)
  clear HS4 hb pA pB
  go_wp2_with fail
  refine (cT0 _ (HP0.out.below HS5.out.below)).mono ?_
  rintro e v6 ⟨rfl, hr, hb, -⟩
  have pB := hr.v.pxU
  have HS6 := hide (HS5.out.next hb)
  clear HS5 hb hr
  have pA := (HS6.out.nthO 1 rfl).pxU
  go_wp2_with fail
  refine (cA0 _ _ _ pA pB).mono ?_
  rintro e v7 ⟨rfl, hb⟩
  have HS7 := hide (HS6.out.next hb)
  clear HS6 hb pA pB
  go_wp2_with fail
  refine (cM0 _ _ _ (HS7.out.nthO 1 rfl).bk).mono ?_
  rintro e v8 ⟨rfl, ho, hk, -⟩
  have HS8 := hide (HS7.out.mark (O1 := [_]) hk ho)
  clear HS7 hk ho cM0
  have pA := (HS8.out.nthO 0 rfl).px
  have pB := (HS8.out.nthO 2 rfl).px
  go_wp2_with fail
  refine (cE _ _ _ _ _ pA pB).mono ?_
  rintro e v9 ⟨rfl, hb⟩
  have HS9 := hide (HS8.out.next hb)
  clear HS8 hb pA pB
  go_wp2_with fail
  refine (cN _ _ _ _ (HS9.out.nthO 0 rfl).bk.i).mono ?_
  rintro e v10 ⟨rfl, ho, hk, -⟩
  have HS10 := hide (HS9.out.mark (O1 := []) hk ho.v)
  clear HS9 hk ho
  go_wp2_with fail
  refine (cH _ _ _ _ (HS10.out.nthO 0 rfl).i).mono ?_
  rintro e v11 ⟨rfl, rfl⟩
  go_wp2_with fail
  refine (cT0 _ (HP0.out.below HS10.out.below)).mono ?_
  rintro e v12 ⟨rfl, hr, hb, -⟩
  have HS11 := hide (HS10.out.own hb hr.v (.inr (Nat.le_refl _)))
  clear HS10 hb hr
  have p0 := (HS11.out.nthO 0 rfl).pxU
  go_wp2_with fail
  refine (cI _ _ p0).mono ?_
  rintro e v13 ⟨ra6, rc6, rb6, rfl, ho, h1, hb⟩
  have HS12 := hide (HS11.out.own hb ho.v h1)
  clear HS11 hb ho h1 p0  cI
  have pA := (HS12.out.nthO 0 rfl).px
  have pB := (HS12.out.nthO 4 rfl).px
  go_wp2_with fail
  refine (cE _ _ _ _ _ pA pB).mono ?_
  rintro e v14 ⟨rfl, hb⟩
  have HS13 := hide (HS12.out.next hb)
  clear HS12 hb pA pB
  go_wp2_with fail
  refine (cH _ _ _ _ (HS13.out.nthO 2 rfl).i).mono ?_
  rintro e v15 ⟨rfl, rfl⟩
  have HB := hide HS13.out.below
  clear HS13
  go_wp2_with fail
  go_ret
  exact ⟨rfl, HB.out⟩

end Go.Proofs.Ytebcclmilplfcaa

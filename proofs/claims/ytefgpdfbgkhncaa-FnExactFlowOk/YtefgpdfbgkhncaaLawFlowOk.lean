/- The law on FlowOk, walked. -/
import Derived.Test.YtefgpdfbgkhncaaWfo
import Derived.Test.YtefgpdfbgkhncaaWfs
import Derived.Test.YtefgpdfbgkhncaaFlo
namespace Go.Proofs.Ytefgpdfbgkhncaa
open Go.RowKit

set_option maxRecDepth 100000 in
set_option maxHeartbeats 4000000 in
theorem fnExactFlowOk_walk (C0 : Int) (a0 : Option Addr) (n0 cap0 : Nat) (f0 : Nat → Int) (hl0 : n0 ≤ maxLen) (w : World) (h0 : Px a0 (n0 * 4) f0 w) :
    Calls Try.prog 3 #[vFlow C0 a0 n0 cap0] w fun e w' => e = .returned (.bool true) ∧ Below w.heap.size w w' := by
  unfold maxLen at hl0
  have HS0 := hide ((St.start w).box [.int .i64 C0, .slice a0 n0 cap0] 24)
  have HP0 := hide h0
  clear h0
  have hz0 := szFlow_any C0 a0 n0 cap0 (1048576) (by omega) (by omega) (by omega)
  by_cases hb0 : (1048576 : Int) < n0
  · rw [if_pos hb0] at hz0
    clear hb0 hl0
    go_enter Try.func3, Try.ntmps3
    go_wp2_with fail
    refine (hz0 _).mono ?_
    rintro e wz0 ⟨rfl, hb⟩
    have HZ0 := hide (HS0.out.next hb)
    clear hb
    have HB := hide HZ0.out.below
    go_wp2_with fail
    go_ret
    exact ⟨rfl, HB.out⟩
  rw [if_neg hb0] at hz0
  have hn0 : ¬ (1048576 - (n0 : Int) : Int) < 0 := by omega
  have hL0 : n0 ≤ 1048576 := by omega
  have hN : n0 ≤ 1048576 := by omega
  have cT0 := fun w' h => toFlow_any C0 a0 n0 cap0 f0 hL0 w' h
  have cA0 := fun b b' w' h h' => eqFlow_any C0 (some ⟨b, 0, none⟩) (some ⟨b', 0, none⟩) n0 n0 n0 f0 hL0 w' h h'
  have cS := fun b0 w' h0 => specFlowOk_any C0 b0 n0 n0 f0 hL0 w' h0
  have cI := fun b0 w' h0 => implFlowOk_any C0 b0 n0 n0 f0 hL0 w' h0
  generalize flB C0 f0 n0 = rB at *
  clear hl0 hN
  have qb : (rB != rB) = false := by simp
  go_enter Try.func3, Try.ntmps3
  go_wp2_with fail
  refine (hz0 _).mono ?_
  rintro e v1 ⟨rfl, hb⟩
  have HS1 := hide (HS0.out.next hb)
  clear HS0 hb hz0
  obtain ⟨i0, i1⟩ := HS1.out.im2 0 rfl
  go_wp2_with fail
  refine (cT0 _ (HP0.out.below HS1.out.below)).mono ?_
  rintro e v2 ⟨b1q, rfl, h2, hr, hb⟩
  have HS2 := hide (HS1.out.own hb hr.v (.inr h2))
  clear HS1 hb hr h2 i0 i1
  have p0 := (HS2.out.nthO 0 rfl).px
  go_wp2_with fail
  refine (cS _ _ p0).mono ?_
  rintro e v3 ⟨rfl, hb⟩
  have HS3 := hide (HS2.out.next hb)
  clear HS2 hb p0  cS
  obtain ⟨i0, i1⟩ := HS3.out.im2 0 rfl
  go_wp2_with fail
  refine (cT0 _ (HP0.out.below HS3.out.below)).mono ?_
  rintro e v4 ⟨b3q, rfl, h2, hr, hb⟩
  have HS4 := hide (HS3.out.own hb hr.v (.inr h2))
  clear HS3 hb hr h2 i0 i1
  have HS5 := hide (HS4.out.box [.int .i64 C0, .slice (some ⟨b3q, 0, none⟩) n0 n0] 29)
  generalize hx : World.alloc _ (.cells [.int .i64 C0, .slice (some ⟨b3q, 0, none⟩) n0 n0].toArray 29) = v5 at HS5
  have hy : World.alloc _ (.cells #[.int .i64 C0, .slice (some ⟨b3q, 0, none⟩) n0 n0] 29) = v5 := hx
  clear hx HS4
  obtain ⟨i0, i1⟩ := HS5.out.im2 0 rfl
  have p0 := (HS5.out.nthO 0 rfl).px
  go_wp2_with fail
  refine (cI _ _ p0).mono ?_
  rintro e v6 ⟨rfl, hb⟩
  have HS6 := hide (HS5.out.next hb)
  clear HS5 hb p0 i0 i1
  obtain ⟨i0, i1⟩ := HS6.out.im2 1 rfl
  obtain ⟨j0, j1⟩ := HS6.out.im2 0 rfl
  go_upto_region 10 with fail
  go_region_with (first
    | (go_at_call 8; (with_reducible refine (cT0 _ (HP0.out.below HS6.out.drew.below)).mono ?_); rintro e wq ⟨b3, rfl, -, hr, hb⟩; have HQ := hide (HS6.out.drew.next hb); obtain ⟨k0, k1⟩ := HQ.out.im2 0 rfl)
    | (go_at_call 10; (with_reducible refine (cA0 _ _ _ (HQ.out.nthO 0 rfl).px hr.px).mono ?_); rintro e wp ⟨rfl, hb11⟩))
  all_goals
    have HS7 := hide (HQ.out.next hb11)
    clear hb hr hb11 HQ HS6 k0 k1 i0 i1 j0 j1
    have HB := hide HS7.out.below
    clear HS7
    go_wp2_with fail
    go_ret
    exact ⟨rfl, HB.out⟩

end Go.Proofs.Ytefgpdfbgkhncaa

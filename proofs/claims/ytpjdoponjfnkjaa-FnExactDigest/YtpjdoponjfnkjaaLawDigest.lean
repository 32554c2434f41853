/- The law on Digest, walked. -/
import Derived.Test.YtpjdoponjfnkjaaDgt
namespace Go.Proofs.Ytpjdoponjfnkjaa
open Go.RowKit

set_option maxRecDepth 100000 in
set_option maxHeartbeats 4000000 in
theorem fnExactDigest_walk (a0 : Option Addr) (n0 cap0 : Nat) (f0 : Nat → Int) (hl0 : n0 ≤ maxLen) (hU0 : ∀ k, k < n0 → 0 ≤ f0 k ∧ f0 k ≤ 255) (w : World) (h0 : PxU a0 (n0) f0 w) :
    Calls Try.prog 5 #[.slice a0 n0 cap0] w fun e w' => e = .returned (.bool true) ∧ Below w.heap.size w w' := by
  unfold maxLen at hl0
  have HS0 := hide (St.start w)
  have HU0 := hide hU0
  clear hU0
  have HP0 := hide h0
  clear h0
  by_cases hb0 : (1048576 : Int) < n0
  · have HB := hide HS0.out.below
    clear hl0
    go_enter Try.func5, Try.ntmps5
    go_wp2_with fail
    go_ret
    exact ⟨rfl, HB.out⟩
  have hL0 : n0 ≤ 1048576 := by omega
  have cT0 := fun w' h => toBytes_any a0 n0 cap0 f0 hL0 w' h
  have cA0 := fun a1 a2 => eqBytes_b a1 a2 n0 n0 n0 f0 hL0
  have cS := fun b0 w' h0 => specDigest_any b0 n0 n0 f0 hL0 HU0.out w' h0
  have cI := fun b0 w' h0 => implDigest_any b0 n0 n0 f0 hL0 HU0.out w' h0
  generalize dig f0 n0 n0 = rC at *
  clear hl0
  have qc : (rC != rC) = false := by simp
  go_enter Try.func5, Try.ntmps5
  go_wp2_with fail
  refine (cT0 _ (HP0.out.below HS0.out.below)).mono ?_
  rintro e v1 ⟨rfl, hr, hb, -⟩
  have HS1 := hide (HS0.out.own hb hr.v (.inr (Nat.le_refl _)))
  clear HS0 hb hr
  have p0 := (HS1.out.nthO 0 rfl).pxU
  go_wp2_with fail
  refine (cS _ _ p0).mono ?_
  rintro e v2 ⟨rfl, hb⟩
  have HS2 := hide (HS1.out.next hb)
  clear HS1 hb p0  cS
  go_wp2_with fail
  refine (cT0 _ (HP0.out.below HS2.out.below)).mono ?_
  rintro e v3 ⟨rfl, hr, hb, -⟩
  have HS3 := hide (HS2.out.own hb hr.v (.inr (Nat.le_refl _)))
  clear HS2 hb hr
  have p0 := (HS3.out.nthO 0 rfl).pxU
  go_wp2_with fail
  refine (cI _ _ p0).mono ?_
  rintro e v4 ⟨rfl, hb⟩
  have HS4 := hide (HS3.out.next hb)
  clear HS3 hb p0
  go_wp2_with fail
  refine (cT0 _ (HP0.out.below HS4.out.below)).mono ?_
  rintro e v5 ⟨rfl, hr, hb, -⟩
  have pB := hr.v.pxU
  have HS5 := hide (HS4.out.next hb)
  clear HS4 hb hr
  have pA := (HS5.out.nthO 0 rfl).pxU
  go_wp2_with fail
  refine (cA0 _ _ _ pA pB).mono ?_
  rintro e v6 ⟨rfl, hb⟩
  have HS6 := hide (HS5.out.next hb)
  clear HS5 hb pA pB
  have HB := hide HS6.out.below
  clear HS6
  go_wp2_with fail
  go_ret
  exact ⟨rfl, HB.out⟩

end Go.Proofs.Ytpjdoponjfnkjaa

/- Unfolding: what the specification answers where it can't be. -/
import Derived.Test.YtjjoeojikbbnfaaUnf
namespace Go.Proofs.Ytjjoeojikbbnfaa
open Go.RowKit

set_option maxRecDepth 100000 in
set_option maxHeartbeats 4000000 in
theorem specUnfold_no (W0 H0 : Int) (a0 : Option Addr) (n0 cap0 : Nat) (f0 : Nat → Int) (hl0 : n0 ≤ 1048576) (W1 H1 : Int) (a1 : Option Addr) (n1 cap1 : Nat) (f1 : Nat → Int) (hl1 : n1 ≤ 1048576) (W2 H2 : Int) (a2 : Option Addr) (n2 cap2 : Nat) (f2 : Nat → Int) (hl2 : n2 ≤ 1048576) (W3 H3 : Int) (a3 : Option Addr) (n3 cap3 : Nat) (f3 : Nat → Int) (hl3 : n3 ≤ 1048576) (w : World) (h0 : Px a0 n0 f0 w) (h1 : Px a1 n1 f1 w) (h2 : Px a2 n2 f2 w) (h3 : Px a3 n3 f3 w) (hr : unfB W0 H0 n0 f0 W1 H1 n1 f1 W2 H2 n2 f2 W3 H3 n3 f3 = false) (s : Nat → Int) :
    Calls Try.prog 5 #[im W0 H0 a0 n0 cap0, im W1 H1 a1 n1 cap1, im W2 H2 a2 n2 cap2, im W3 H3 a3 n3 cap3] w (ImRI 0 0 0 s 0 w) := by
  have hA0 := specOk_any W0 H0 a0 n0 cap0 f0 hl0
  have hA1 := specOk_any W1 H1 a1 n1 cap1 f1 hl1
  have hA2 := specOk_any W2 H2 a2 n2 cap2 f2 hl2
  have hA3 := specOk_any W3 H3 a3 n3 cap3 f3 hl3
  have HP0 := hide h0
  have HP1 := hide h1
  have HP2 := hide h2
  have HP3 := hide h3
  have HS0 := hide (St.five w W0 H0 (.slice a0 n0 cap0) W1 H1 (.slice a1 n1 cap1) W2 H2 (.slice a2 n2 cap2) W3 H3 (.slice a3 n3 cap3))
  clear h0 h1 h2 h3
  cases hq0 : okB W0 H0 n0 f0
  · rw [hq0] at hA0
    clear hr hq0 hA1 hA2 hA3
    go_enter Try.func5, Try.ntmps5
    go_wp2_with fail
    refine (hA0 _ (HP0.out.below HS0.out.below)).mono ?_
    rintro e wq0 ⟨rfl, hb⟩
    have HS1 := hide (HS0.out.next hb)
    clear hb HS0 hA0
    obtain ⟨i0, i1, i2⟩ := HS1.out.im3 4 rfl
    obtain ⟨j0, j1, j2⟩ := HS1.out.im3 3 rfl
    obtain ⟨k0, k1, k2⟩ := HS1.out.im3 2 rfl
    obtain ⟨l0, l1, l2⟩ := HS1.out.im3 1 rfl
    obtain ⟨z0, z1, z2⟩ := HS1.out.im3 0 rfl
    obtain ⟨e0, e1, e2⟩ := HS1.out.fr3 0 rfl
    go_wp2_with fail
    exact bodyPost_ret (v := .tuple #[im 0 0 none 0 0, .int .i64 0]) (by simp [results, Try.results5, go_sem, z0, z1, z2]) rfl ((HS1.out.fill3 _ _ _).imNI _)
  rw [hq0] at hA0
  cases hq1 : okB W1 H1 n1 f1
  · rw [hq1] at hA1
    clear hr hq0 hq1 hA2 hA3
    go_enter Try.func5, Try.ntmps5
    go_wp2_with fail
    refine (hA0 _ (HP0.out.below HS0.out.below)).mono ?_
    rintro e wq0 ⟨rfl, hb⟩
    have HS1 := hide (HS0.out.next hb)
    clear hb HS0 hA0
    obtain ⟨i0, i1, i2⟩ := HS1.out.im3 4 rfl
    obtain ⟨j0, j1, j2⟩ := HS1.out.im3 3 rfl
    obtain ⟨k0, k1, k2⟩ := HS1.out.im3 2 rfl
    obtain ⟨l0, l1, l2⟩ := HS1.out.im3 1 rfl
    obtain ⟨z0, z1, z2⟩ := HS1.out.im3 0 rfl
    obtain ⟨e0, e1, e2⟩ := HS1.out.fr3 0 rfl
    go_wp2_with fail
    refine (hA1 _ (HP1.out.below HS1.out.below)).mono ?_
    rintro e wq1 ⟨rfl, hb⟩
    have HS2 := hide (HS1.out.next hb)
    clear hb HS1 hA1 i0 i1 i2 j0 j1 j2 k0 k1 k2 l0 l1 l2 z0 z1 z2 e0 e1 e2
    obtain ⟨i0, i1, i2⟩ := HS2.out.im3 4 rfl
    obtain ⟨j0, j1, j2⟩ := HS2.out.im3 3 rfl
    obtain ⟨k0, k1, k2⟩ := HS2.out.im3 2 rfl
    obtain ⟨l0, l1, l2⟩ := HS2.out.im3 1 rfl
    obtain ⟨z0, z1, z2⟩ := HS2.out.im3 0 rfl
    obtain ⟨e0, e1, e2⟩ := HS2.out.fr3 0 rfl
    go_wp2_with fail
    exact bodyPost_ret (v := .tuple #[im 0 0 none 0 0, .int .i64 0]) (by simp [results, Try.results5, go_sem, z0, z1, z2]) rfl ((HS2.out.fill3 _ _ _).imNI _)
  rw [hq1] at hA1
  cases hq2 : okB W2 H2 n2 f2
  · rw [hq2] at hA2
    clear hr hq0 hq1 hq2 hA3
    go_enter Try.func5, Try.ntmps5
    go_wp2_with fail
    refine (hA0 _ (HP0.out.below HS0.out.below)).mono ?_
    rintro e wq0 ⟨rfl, hb⟩
    have HS1 := hide (HS0.out.next hb)
    clear hb HS0 hA0
    obtain ⟨i0, i1, i2⟩ := HS1.out.im3 4 rfl
    obtain ⟨j0, j1, j2⟩ := HS1.out.im3 3 rfl
    obtain ⟨k0, k1, k2⟩ := HS1.out.im3 2 rfl
    obtain ⟨l0, l1, l2⟩ := HS1.out.im3 1 rfl
    obtain ⟨z0, z1, z2⟩ := HS1.out.im3 0 rfl
    obtain ⟨e0, e1, e2⟩ := HS1.out.fr3 0 rfl
    go_wp2_with fail
    refine (hA1 _ (HP1.out.below HS1.out.below)).mono ?_
    rintro e wq1 ⟨rfl, hb⟩
    have HS2 := hide (HS1.out.next hb)
    clear hb HS1 hA1 i0 i1 i2 j0 j1 j2 k0 k1 k2 l0 l1 l2 z0 z1 z2 e0 e1 e2
    obtain ⟨i0, i1, i2⟩ := HS2.out.im3 4 rfl
    obtain ⟨j0, j1, j2⟩ := HS2.out.im3 3 rfl
    obtain ⟨k0, k1, k2⟩ := HS2.out.im3 2 rfl
    obtain ⟨l0, l1, l2⟩ := HS2.out.im3 1 rfl
    obtain ⟨z0, z1, z2⟩ := HS2.out.im3 0 rfl
    obtain ⟨e0, e1, e2⟩ := HS2.out.fr3 0 rfl
    go_wp2_with fail
    refine (hA2 _ (HP2.out.below HS2.out.below)).mono ?_
    rintro e wq2 ⟨rfl, hb⟩
    have HS3 := hide (HS2.out.next hb)
    clear hb HS2 hA2 i0 i1 i2 j0 j1 j2 k0 k1 k2 l0 l1 l2 z0 z1 z2 e0 e1 e2
    obtain ⟨i0, i1, i2⟩ := HS3.out.im3 4 rfl
    obtain ⟨j0, j1, j2⟩ := HS3.out.im3 3 rfl
    obtain ⟨k0, k1, k2⟩ := HS3.out.im3 2 rfl
    obtain ⟨l0, l1, l2⟩ := HS3.out.im3 1 rfl
    obtain ⟨z0, z1, z2⟩ := HS3.out.im3 0 rfl
    obtain ⟨e0, e1, e2⟩ := HS3.out.fr3 0 rfl
    go_wp2_with fail
    exact bodyPost_ret (v := .tuple #[im 0 0 none 0 0, .int .i64 0]) (by simp [results, Try.results5, go_sem, z0, z1, z2]) rfl ((HS3.out.fill3 _ _ _).imNI _)
  rw [hq2] at hA2
  cases hq3 : okB W3 H3 n3 f3
  · rw [hq3] at hA3
    clear hr hq0 hq1 hq2 hq3
    go_enter Try.func5, Try.ntmps5
    go_wp2_with fail
    refine (hA0 _ (HP0.out.below HS0.out.below)).mono ?_
    rintro e wq0 ⟨rfl, hb⟩
    have HS1 := hide (HS0.out.next hb)
    clear hb HS0 hA0
    obtain ⟨i0, i1, i2⟩ := HS1.out.im3 4 rfl
    obtain ⟨j0, j1, j2⟩ := HS1.out.im3 3 rfl
    obtain ⟨k0, k1, k2⟩ := HS1.out.im3 2 rfl
    obtain ⟨l0, l1, l2⟩ := HS1.out.im3 1 rfl
    obtain ⟨z0, z1, z2⟩ := HS1.out.im3 0 rfl
    obtain ⟨e0, e1, e2⟩ := HS1.out.fr3 0 rfl
    go_wp2_with fail
    refine (hA1 _ (HP1.out.below HS1.out.below)).mono ?_
    rintro e wq1 ⟨rfl, hb⟩
    have HS2 := hide (HS1.out.next hb)
    clear hb HS1 hA1 i0 i1 i2 j0 j1 j2 k0 k1 k2 l0 l1 l2 z0 z1 z2 e0 e1 e2
    obtain ⟨i0, i1, i2⟩ := HS2.out.im3 4 rfl
    obtain ⟨j0, j1, j2⟩ := HS2.out.im3 3 rfl
    obtain ⟨k0, k1, k2⟩ := HS2.out.im3 2 rfl
    obtain ⟨l0, l1, l2⟩ := HS2.out.im3 1 rfl
    obtain ⟨z0, z1, z2⟩ := HS2.out.im3 0 rfl
    obtain ⟨e0, e1, e2⟩ := HS2.out.fr3 0 rfl
    go_wp2_with fail
    refine (hA2 _ (HP2.out.below HS2.out.below)).mono ?_
    rintro e wq2 ⟨rfl, hb⟩
    have HS3 := hide (HS2.out.next hb)
    clear hb HS2 hA2 i0 i1 i2 j0 j1 j2 k0 k1 k2 l0 l1 l2 z0 z1 z2 e0 e1 e2
    obtain ⟨i0, i1, i2⟩ := HS3.out.im3 4 rfl
    obtain ⟨j0, j1, j2⟩ := HS3.out.im3 3 rfl
    obtain ⟨k0, k1, k2⟩ := HS3.out.im3 2 rfl
    obtain ⟨l0, l1, l2⟩ := HS3.out.im3 1 rfl
    obtain ⟨z0, z1, z2⟩ := HS3.out.im3 0 rfl
    obtain ⟨e0, e1, e2⟩ := HS3.out.fr3 0 rfl
    go_wp2_with fail
    refine (hA3 _ (HP3.out.below HS3.out.below)).mono ?_
    rintro e wq3 ⟨rfl, hb⟩
    have HS4 := hide (HS3.out.next hb)
    clear hb HS3 hA3 i0 i1 i2 j0 j1 j2 k0 k1 k2 l0 l1 l2 z0 z1 z2 e0 e1 e2
    obtain ⟨i0, i1, i2⟩ := HS4.out.im3 4 rfl
    obtain ⟨j0, j1, j2⟩ := HS4.out.im3 3 rfl
    obtain ⟨k0, k1, k2⟩ := HS4.out.im3 2 rfl
    obtain ⟨l0, l1, l2⟩ := HS4.out.im3 1 rfl
    obtain ⟨z0, z1, z2⟩ := HS4.out.im3 0 rfl
    obtain ⟨e0, e1, e2⟩ := HS4.out.fr3 0 rfl
    go_wp2_with fail
    exact bodyPost_ret (v := .tuple #[im 0 0 none 0 0, .int .i64 0]) (by simp [results, Try.results5, go_sem, z0, z1, z2]) rfl ((HS4.out.fill3 _ _ _).imNI _)
  rw [hq3] at hA3
  have hr2 : ((decide (W0 = W1) && decide (H0 = H1)) && ((decide (W2 = W3) && decide (H2 = H3)) && (decide (W2 = W0) && decide (H2 = 2 * H0)))) = false := by
    unfold unfB at hr
    rw [hq0, hq1, hq2, hq3] at hr
    simpa using hr
  obtain ⟨s1, s2⟩ := side_bounds (okB_parts hq0).2.1
  have hw2 : IntKind.i64.wrap (2 * H0) = 2 * H0 := by rw [IntKind.wrap_i64]; omega
  clear hr hq0 hq1 hq2 hq3
  by_cases t0 : W0 = W1
  case neg =>
    have t0' : (W0 != W1) = true := by simp [t0]
    clear hr2 t0
    go_enter Try.func5, Try.ntmps5
    go_wp2_with fail
    refine (hA0 _ (HP0.out.below HS0.out.below)).mono ?_
    rintro e wq0 ⟨rfl, hb⟩
    have HS1 := hide (HS0.out.next hb)
    clear hb HS0 hA0
    obtain ⟨i0, i1, i2⟩ := HS1.out.im3 4 rfl
    obtain ⟨j0, j1, j2⟩ := HS1.out.im3 3 rfl
    obtain ⟨k0, k1, k2⟩ := HS1.out.im3 2 rfl
    obtain ⟨l0, l1, l2⟩ := HS1.out.im3 1 rfl
    obtain ⟨z0, z1, z2⟩ := HS1.out.im3 0 rfl
    obtain ⟨e0, e1, e2⟩ := HS1.out.fr3 0 rfl
    go_wp2_with fail
    refine (hA1 _ (HP1.out.below HS1.out.below)).mono ?_
    rintro e wq1 ⟨rfl, hb⟩
    have HS2 := hide (HS1.out.next hb)
    clear hb HS1 hA1 i0 i1 i2 j0 j1 j2 k0 k1 k2 l0 l1 l2 z0 z1 z2 e0 e1 e2
    obtain ⟨i0, i1, i2⟩ := HS2.out.im3 4 rfl
    obtain ⟨j0, j1, j2⟩ := HS2.out.im3 3 rfl
    obtain ⟨k0, k1, k2⟩ := HS2.out.im3 2 rfl
    obtain ⟨l0, l1, l2⟩ := HS2.out.im3 1 rfl
    obtain ⟨z0, z1, z2⟩ := HS2.out.im3 0 rfl
    obtain ⟨e0, e1, e2⟩ := HS2.out.fr3 0 rfl
    go_wp2_with fail
    refine (hA2 _ (HP2.out.below HS2.out.below)).mono ?_
    rintro e wq2 ⟨rfl, hb⟩
    have HS3 := hide (HS2.out.next hb)
    clear hb HS2 hA2 i0 i1 i2 j0 j1 j2 k0 k1 k2 l0 l1 l2 z0 z1 z2 e0 e1 e2
    obtain ⟨i0, i1, i2⟩ := HS3.out.im3 4 rfl
    obtain ⟨j0, j1, j2⟩ := HS3.out.im3 3 rfl
    obtain ⟨k0, k1, k2⟩ := HS3.out.im3 2 rfl
    obtain ⟨l0, l1, l2⟩ := HS3.out.im3 1 rfl
    obtain ⟨z0, z1, z2⟩ := HS3.out.im3 0 rfl
    obtain ⟨e0, e1, e2⟩ := HS3.out.fr3 0 rfl
    go_wp2_with fail
    refine (hA3 _ (HP3.out.below HS3.out.below)).mono ?_
    rintro e wq3 ⟨rfl, hb⟩
    have HS4 := hide (HS3.out.next hb)
    clear hb HS3 hA3 i0 i1 i2 j0 j1 j2 k0 k1 k2 l0 l1 l2 z0 z1 z2 e0 e1 e2
    obtain ⟨i0, i1, i2⟩ := HS4.out.im3 4 rfl
    obtain ⟨j0, j1, j2⟩ := HS4.out.im3 3 rfl
    obtain ⟨k0, k1, k2⟩ := HS4.out.im3 2 rfl
    obtain ⟨l0, l1, l2⟩ := HS4.out.im3 1 rfl
    obtain ⟨z0, z1, z2⟩ := HS4.out.im3 0 rfl
    obtain ⟨e0, e1, e2⟩ := HS4.out.fr3 0 rfl
    go_wp2_with fail
    exact bodyPost_ret (v := .tuple #[im 0 0 none 0 0, .int .i64 0]) (by simp [results, Try.results5, go_sem, z0, z1, z2]) rfl ((HS4.out.fill3 _ _ _).imNI _)
  have t0' : (W0 != W1) = false := by simp [t0]
  by_cases t1 : H0 = H1
  case neg =>
    have t1' : (H0 != H1) = true := by simp [t1]
    clear hr2 t0 t1
    go_enter Try.func5, Try.ntmps5
    go_wp2_with fail
    refine (hA0 _ (HP0.out.below HS0.out.below)).mono ?_
    rintro e wq0 ⟨rfl, hb⟩
    have HS1 := hide (HS0.out.next hb)
    clear hb HS0 hA0
    obtain ⟨i0, i1, i2⟩ := HS1.out.im3 4 rfl
    obtain ⟨j0, j1, j2⟩ := HS1.out.im3 3 rfl
    obtain ⟨k0, k1, k2⟩ := HS1.out.im3 2 rfl
    obtain ⟨l0, l1, l2⟩ := HS1.out.im3 1 rfl
    obtain ⟨z0, z1, z2⟩ := HS1.out.im3 0 rfl
    obtain ⟨e0, e1, e2⟩ := HS1.out.fr3 0 rfl
    go_wp2_with fail
    refine (hA1 _ (HP1.out.below HS1.out.below)).mono ?_
    rintro e wq1 ⟨rfl, hb⟩
    have HS2 := hide (HS1.out.next hb)
    clear hb HS1 hA1 i0 i1 i2 j0 j1 j2 k0 k1 k2 l0 l1 l2 z0 z1 z2 e0 e1 e2
    obtain ⟨i0, i1, i2⟩ := HS2.out.im3 4 rfl
    obtain ⟨j0, j1, j2⟩ := HS2.out.im3 3 rfl
    obtain ⟨k0, k1, k2⟩ := HS2.out.im3 2 rfl
    obtain ⟨l0, l1, l2⟩ := HS2.out.im3 1 rfl
    obtain ⟨z0, z1, z2⟩ := HS2.out.im3 0 rfl
    obtain ⟨e0, e1, e2⟩ := HS2.out.fr3 0 rfl
    go_wp2_with fail
    refine (hA2 _ (HP2.out.below HS2.out.below)).mono ?_
    rintro e wq2 ⟨rfl, hb⟩
    have HS3 := hide (HS2.out.next hb)
    clear hb HS2 hA2 i0 i1 i2 j0 j1 j2 k0 k1 k2 l0 l1 l2 z0 z1 z2 e0 e1 e2
    obtain ⟨i0, i1, i2⟩ := HS3.out.im3 4 rfl
    obtain ⟨j0, j1, j2⟩ := HS3.out.im3 3 rfl
    obtain ⟨k0, k1, k2⟩ := HS3.out.im3 2 rfl
    obtain ⟨l0, l1, l2⟩ := HS3.out.im3 1 rfl
    obtain ⟨z0, z1, z2⟩ := HS3.out.im3 0 rfl
    obtain ⟨e0, e1, e2⟩ := HS3.out.fr3 0 rfl
    go_wp2_with fail
    refine (hA3 _ (HP3.out.below HS3.out.below)).mono ?_
    rintro e wq3 ⟨rfl, hb⟩
    have HS4 := hide (HS3.out.next hb)
    clear hb HS3 hA3 i0 i1 i2 j0 j1 j2 k0 k1 k2 l0 l1 l2 z0 z1 z2 e0 e1 e2
    obtain ⟨i0, i1, i2⟩ := HS4.out.im3 4 rfl
    obtain ⟨j0, j1, j2⟩ := HS4.out.im3 3 rfl
    obtain ⟨k0, k1, k2⟩ := HS4.out.im3 2 rfl
    obtain ⟨l0, l1, l2⟩ := HS4.out.im3 1 rfl
    obtain ⟨z0, z1, z2⟩ := HS4.out.im3 0 rfl
    obtain ⟨e0, e1, e2⟩ := HS4.out.fr3 0 rfl
    go_wp2_with fail
    exact bodyPost_ret (v := .tuple #[im 0 0 none 0 0, .int .i64 0]) (by simp [results, Try.results5, go_sem, z0, z1, z2]) rfl ((HS4.out.fill3 _ _ _).imNI _)
  have t1' : (H0 != H1) = false := by simp [t1]
  by_cases t2 : W2 = W0
  case neg =>
    have t2' : (W2 != W0) = true := by simp [t2]
    clear hr2 t0 t1 t2
    go_enter Try.func5, Try.ntmps5
    go_wp2_with fail
    refine (hA0 _ (HP0.out.below HS0.out.below)).mono ?_
    rintro e wq0 ⟨rfl, hb⟩
    have HS1 := hide (HS0.out.next hb)
    clear hb HS0 hA0
    obtain ⟨i0, i1, i2⟩ := HS1.out.im3 4 rfl
    obtain ⟨j0, j1, j2⟩ := HS1.out.im3 3 rfl
    obtain ⟨k0, k1, k2⟩ := HS1.out.im3 2 rfl
    obtain ⟨l0, l1, l2⟩ := HS1.out.im3 1 rfl
    obtain ⟨z0, z1, z2⟩ := HS1.out.im3 0 rfl
    obtain ⟨e0, e1, e2⟩ := HS1.out.fr3 0 rfl
    go_wp2_with fail
    refine (hA1 _ (HP1.out.below HS1.out.below)).mono ?_
    rintro e wq1 ⟨rfl, hb⟩
    have HS2 := hide (HS1.out.next hb)
    clear hb HS1 hA1 i0 i1 i2 j0 j1 j2 k0 k1 k2 l0 l1 l2 z0 z1 z2 e0 e1 e2
    obtain ⟨i0, i1, i2⟩ := HS2.out.im3 4 rfl
    obtain ⟨j0, j1, j2⟩ := HS2.out.im3 3 rfl
    obtain ⟨k0, k1, k2⟩ := HS2.out.im3 2 rfl
    obtain ⟨l0, l1, l2⟩ := HS2.out.im3 1 rfl
    obtain ⟨z0, z1, z2⟩ := HS2.out.im3 0 rfl
    obtain ⟨e0, e1, e2⟩ := HS2.out.fr3 0 rfl
    go_wp2_with fail
    refine (hA2 _ (HP2.out.below HS2.out.below)).mono ?_
    rintro e wq2 ⟨rfl, hb⟩
    have HS3 := hide (HS2.out.next hb)
    clear hb HS2 hA2 i0 i1 i2 j0 j1 j2 k0 k1 k2 l0 l1 l2 z0 z1 z2 e0 e1 e2
    obtain ⟨i0, i1, i2⟩ := HS3.out.im3 4 rfl
    obtain ⟨j0, j1, j2⟩ := HS3.out.im3 3 rfl
    obtain ⟨k0, k1, k2⟩ := HS3.out.im3 2 rfl
    obtain ⟨l0, l1, l2⟩ := HS3.out.im3 1 rfl
    obtain ⟨z0, z1, z2⟩ := HS3.out.im3 0 rfl
    obtain ⟨e0, e1, e2⟩ := HS3.out.fr3 0 rfl
    go_wp2_with fail
    refine (hA3 _ (HP3.out.below HS3.out.below)).mono ?_
    rintro e wq3 ⟨rfl, hb⟩
    have HS4 := hide (HS3.out.next hb)
    clear hb HS3 hA3 i0 i1 i2 j0 j1 j2 k0 k1 k2 l0 l1 l2 z0 z1 z2 e0 e1 e2
    obtain ⟨i0, i1, i2⟩ := HS4.out.im3 4 rfl
    obtain ⟨j0, j1, j2⟩ := HS4.out.im3 3 rfl
    obtain ⟨k0, k1, k2⟩ := HS4.out.im3 2 rfl
    obtain ⟨l0, l1, l2⟩ := HS4.out.im3 1 rfl
    obtain ⟨z0, z1, z2⟩ := HS4.out.im3 0 rfl
    obtain ⟨e0, e1, e2⟩ := HS4.out.fr3 0 rfl
    go_wp2_with fail
    exact bodyPost_ret (v := .tuple #[im 0 0 none 0 0, .int .i64 0]) (by simp [results, Try.results5, go_sem, z0, z1, z2]) rfl ((HS4.out.fill3 _ _ _).imNI _)
  have t2' : (W2 != W0) = false := by simp [t2]
  by_cases t3 : W3 = W0
  case neg =>
    have t3' : (W3 != W0) = true := by simp [t3]
    clear hr2 t0 t1 t2 t3
    go_enter Try.func5, Try.ntmps5
    go_wp2_with fail
    refine (hA0 _ (HP0.out.below HS0.out.below)).mono ?_
    rintro e wq0 ⟨rfl, hb⟩
    have HS1 := hide (HS0.out.next hb)
    clear hb HS0 hA0
    obtain ⟨i0, i1, i2⟩ := HS1.out.im3 4 rfl
    obtain ⟨j0, j1, j2⟩ := HS1.out.im3 3 rfl
    obtain ⟨k0, k1, k2⟩ := HS1.out.im3 2 rfl
    obtain ⟨l0, l1, l2⟩ := HS1.out.im3 1 rfl
    obtain ⟨z0, z1, z2⟩ := HS1.out.im3 0 rfl
    obtain ⟨e0, e1, e2⟩ := HS1.out.fr3 0 rfl
    go_wp2_with fail
    refine (hA1 _ (HP1.out.below HS1.out.below)).mono ?_
    rintro e wq1 ⟨rfl, hb⟩
    have HS2 := hide (HS1.out.next hb)
    clear hb HS1 hA1 i0 i1 i2 j0 j1 j2 k0 k1 k2 l0 l1 l2 z0 z1 z2 e0 e1 e2
    obtain ⟨i0, i1, i2⟩ := HS2.out.im3 4 rfl
    obtain ⟨j0, j1, j2⟩ := HS2.out.im3 3 rfl
    obtain ⟨k0, k1, k2⟩ := HS2.out.im3 2 rfl
    obtain ⟨l0, l1, l2⟩ := HS2.out.im3 1 rfl
    obtain ⟨z0, z1, z2⟩ := HS2.out.im3 0 rfl
    obtain ⟨e0, e1, e2⟩ := HS2.out.fr3 0 rfl
    go_wp2_with fail
    refine (hA2 _ (HP2.out.below HS2.out.below)).mono ?_
    rintro e wq2 ⟨rfl, hb⟩
    have HS3 := hide (HS2.out.next hb)
    clear hb HS2 hA2 i0 i1 i2 j0 j1 j2 k0 k1 k2 l0 l1 l2 z0 z1 z2 e0 e1 e2
    obtain ⟨i0, i1, i2⟩ := HS3.out.im3 4 rfl
    obtain ⟨j0, j1, j2⟩ := HS3.out.im3 3 rfl
    obtain ⟨k0, k1, k2⟩ := HS3.out.im3 2 rfl
    obtain ⟨l0, l1, l2⟩ := HS3.out.im3 1 rfl
    obtain ⟨z0, z1, z2⟩ := HS3.out.im3 0 rfl
    obtain ⟨e0, e1, e2⟩ := HS3.out.fr3 0 rfl
    go_wp2_with fail
    refine (hA3 _ (HP3.out.below HS3.out.below)).mono ?_
    rintro e wq3 ⟨rfl, hb⟩
    have HS4 := hide (HS3.out.next hb)
    clear hb HS3 hA3 i0 i1 i2 j0 j1 j2 k0 k1 k2 l0 l1 l2 z0 z1 z2 e0 e1 e2
    obtain ⟨i0, i1, i2⟩ := HS4.out.im3 4 rfl
    obtain ⟨j0, j1, j2⟩ := HS4.out.im3 3 rfl
    obtain ⟨k0, k1, k2⟩ := HS4.out.im3 2 rfl
    obtain ⟨l0, l1, l2⟩ := HS4.out.im3 1 rfl
    obtain ⟨z0, z1, z2⟩ := HS4.out.im3 0 rfl
    obtain ⟨e0, e1, e2⟩ := HS4.out.fr3 0 rfl
    go_wp2_with fail
    exact bodyPost_ret (v := .tuple #[im 0 0 none 0 0, .int .i64 0]) (by simp [results, Try.results5, go_sem, z0, z1, z2]) rfl ((HS4.out.fill3 _ _ _).imNI _)
  have t3' : (W3 != W0) = false := by simp [t3]
  by_cases t4 : H2 = 2 * H0
  case neg =>
    have t4' : (H2 != 2 * H0) = true := by simp [t4]
    clear hr2 t0 t1 t2 t3 t4
    go_enter Try.func5, Try.ntmps5
    go_wp2_with fail
    refine (hA0 _ (HP0.out.below HS0.out.below)).mono ?_
    rintro e wq0 ⟨rfl, hb⟩
    have HS1 := hide (HS0.out.next hb)
    clear hb HS0 hA0
    obtain ⟨i0, i1, i2⟩ := HS1.out.im3 4 rfl
    obtain ⟨j0, j1, j2⟩ := HS1.out.im3 3 rfl
    obtain ⟨k0, k1, k2⟩ := HS1.out.im3 2 rfl
    obtain ⟨l0, l1, l2⟩ := HS1.out.im3 1 rfl
    obtain ⟨z0, z1, z2⟩ := HS1.out.im3 0 rfl
    obtain ⟨e0, e1, e2⟩ := HS1.out.fr3 0 rfl
    go_wp2_with fail
    refine (hA1 _ (HP1.out.below HS1.out.below)).mono ?_
    rintro e wq1 ⟨rfl, hb⟩
    have HS2 := hide (HS1.out.next hb)
    clear hb HS1 hA1 i0 i1 i2 j0 j1 j2 k0 k1 k2 l0 l1 l2 z0 z1 z2 e0 e1 e2
    obtain ⟨i0, i1, i2⟩ := HS2.out.im3 4 rfl
    obtain ⟨j0, j1, j2⟩ := HS2.out.im3 3 rfl
    obtain ⟨k0, k1, k2⟩ := HS2.out.im3 2 rfl
    obtain ⟨l0, l1, l2⟩ := HS2.out.im3 1 rfl
    obtain ⟨z0, z1, z2⟩ := HS2.out.im3 0 rfl
    obtain ⟨e0, e1, e2⟩ := HS2.out.fr3 0 rfl
    go_wp2_with fail
    refine (hA2 _ (HP2.out.below HS2.out.below)).mono ?_
    rintro e wq2 ⟨rfl, hb⟩
    have HS3 := hide (HS2.out.next hb)
    clear hb HS2 hA2 i0 i1 i2 j0 j1 j2 k0 k1 k2 l0 l1 l2 z0 z1 z2 e0 e1 e2
    obtain ⟨i0, i1, i2⟩ := HS3.out.im3 4 rfl
    obtain ⟨j0, j1, j2⟩ := HS3.out.im3 3 rfl
    obtain ⟨k0, k1, k2⟩ := HS3.out.im3 2 rfl
    obtain ⟨l0, l1, l2⟩ := HS3.out.im3 1 rfl
    obtain ⟨z0, z1, z2⟩ := HS3.out.im3 0 rfl
    obtain ⟨e0, e1, e2⟩ := HS3.out.fr3 0 rfl
    go_wp2_with fail
    refine (hA3 _ (HP3.out.below HS3.out.below)).mono ?_
    rintro e wq3 ⟨rfl, hb⟩
    have HS4 := hide (HS3.out.next hb)
    clear hb HS3 hA3 i0 i1 i2 j0 j1 j2 k0 k1 k2 l0 l1 l2 z0 z1 z2 e0 e1 e2
    obtain ⟨i0, i1, i2⟩ := HS4.out.im3 4 rfl
    obtain ⟨j0, j1, j2⟩ := HS4.out.im3 3 rfl
    obtain ⟨k0, k1, k2⟩ := HS4.out.im3 2 rfl
    obtain ⟨l0, l1, l2⟩ := HS4.out.im3 1 rfl
    obtain ⟨z0, z1, z2⟩ := HS4.out.im3 0 rfl
    obtain ⟨e0, e1, e2⟩ := HS4.out.fr3 0 rfl
    go_wp2_with fail
    exact bodyPost_ret (v := .tuple #[im 0 0 none 0 0, .int .i64 0]) (by simp [results, Try.results5, go_sem, z0, z1, z2]) rfl ((HS4.out.fill3 _ _ _).imNI _)
  have t4' : (H2 != 2 * H0) = false := by simp [t4]
  have t5' : (H3 != 2 * H0) = true := by
    simp only [t0, t1, t2, t3, t4, decide_true, Bool.true_and, Bool.and_true] at hr2 ⊢
    simp at hr2 ⊢
    omega
  clear hr2 t0 t1 t2 t3 t4
  go_enter Try.func5, Try.ntmps5
  go_wp2_with fail
  refine (hA0 _ (HP0.out.below HS0.out.below)).mono ?_
  rintro e wq0 ⟨rfl, hb⟩
  have HS1 := hide (HS0.out.next hb)
  clear hb HS0 hA0
  obtain ⟨i0, i1, i2⟩ := HS1.out.im3 4 rfl
  obtain ⟨j0, j1, j2⟩ := HS1.out.im3 3 rfl
  obtain ⟨k0, k1, k2⟩ := HS1.out.im3 2 rfl
  obtain ⟨l0, l1, l2⟩ := HS1.out.im3 1 rfl
  obtain ⟨z0, z1, z2⟩ := HS1.out.im3 0 rfl
  obtain ⟨e0, e1, e2⟩ := HS1.out.fr3 0 rfl
  go_wp2_with fail
  refine (hA1 _ (HP1.out.below HS1.out.below)).mono ?_
  rintro e wq1 ⟨rfl, hb⟩
  have HS2 := hide (HS1.out.next hb)
  clear hb HS1 hA1 i0 i1 i2 j0 j1 j2 k0 k1 k2 l0 l1 l2 z0 z1 z2 e0 e1 e2
  obtain ⟨i0, i1, i2⟩ := HS2.out.im3 4 rfl
  obtain ⟨j0, j1, j2⟩ := HS2.out.im3 3 rfl
  obtain ⟨k0, k1, k2⟩ := HS2.out.im3 2 rfl
  obtain ⟨l0, l1, l2⟩ := HS2.out.im3 1 rfl
  obtain ⟨z0, z1, z2⟩ := HS2.out.im3 0 rfl
  obtain ⟨e0, e1, e2⟩ := HS2.out.fr3 0 rfl
  go_wp2_with fail
  refine (hA2 _ (HP2.out.below HS2.out.below)).mono ?_
  rintro e wq2 ⟨rfl, hb⟩
  have HS3 := hide (HS2.out.next hb)
  clear hb HS2 hA2 i0 i1 i2 j0 j1 j2 k0 k1 k2 l0 l1 l2 z0 z1 z2 e0 e1 e2
  obtain ⟨i0, i1, i2⟩ := HS3.out.im3 4 rfl
  obtain ⟨j0, j1, j2⟩ := HS3.out.im3 3 rfl
  obtain ⟨k0, k1, k2⟩ := HS3.out.im3 2 rfl
  obtain ⟨l0, l1, l2⟩ := HS3.out.im3 1 rfl
  obtain ⟨z0, z1, z2⟩ := HS3.out.im3 0 rfl
  obtain ⟨e0, e1, e2⟩ := HS3.out.fr3 0 rfl
  go_wp2_with fail
  refine (hA3 _ (HP3.out.below HS3.out.below)).mono ?_
  rintro e wq3 ⟨rfl, hb⟩
  have HS4 := hide (HS3.out.next hb)
  clear hb HS3 hA3 i0 i1 i2 j0 j1 j2 k0 k1 k2 l0 l1 l2 z0 z1 z2 e0 e1 e2
  obtain ⟨i0, i1, i2⟩ := HS4.out.im3 4 rfl
  obtain ⟨j0, j1, j2⟩ := HS4.out.im3 3 rfl
  obtain ⟨k0, k1, k2⟩ := HS4.out.im3 2 rfl
  obtain ⟨l0, l1, l2⟩ := HS4.out.im3 1 rfl
  obtain ⟨z0, z1, z2⟩ := HS4.out.im3 0 rfl
  obtain ⟨e0, e1, e2⟩ := HS4.out.fr3 0 rfl
  go_wp2_with fail
  exact bodyPost_ret (v := .tuple #[im 0 0 none 0 0, .int .i64 0]) (by simp [results, Try.results5, go_sem, z0, z1, z2]) rfl ((HS4.out.fill3 _ _ _).imNI _)

end Go.Proofs.Ytjjoeojikbbnfaa

/- Unfolding: when it can be, and what is answered where it can't. -/
import Derived.Test.YtpeocbhnnpppjaaSlv
namespace Go.Proofs.Ytpeocbhnnpppjaa
open Go.RowKit

/-- an image and a number are answered -/
def ImRI (rW rH : Int) (rN : Nat) (s : Nat → Int) (c : Int) (w : World) (e : Ending) (w' : World) : Prop :=
  ∃ a0 cap b, e = .returned (.tuple #[im rW rH a0 rN cap, .int .i64 c]) ∧ Ow a0 b rN s w' ∧ (rN = 0 ∨ w.heap.size ≤ b) ∧ Below w.heap.size w w'
theorem St.imRI {w0 : World} {L : List BoxT} {O : List OwnT} {w : World} {a : Option Addr} {b n : Nat} {s : Nat → Int} (h : St w0 L ((a, b, n, fun k => .int .i64 (s k)) :: O) w) (W H : Int) (cap : Nat) (c : Int) : ImRI W H n s c w0 (.returned (.tuple #[im W H a n cap, .int .i64 c])) w :=
  ⟨a, cap, b, rfl, h.nthO 0 rfl, by
    by_cases h0 : n = 0
    · exact .inl h0
    · exact .inr (h.lt b (mem_blocks_own (x := (a, b, n, fun k => .int .i64 (s k))) (List.mem_cons_self ..) h0)).1, h.below⟩
theorem St.imNI {w0 : World} {L : List BoxT} {O : List OwnT} {w : World} (h : St w0 L O w) (s : Nat → Int) : ImRI 0 0 0 s 0 w0 (.returned (.tuple #[im 0 0 none 0 0, .int .i64 0])) w :=
  ⟨none, 0, 0, rfl, .inl rfl, .inl rfl, h.below⟩

/-- can it be unfolded -/
def unfB (W0 H0 : Int) (n0 : Nat) (f0 : Nat → Int) (W1 H1 : Int) (n1 : Nat) (f1 : Nat → Int) (W2 H2 : Int) (n2 : Nat) (f2 : Nat → Int) (W3 H3 : Int) (n3 : Nat) (f3 : Nat → Int) : Bool :=
  okB W0 H0 n0 f0 && (okB W1 H1 n1 f1 && (okB W2 H2 n2 f2 && (okB W3 H3 n3 f3 && ((decide (W0 = W1) && decide (H0 = H1)) && ((decide (W2 = W3) && decide (H2 = H3)) && (decide (W2 = W0) && decide (H2 = 2 * H0)))))))

abbrev W5 (w : World) (W0 H0 : Int) (s0 : Value) (W1 H1 : Int) (s1 : Value) (W2 H2 : Int) (s2 : Value) (W3 H3 : Int) (s3 : Value) : World :=
  ((((w.alloc (.cells #[.int .i64 W0, .int .i64 H0, s0] 26)).alloc (.cells #[.int .i64 W1, .int .i64 H1, s1] 26)).alloc (.cells #[.int .i64 W2, .int .i64 H2, s2] 26)).alloc (.cells #[.int .i64 W3, .int .i64 H3, s3] 26)).alloc (.cells #[.int .i64 0, .int .i64 0, .slice none 0 0] 26)
theorem St.five (w : World) (W0 H0 : Int) (s0 : Value) (W1 H1 : Int) (s1 : Value) (W2 H2 : Int) (s2 : Value) (W3 H3 : Int) (s3 : Value) :
    St w [(w.heap.size + 4, [.int .i64 0, .int .i64 0, .slice none 0 0]), (w.heap.size + 3, [.int .i64 W3, .int .i64 H3, s3]), (w.heap.size + 2, [.int .i64 W2, .int .i64 H2, s2]), (w.heap.size + 1, [.int .i64 W1, .int .i64 H1, s1]), (w.heap.size, [.int .i64 W0, .int .i64 H0, s0])] [] (W5 w W0 H0 s0 W1 H1 s1 W2 H2 s2 W3 H3 s3) :=
  (((((St.start w).box [.int .i64 W0, .int .i64 H0, s0] 26).box' [.int .i64 W1, .int .i64 H1, s1] 26 (b := w.heap.size + 1) (by simp)).box' [.int .i64 W2, .int .i64 H2, s2] 26 (b := w.heap.size + 2) (by simp)).box' [.int .i64 W3, .int .i64 H3, s3] 26 (b := w.heap.size + 3) (by simp)).box' [.int .i64 0, .int .i64 0, .slice none 0 0] 26 (b := w.heap.size + 4) (by simp)

set_option maxRecDepth 100000 in
set_option maxHeartbeats 4000000 in
theorem implUnfold_no (W0 H0 : Int) (a0 : Option Addr) (n0 cap0 : Nat) (f0 : Nat → Int) (hl0 : n0 ≤ 1048576) (W1 H1 : Int) (a1 : Option Addr) (n1 cap1 : Nat) (f1 : Nat → Int) (hl1 : n1 ≤ 1048576) (W2 H2 : Int) (a2 : Option Addr) (n2 cap2 : Nat) (f2 : Nat → Int) (hl2 : n2 ≤ 1048576) (W3 H3 : Int) (a3 : Option Addr) (n3 cap3 : Nat) (f3 : Nat → Int) (hl3 : n3 ≤ 1048576) (w : World) (h0 : Px a0 n0 f0 w) (h1 : Px a1 n1 f1 w) (h2 : Px a2 n2 f2 w) (h3 : Px a3 n3 f3 w) (hr : unfB W0 H0 n0 f0 W1 H1 n1 f1 W2 H2 n2 f2 W3 H3 n3 f3 = false) (s : Nat → Int) :
    Calls Try.prog 9 #[im W0 H0 a0 n0 cap0, im W1 H1 a1 n1 cap1, im W2 H2 a2 n2 cap2, im W3 H3 a3 n3 cap3] w (ImRI 0 0 0 s 0 w) := by
  have hA0 := implOk_any W0 H0 a0 n0 cap0 f0 hl0
  have hA1 := implOk_any W1 H1 a1 n1 cap1 f1 hl1
  have hA2 := implOk_any W2 H2 a2 n2 cap2 f2 hl2
  have hA3 := implOk_any W3 H3 a3 n3 cap3 f3 hl3
  have HP0 := hide h0
  have HP1 := hide h1
  have HP2 := hide h2
  have HP3 := hide h3
  have HS0 := hide (St.five w W0 H0 (.slice a0 n0 cap0) W1 H1 (.slice a1 n1 cap1) W2 H2 (.slice a2 n2 cap2) W3 H3 (.slice a3 n3 cap3))
  clear h0 h1 h2 h3
  cases hq0 : okB W0 H0 n0 f0
  · rw [hq0] at hA0
    clear hr hq0 hA1 hA2 hA3
    go_enter Try.func9, Try.ntmps9
    go_wp2_with fail
    refine (hA0 _ (HP0.out.below HS0.out.below)).mono ?_
    rintro e wq0 ⟨rfl, hb⟩
    have HS1 := hide (HS0.out.next hb)
    clear hb HS0 hA0
    obtain ⟨i0, i1, i2⟩ := HS1.out.im3 4 rfl
    obtain ⟨j0, j1, j2⟩ := HS1.out.im3 3 rfl
    obtain ⟨k0, k1, k2⟩ := HS1.out.im3 2 rfl
    obtain ⟨l0, l1, l2⟩ := HS1.out.im3 1 rfl
    obtain ⟨z0, z1, z2⟩ := HS1.out.im3 0 rfl
    obtain ⟨e0, e1, e2⟩ := HS1.out.fr3 0 rfl
    go_wp2_with fail
    exact bodyPost_ret (v := .tuple #[im 0 0 none 0 0, .int .i64 0]) (by simp [results, Try.results9, go_sem, z0, z1, z2]) rfl ((HS1.out.fill3 _ _ _).imNI _)
  rw [hq0] at hA0
  cases hq1 : okB W1 H1 n1 f1
  · rw [hq1] at hA1
    clear hr hq0 hq1 hA2 hA3
    go_enter Try.func9, Try.ntmps9
    go_wp2_with fail
    refine (hA0 _ (HP0.out.below HS0.out.below)).mono ?_
    rintro e wq0 ⟨rfl, hb⟩
    have HS1 := hide (HS0.out.next hb)
    clear hb HS0 hA0
    obtain ⟨i0, i1, i2⟩ := HS1.out.im3 4 rfl
    obtain ⟨j0, j1, j2⟩ := HS1.out.im3 3 rfl
    obtain ⟨k0, k1, k2⟩ := HS1.out.im3 2 rfl
    obtain ⟨l0, l1, l2⟩ := HS1.out.im3 1 rfl
    obtain ⟨z0, z1, z2⟩ := HS1.out.im3 0 rfl
    obtain ⟨e0, e1, e2⟩ := HS1.out.fr3 0 rfl
    go_wp2_with fail
    refine (hA1 _ (HP1.out.below HS1.out.below)).mono ?_
    rintro e wq1 ⟨rfl, hb⟩
    have HS2 := hide (HS1.out.next hb)
    clear hb HS1 hA1 i0 i1 i2 j0 j1 j2 k0 k1 k2 l0 l1 l2 z0 z1 z2 e0 e1 e2
    obtain ⟨i0, i1, i2⟩ := HS2.out.im3 4 rfl
    obtain ⟨j0, j1, j2⟩ := HS2.out.im3 3 rfl
    obtain ⟨k0, k1, k2⟩ := HS2.out.im3 2 rfl
    obtain ⟨l0, l1, l2⟩ := HS2.out.im3 1 rfl
    obtain ⟨z0, z1, z2⟩ := HS2.out.im3 0 rfl
    obtain ⟨e0, e1, e2⟩ := HS2.out.fr3 0 rfl
    go_wp2_with fail
    exact bodyPost_ret (v := .tuple #[im 0 0 none 0 0, .int .i64 0]) (by simp [results, Try.results9, go_sem, z0, z1, z2]) rfl ((HS2.out.fill3 _ _ _).imNI _)
  rw [hq1] at hA1
  cases hq2 : okB W2 H2 n2 f2
  · rw [hq2] at hA2
    clear hr hq0 hq1 hq2 hA3
    go_enter Try.func9, Try.ntmps9
    go_wp2_with fail
    refine (hA0 _ (HP0.out.below HS0.out.below)).mono ?_
    rintro e wq0 ⟨rfl, hb⟩
    have HS1 := hide (HS0.out.next hb)
    clear hb HS0 hA0
    obtain ⟨i0, i1, i2⟩ := HS1.out.im3 4 rfl
    obtain ⟨j0, j1, j2⟩ := HS1.out.im3 3 rfl
    obtain ⟨k0, k1, k2⟩ := HS1.out.im3 2 rfl
    obtain ⟨l0, l1, l2⟩ := HS1.out.im3 1 rfl
    obtain ⟨z0, z1, z2⟩ := HS1.out.im3 0 rfl
    obtain ⟨e0, e1, e2⟩ := HS1.out.fr3 0 rfl
    go_wp2_with fail
    refine (hA1 _ (HP1.out.below HS1.out.below)).mono ?_
    rintro e wq1 ⟨rfl, hb⟩
    have HS2 := hide (HS1.out.next hb)
    clear hb HS1 hA1 i0 i1 i2 j0 j1 j2 k0 k1 k2 l0 l1 l2 z0 z1 z2 e0 e1 e2
    obtain ⟨i0, i1, i2⟩ := HS2.out.im3 4 rfl
    obtain ⟨j0, j1, j2⟩ := HS2.out.im3 3 rfl
    obtain ⟨k0, k1, k2⟩ := HS2.out.im3 2 rfl
    obtain ⟨l0, l1, l2⟩ := HS2.out.im3 1 rfl
    obtain ⟨z0, z1, z2⟩ := HS2.out.im3 0 rfl
    obtain ⟨e0, e1, e2⟩ := HS2.out.fr3 0 rfl
    go_wp2_with fail
    refine (hA2 _ (HP2.out.below HS2.out.below)).mono ?_
    rintro e wq2 ⟨rfl, hb⟩
    have HS3 := hide (HS2.out.next hb)
    clear hb HS2 hA2 i0 i1 i2 j0 j1 j2 k0 k1 k2 l0 l1 l2 z0 z1 z2 e0 e1 e2
    obtain ⟨i0, i1, i2⟩ := HS3.out.im3 4 rfl
    obtain ⟨j0, j1, j2⟩ := HS3.out.im3 3 rfl
    obtain ⟨k0, k1, k2⟩ := HS3.out.im3 2 rfl
    obtain ⟨l0, l1, l2⟩ := HS3.out.im3 1 rfl
    obtain ⟨z0, z1, z2⟩ := HS3.out.im3 0 rfl
    obtain ⟨e0, e1, e2⟩ := HS3.out.fr3 0 rfl
    go_wp2_with fail
    exact bodyPost_ret (v := .tuple #[im 0 0 none 0 0, .int .i64 0]) (by simp [results, Try.results9, go_sem, z0, z1, z2]) rfl ((HS3.out.fill3 _ _ _).imNI _)
  rw [hq2] at hA2
  cases hq3 : okB W3 H3 n3 f3
  · rw [hq3] at hA3
    clear hr hq0 hq1 hq2 hq3
    go_enter Try.func9, Try.ntmps9
    go_wp2_with fail
    refine (hA0 _ (HP0.out.below HS0.out.below)).mono ?_
    rintro e wq0 ⟨rfl, hb⟩
    have HS1 := hide (HS0.out.next hb)
    clear hb HS0 hA0
    obtain ⟨i0, i1, i2⟩ := HS1.out.im3 4 rfl
    obtain ⟨j0, j1, j2⟩ := HS1.out.im3 3 rfl
    obtain ⟨k0, k1, k2⟩ := HS1.out.im3 2 rfl
    obtain ⟨l0, l1, l2⟩ := HS1.out.im3 1 rfl
    obtain ⟨z0, z1, z2⟩ := HS1.out.im3 0 rfl
    obtain ⟨e0, e1, e2⟩ := HS1.out.fr3 0 rfl
    go_wp2_with fail
    refine (hA1 _ (HP1.out.below HS1.out.below)).mono ?_
    rintro e wq1 ⟨rfl, hb⟩
    have HS2 := hide (HS1.out.next hb)
    clear hb HS1 hA1 i0 i1 i2 j0 j1 j2 k0 k1 k2 l0 l1 l2 z0 z1 z2 e0 e1 e2
    obtain ⟨i0, i1, i2⟩ := HS2.out.im3 4 rfl
    obtain ⟨j0, j1, j2⟩ := HS2.out.im3 3 rfl
    obtain ⟨k0, k1, k2⟩ := HS2.out.im3 2 rfl
    obtain ⟨l0, l1, l2⟩ := HS2.out.im3 1 rfl
    obtain ⟨z0, z1, z2⟩ := HS2.out.im3 0 rfl
    obtain ⟨e0, e1, e2⟩ := HS2.out.fr3 0 rfl
    go_wp2_with fail
    refine (hA2 _ (HP2.out.below HS2.out.below)).mono ?_
    rintro e wq2 ⟨rfl, hb⟩
    have HS3 := hide (HS2.out.next hb)
    clear hb HS2 hA2 i0 i1 i2 j0 j1 j2 k0 k1 k2 l0 l1 l2 z0 z1 z2 e0 e1 e2
    obtain ⟨i0, i1, i2⟩ := HS3.out.im3 4 rfl
    obtain ⟨j0, j1, j2⟩ := HS3.out.im3 3 rfl
    obtain ⟨k0, k1, k2⟩ := HS3.out.im3 2 rfl
    obtain ⟨l0, l1, l2⟩ := HS3.out.im3 1 rfl
    obtain ⟨z0, z1, z2⟩ := HS3.out.im3 0 rfl
    obtain ⟨e0, e1, e2⟩ := HS3.out.fr3 0 rfl
    go_wp2_with fail
    refine (hA3 _ (HP3.out.below HS3.out.below)).mono ?_
    rintro e wq3 ⟨rfl, hb⟩
    have HS4 := hide (HS3.out.next hb)
    clear hb HS3 hA3 i0 i1 i2 j0 j1 j2 k0 k1 k2 l0 l1 l2 z0 z1 z2 e0 e1 e2
    obtain ⟨i0, i1, i2⟩ := HS4.out.im3 4 rfl
    obtain ⟨j0, j1, j2⟩ := HS4.out.im3 3 rfl
    obtain ⟨k0, k1, k2⟩ := HS4.out.im3 2 rfl
    obtain ⟨l0, l1, l2⟩ := HS4.out.im3 1 rfl
    obtain ⟨z0, z1, z2⟩ := HS4.out.im3 0 rfl
    obtain ⟨e0, e1, e2⟩ := HS4.out.fr3 0 rfl
    go_wp2_with fail
    exact bodyPost_ret (v := .tuple #[im 0 0 none 0 0, .int .i64 0]) (by simp [results, Try.results9, go_sem, z0, z1, z2]) rfl ((HS4.out.fill3 _ _ _).imNI _)
  rw [hq3] at hA3
  have hr2 : ((decide (W0 = W1) && decide (H0 = H1)) && ((decide (W2 = W3) && decide (H2 = H3)) && (decide (W2 = W0) && decide (H2 = 2 * H0)))) = false := by
    unfold unfB at hr
    rw [hq0, hq1, hq2, hq3] at hr
    simpa using hr
  obtain ⟨s1, s2⟩ := side_bounds (okB_parts hq0).2.1
  have hw2 : IntKind.i64.wrap (2 * H0) = 2 * H0 := by rw [IntKind.wrap_i64]; omega
  clear hr hq0 hq1 hq2 hq3
  have cz1 := sameSize_any W0 H0 a0 n0 cap0 W1 H1 a1 n1 cap1
  have cz2 := sameSize_any W2 H2 a2 n2 cap2 W3 H3 a3 n3 cap3
  cases t1 : (decide (W0 = W1) && decide (H0 = H1))
  · rw [t1] at cz1
    clear hr2 t1 cz2
    go_enter Try.func9, Try.ntmps9
    go_wp2_with fail
    refine (hA0 _ (HP0.out.below HS0.out.below)).mono ?_
    rintro e wq0 ⟨rfl, hb⟩
    have HS1 := hide (HS0.out.next hb)
    clear hb HS0 hA0
    obtain ⟨i0, i1, i2⟩ := HS1.out.im3 4 rfl
    obtain ⟨j0, j1, j2⟩ := HS1.out.im3 3 rfl
    obtain ⟨k0, k1, k2⟩ := HS1.out.im3 2 rfl
    obtain ⟨l0, l1, l2⟩ := HS1.out.im3 1 rfl
    obtain ⟨z0, z1, z2⟩ := HS1.out.im3 0 rfl
    obtain ⟨e0, e1, e2⟩ := HS1.out.fr3 0 rfl
    go_wp2_with fail
    refine (hA1 _ (HP1.out.below HS1.out.below)).mono ?_
    rintro e wq1 ⟨rfl, hb⟩
    have HS2 := hide (HS1.out.next hb)
    clear hb HS1 hA1 i0 i1 i2 j0 j1 j2 k0 k1 k2 l0 l1 l2 z0 z1 z2 e0 e1 e2
    obtain ⟨i0, i1, i2⟩ := HS2.out.im3 4 rfl
    obtain ⟨j0, j1, j2⟩ := HS2.out.im3 3 rfl
    obtain ⟨k0, k1, k2⟩ := HS2.out.im3 2 rfl
    obtain ⟨l0, l1, l2⟩ := HS2.out.im3 1 rfl
    obtain ⟨z0, z1, z2⟩ := HS2.out.im3 0 rfl
    obtain ⟨e0, e1, e2⟩ := HS2.out.fr3 0 rfl
    go_wp2_with fail
    refine (hA2 _ (HP2.out.below HS2.out.below)).mono ?_
    rintro e wq2 ⟨rfl, hb⟩
    have HS3 := hide (HS2.out.next hb)
    clear hb HS2 hA2 i0 i1 i2 j0 j1 j2 k0 k1 k2 l0 l1 l2 z0 z1 z2 e0 e1 e2
    obtain ⟨i0, i1, i2⟩ := HS3.out.im3 4 rfl
    obtain ⟨j0, j1, j2⟩ := HS3.out.im3 3 rfl
    obtain ⟨k0, k1, k2⟩ := HS3.out.im3 2 rfl
    obtain ⟨l0, l1, l2⟩ := HS3.out.im3 1 rfl
    obtain ⟨z0, z1, z2⟩ := HS3.out.im3 0 rfl
    obtain ⟨e0, e1, e2⟩ := HS3.out.fr3 0 rfl
    go_wp2_with fail
    refine (hA3 _ (HP3.out.below HS3.out.below)).mono ?_
    rintro e wq3 ⟨rfl, hb⟩
    have HS4 := hide (HS3.out.next hb)
    clear hb HS3 hA3 i0 i1 i2 j0 j1 j2 k0 k1 k2 l0 l1 l2 z0 z1 z2 e0 e1 e2
    obtain ⟨i0, i1, i2⟩ := HS4.out.im3 4 rfl
    obtain ⟨j0, j1, j2⟩ := HS4.out.im3 3 rfl
    obtain ⟨k0, k1, k2⟩ := HS4.out.im3 2 rfl
    obtain ⟨l0, l1, l2⟩ := HS4.out.im3 1 rfl
    obtain ⟨z0, z1, z2⟩ := HS4.out.im3 0 rfl
    obtain ⟨e0, e1, e2⟩ := HS4.out.fr3 0 rfl
    go_wp2_with fail
    refine (cz1 _).mono ?_
    rintro e wq4 ⟨rfl, hb⟩
    have HS5 := hide (HS4.out.next hb)
    clear hb HS4 cz1 i0 i1 i2 j0 j1 j2 k0 k1 k2 l0 l1 l2 z0 z1 z2 e0 e1 e2
    obtain ⟨i0, i1, i2⟩ := HS5.out.im3 4 rfl
    obtain ⟨j0, j1, j2⟩ := HS5.out.im3 3 rfl
    obtain ⟨k0, k1, k2⟩ := HS5.out.im3 2 rfl
    obtain ⟨l0, l1, l2⟩ := HS5.out.im3 1 rfl
    obtain ⟨z0, z1, z2⟩ := HS5.out.im3 0 rfl
    obtain ⟨e0, e1, e2⟩ := HS5.out.fr3 0 rfl
    go_wp2_with fail
    exact bodyPost_ret (v := .tuple #[im 0 0 none 0 0, .int .i64 0]) (by simp [results, Try.results9, go_sem, z0, z1, z2]) rfl ((HS5.out.fill3 _ _ _).imNI _)
  rw [t1] at cz1 hr2
  cases t2 : (decide (W2 = W3) && decide (H2 = H3))
  · rw [t2] at cz2
    clear hr2 t1 t2
    go_enter Try.func9, Try.ntmps9
    go_wp2_with fail
    refine (hA0 _ (HP0.out.below HS0.out.below)).mono ?_
    rintro e wq0 ⟨rfl, hb⟩
    have HS1 := hide (HS0.out.next hb)
    clear hb HS0 hA0
    obtain ⟨i0, i1, i2⟩ := HS1.out.im3 4 rfl
    obtain ⟨j0, j1, j2⟩ := HS1.out.im3 3 rfl
    obtain ⟨k0, k1, k2⟩ := HS1.out.im3 2 rfl
    obtain ⟨l0, l1, l2⟩ := HS1.out.im3 1 rfl
    obtain ⟨z0, z1, z2⟩ := HS1.out.im3 0 rfl
    obtain ⟨e0, e1, e2⟩ := HS1.out.fr3 0 rfl
    go_wp2_with fail
    refine (hA1 _ (HP1.out.below HS1.out.below)).mono ?_
    rintro e wq1 ⟨rfl, hb⟩
    have HS2 := hide (HS1.out.next hb)
    clear hb HS1 hA1 i0 i1 i2 j0 j1 j2 k0 k1 k2 l0 l1 l2 z0 z1 z2 e0 e1 e2
    obtain ⟨i0, i1, i2⟩ := HS2.out.im3 4 rfl
    obtain ⟨j0, j1, j2⟩ := HS2.out.im3 3 rfl
    obtain ⟨k0, k1, k2⟩ := HS2.out.im3 2 rfl
    obtain ⟨l0, l1, l2⟩ := HS2.out.im3 1 rfl
    obtain ⟨z0, z1, z2⟩ := HS2.out.im3 0 rfl
    obtain ⟨e0, e1, e2⟩ := HS2.out.fr3 0 rfl
    go_wp2_with fail
    refine (hA2 _ (HP2.out.below HS2.out.below)).mono ?_
    rintro e wq2 ⟨rfl, hb⟩
    have HS3 := hide (HS2.out.next hb)
    clear hb HS2 hA2 i0 i1 i2 j0 j1 j2 k0 k1 k2 l0 l1 l2 z0 z1 z2 e0 e1 e2
    obtain ⟨i0, i1, i2⟩ := HS3.out.im3 4 rfl
    obtain ⟨j0, j1, j2⟩ := HS3.out.im3 3 rfl
    obtain ⟨k0, k1, k2⟩ := HS3.out.im3 2 rfl
    obtain ⟨l0, l1, l2⟩ := HS3.out.im3 1 rfl
    obtain ⟨z0, z1, z2⟩ := HS3.out.im3 0 rfl
    obtain ⟨e0, e1, e2⟩ := HS3.out.fr3 0 rfl
    go_wp2_with fail
    refine (hA3 _ (HP3.out.below HS3.out.below)).mono ?_
    rintro e wq3 ⟨rfl, hb⟩
    have HS4 := hide (HS3.out.next hb)
    clear hb HS3 hA3 i0 i1 i2 j0 j1 j2 k0 k1 k2 l0 l1 l2 z0 z1 z2 e0 e1 e2
    obtain ⟨i0, i1, i2⟩ := HS4.out.im3 4 rfl
    obtain ⟨j0, j1, j2⟩ := HS4.out.im3 3 rfl
    obtain ⟨k0, k1, k2⟩ := HS4.out.im3 2 rfl
    obtain ⟨l0, l1, l2⟩ := HS4.out.im3 1 rfl
    obtain ⟨z0, z1, z2⟩ := HS4.out.im3 0 rfl
    obtain ⟨e0, e1, e2⟩ := HS4.out.fr3 0 rfl
    go_wp2_with fail
    refine (cz1 _).mono ?_
    rintro e wq4 ⟨rfl, hb⟩
    have HS5 := hide (HS4.out.next hb)
    clear hb HS4 cz1 i0 i1 i2 j0 j1 j2 k0 k1 k2 l0 l1 l2 z0 z1 z2 e0 e1 e2
    obtain ⟨i0, i1, i2⟩ := HS5.out.im3 4 rfl
    obtain ⟨j0, j1, j2⟩ := HS5.out.im3 3 rfl
    obtain ⟨k0, k1, k2⟩ := HS5.out.im3 2 rfl
    obtain ⟨l0, l1, l2⟩ := HS5.out.im3 1 rfl
    obtain ⟨z0, z1, z2⟩ := HS5.out.im3 0 rfl
    obtain ⟨e0, e1, e2⟩ := HS5.out.fr3 0 rfl
    go_wp2_with fail
    refine (cz2 _).mono ?_
    rintro e wq5 ⟨rfl, hb⟩
    have HS6 := hide (HS5.out.next hb)
    clear hb HS5 cz2 i0 i1 i2 j0 j1 j2 k0 k1 k2 l0 l1 l2 z0 z1 z2 e0 e1 e2
    obtain ⟨i0, i1, i2⟩ := HS6.out.im3 4 rfl
    obtain ⟨j0, j1, j2⟩ := HS6.out.im3 3 rfl
    obtain ⟨k0, k1, k2⟩ := HS6.out.im3 2 rfl
    obtain ⟨l0, l1, l2⟩ := HS6.out.im3 1 rfl
    obtain ⟨z0, z1, z2⟩ := HS6.out.im3 0 rfl
    obtain ⟨e0, e1, e2⟩ := HS6.out.fr3 0 rfl
    go_wp2_with fail
    exact bodyPost_ret (v := .tuple #[im 0 0 none 0 0, .int .i64 0]) (by simp [results, Try.results9, go_sem, z0, z1, z2]) rfl ((HS6.out.fill3 _ _ _).imNI _)
  rw [t2] at cz2 hr2
  by_cases t3 : W2 = W0
  case neg =>
    have t3' : (W2 != W0) = true := by simp [t3]
    clear hr2 t1 t2 t3
    go_enter Try.func9, Try.ntmps9
    go_wp2_with fail
    refine (hA0 _ (HP0.out.below HS0.out.below)).mono ?_
    rintro e wq0 ⟨rfl, hb⟩
    have HS1 := hide (HS0.out.next hb)
    clear hb HS0 hA0
    obtain ⟨i0, i1, i2⟩ := HS1.out.im3 4 rfl
    obtain ⟨j0, j1, j2⟩ := HS1.out.im3 3 rfl
    obtain ⟨k0, k1, k2⟩ := HS1.out.im3 2 rfl
    obtain ⟨l0, l1, l2⟩ := HS1.out.im3 1 rfl
    obtain ⟨z0, z1, z2⟩ := HS1.out.im3 0 rfl
    obtain ⟨e0, e1, e2⟩ := HS1.out.fr3 0 rfl
    go_wp2_with fail
    refine (hA1 _ (HP1.out.below HS1.out.below)).mono ?_
    rintro e wq1 ⟨rfl, hb⟩
    have HS2 := hide (HS1.out.next hb)
    clear hb HS1 hA1 i0 i1 i2 j0 j1 j2 k0 k1 k2 l0 l1 l2 z0 z1 z2 e0 e1 e2
    obtain ⟨i0, i1, i2⟩ := HS2.out.im3 4 rfl
    obtain ⟨j0, j1, j2⟩ := HS2.out.im3 3 rfl
    obtain ⟨k0, k1, k2⟩ := HS2.out.im3 2 rfl
    obtain ⟨l0, l1, l2⟩ := HS2.out.im3 1 rfl
    obtain ⟨z0, z1, z2⟩ := HS2.out.im3 0 rfl
    obtain ⟨e0, e1, e2⟩ := HS2.out.fr3 0 rfl
    go_wp2_with fail
    refine (hA2 _ (HP2.out.below HS2.out.below)).mono ?_
    rintro e wq2 ⟨rfl, hb⟩
    have HS3 := hide (HS2.out.next hb)
    clear hb HS2 hA2 i0 i1 i2 j0 j1 j2 k0 k1 k2 l0 l1 l2 z0 z1 z2 e0 e1 e2
    obtain ⟨i0, i1, i2⟩ := HS3.out.im3 4 rfl
    obtain ⟨j0, j1, j2⟩ := HS3.out.im3 3 rfl
    obtain ⟨k0, k1, k2⟩ := HS3.out.im3 2 rfl
    obtain ⟨l0, l1, l2⟩ := HS3.out.im3 1 rfl
    obtain ⟨z0, z1, z2⟩ := HS3.out.im3 0 rfl
    obtain ⟨e0, e1, e2⟩ := HS3.out.fr3 0 rfl
    go_wp2_with fail
    refine (hA3 _ (HP3.out.below HS3.out.below)).mono ?_
    rintro e wq3 ⟨rfl, hb⟩
    have HS4 := hide (HS3.out.next hb)
    clear hb HS3 hA3 i0 i1 i2 j0 j1 j2 k0 k1 k2 l0 l1 l2 z0 z1 z2 e0 e1 e2
    obtain ⟨i0, i1, i2⟩ := HS4.out.im3 4 rfl
    obtain ⟨j0, j1, j2⟩ := HS4.out.im3 3 rfl
    obtain ⟨k0, k1, k2⟩ := HS4.out.im3 2 rfl
    obtain ⟨l0, l1, l2⟩ := HS4.out.im3 1 rfl
    obtain ⟨z0, z1, z2⟩ := HS4.out.im3 0 rfl
    obtain ⟨e0, e1, e2⟩ := HS4.out.fr3 0 rfl
    go_wp2_with fail
    refine (cz1 _).mono ?_
    rintro e wq4 ⟨rfl, hb⟩
    have HS5 := hide (HS4.out.next hb)
    clear hb HS4 cz1 i0 i1 i2 j0 j1 j2 k0 k1 k2 l0 l1 l2 z0 z1 z2 e0 e1 e2
    obtain ⟨i0, i1, i2⟩ := HS5.out.im3 4 rfl
    obtain ⟨j0, j1, j2⟩ := HS5.out.im3 3 rfl
    obtain ⟨k0, k1, k2⟩ := HS5.out.im3 2 rfl
    obtain ⟨l0, l1, l2⟩ := HS5.out.im3 1 rfl
    obtain ⟨z0, z1, z2⟩ := HS5.out.im3 0 rfl
    obtain ⟨e0, e1, e2⟩ := HS5.out.fr3 0 rfl
    go_wp2_with fail
    refine (cz2 _).mono ?_
    rintro e wq5 ⟨rfl, hb⟩
    have HS6 := hide (HS5.out.next hb)
    clear hb HS5 cz2 i0 i1 i2 j0 j1 j2 k0 k1 k2 l0 l1 l2 z0 z1 z2 e0 e1 e2
    obtain ⟨i0, i1, i2⟩ := HS6.out.im3 4 rfl
    obtain ⟨j0, j1, j2⟩ := HS6.out.im3 3 rfl
    obtain ⟨k0, k1, k2⟩ := HS6.out.im3 2 rfl
    obtain ⟨l0, l1, l2⟩ := HS6.out.im3 1 rfl
    obtain ⟨z0, z1, z2⟩ := HS6.out.im3 0 rfl
    obtain ⟨e0, e1, e2⟩ := HS6.out.fr3 0 rfl
    go_wp2_with fail
    exact bodyPost_ret (v := .tuple #[im 0 0 none 0 0, .int .i64 0]) (by simp [results, Try.results9, go_sem, z0, z1, z2]) rfl ((HS6.out.fill3 _ _ _).imNI _)
  have t3' : (W2 != W0) = false := by simp [t3]
  have t4' : (H2 != 2 * H0) = true := by
    rw [decide_eq_true t3] at hr2
    simpa using hr2
  clear hr2 t1 t2 t3
  go_enter Try.func9, Try.ntmps9
  go_wp2_with fail
  refine (hA0 _ (HP0.out.below HS0.out.below)).mono ?_
  rintro e wq0 ⟨rfl, hb⟩
  have HS1 := hide (HS0.out.next hb)
  clear hb HS0 hA0
  obtain ⟨i0, i1, i2⟩ := HS1.out.im3 4 rfl
  obtain ⟨j0, j1, j2⟩ := HS1.out.im3 3 rfl
  obtain ⟨k0, k1, k2⟩ := HS1.out.im3 2 rfl
  obtain ⟨l0, l1, l2⟩ := HS1.out.im3 1 rfl
  obtain ⟨z0, z1, z2⟩ := HS1.out.im3 0 rfl
  obtain ⟨e0, e1, e2⟩ := HS1.out.fr3 0 rfl
  go_wp2_with fail
  refine (hA1 _ (HP1.out.below HS1.out.below)).mono ?_
  rintro e wq1 ⟨rfl, hb⟩
  have HS2 := hide (HS1.out.next hb)
  clear hb HS1 hA1 i0 i1 i2 j0 j1 j2 k0 k1 k2 l0 l1 l2 z0 z1 z2 e0 e1 e2
  obtain ⟨i0, i1, i2⟩ := HS2.out.im3 4 rfl
  obtain ⟨j0, j1, j2⟩ := HS2.out.im3 3 rfl
  obtain ⟨k0, k1, k2⟩ := HS2.out.im3 2 rfl
  obtain ⟨l0, l1, l2⟩ := HS2.out.im3 1 rfl
  obtain ⟨z0, z1, z2⟩ := HS2.out.im3 0 rfl
  obtain ⟨e0, e1, e2⟩ := HS2.out.fr3 0 rfl
  go_wp2_with fail
  refine (hA2 _ (HP2.out.below HS2.out.below)).mono ?_
  rintro e wq2 ⟨rfl, hb⟩
  have HS3 := hide (HS2.out.next hb)
  clear hb HS2 hA2 i0 i1 i2 j0 j1 j2 k0 k1 k2 l0 l1 l2 z0 z1 z2 e0 e1 e2
  obtain ⟨i0, i1, i2⟩ := HS3.out.im3 4 rfl
  obtain ⟨j0, j1, j2⟩ := HS3.out.im3 3 rfl
  obtain ⟨k0, k1, k2⟩ := HS3.out.im3 2 rfl
  obtain ⟨l0, l1, l2⟩ := HS3.out.im3 1 rfl
  obtain ⟨z0, z1, z2⟩ := HS3.out.im3 0 rfl
  obtain ⟨e0, e1, e2⟩ := HS3.out.fr3 0 rfl
  go_wp2_with fail
  refine (hA3 _ (HP3.out.below HS3.out.below)).mono ?_
  rintro e wq3 ⟨rfl, hb⟩
  have HS4 := hide (HS3.out.next hb)
  clear hb HS3 hA3 i0 i1 i2 j0 j1 j2 k0 k1 k2 l0 l1 l2 z0 z1 z2 e0 e1 e2
  obtain ⟨i0, i1, i2⟩ := HS4.out.im3 4 rfl
  obtain ⟨j0, j1, j2⟩ := HS4.out.im3 3 rfl
  obtain ⟨k0, k1, k2⟩ := HS4.out.im3 2 rfl
  obtain ⟨l0, l1, l2⟩ := HS4.out.im3 1 rfl
  obtain ⟨z0, z1, z2⟩ := HS4.out.im3 0 rfl
  obtain ⟨e0, e1, e2⟩ := HS4.out.fr3 0 rfl
  go_wp2_with fail
  refine (cz1 _).mono ?_
  rintro e wq4 ⟨rfl, hb⟩
  have HS5 := hide (HS4.out.next hb)
  clear hb HS4 cz1 i0 i1 i2 j0 j1 j2 k0 k1 k2 l0 l1 l2 z0 z1 z2 e0 e1 e2
  obtain ⟨i0, i1, i2⟩ := HS5.out.im3 4 rfl
  obtain ⟨j0, j1, j2⟩ := HS5.out.im3 3 rfl
  obtain ⟨k0, k1, k2⟩ := HS5.out.im3 2 rfl
  obtain ⟨l0, l1, l2⟩ := HS5.out.im3 1 rfl
  obtain ⟨z0, z1, z2⟩ := HS5.out.im3 0 rfl
  obtain ⟨e0, e1, e2⟩ := HS5.out.fr3 0 rfl
  go_wp2_with fail
  refine (cz2 _).mono ?_
  rintro e wq5 ⟨rfl, hb⟩
  have HS6 := hide (HS5.out.next hb)
  clear hb HS5 cz2 i0 i1 i2 j0 j1 j2 k0 k1 k2 l0 l1 l2 z0 z1 z2 e0 e1 e2
  obtain ⟨i0, i1, i2⟩ := HS6.out.im3 4 rfl
  obtain ⟨j0, j1, j2⟩ := HS6.out.im3 3 rfl
  obtain ⟨k0, k1, k2⟩ := HS6.out.im3 2 rfl
  obtain ⟨l0, l1, l2⟩ := HS6.out.im3 1 rfl
  obtain ⟨z0, z1, z2⟩ := HS6.out.im3 0 rfl
  obtain ⟨e0, e1, e2⟩ := HS6.out.fr3 0 rfl
  go_wp2_with fail
  exact bodyPost_ret (v := .tuple #[im 0 0 none 0 0, .int .i64 0]) (by simp [results, Try.results9, go_sem, z0, z1, z2]) rfl ((HS6.out.fill3 _ _ _).imNI _)

end Go.Proofs.Ytpeocbhnnpppjaa

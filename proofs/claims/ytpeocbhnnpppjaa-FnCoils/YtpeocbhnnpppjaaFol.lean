/- Folding: the specification. -/
import Derived.Test.YtpeocbhnnpppjaaRsd
import Derived.Deep.RegionHeld
namespace Go.Proofs.Ytpeocbhnnpppjaa
open Go.RowKit

/-- can the two be folded -/
def foldB (W H : Int) (n : Nat) (f : Nat → Int) (W' H' : Int) (n' : Nat) (g : Nat → Int) : Bool :=
  okB W H n f && (okB W' H' n' g && (decide (W = W') && (decide (H = H') && decide (H % 2 = 0))))
/-- the folded pixels, N apart -/
def foldF (N : Nat) (f g : Nat → Int) (k : Nat) : Int := res (f k * g k + f (k + N) * g (k + N))
theorem res_mul (a b c d : Int) : res (res a * res b + res c * res d) = res (a * b + c * d) := by
  unfold res
  rw [Int.add_emod, ← Int.mul_emod, ← Int.mul_emod, ← Int.add_emod]

abbrev W3 (w : World) (W H : Int) (s : Value) (W' H' : Int) (s' : Value) : World := ((w.alloc (.cells #[.int .i64 W, .int .i64 H, s] 26)).alloc (.cells #[.int .i64 W', .int .i64 H', s'] 26)).alloc (.cells #[.int .i64 0, .int .i64 0, .slice none 0 0] 26)
theorem St.three (w : World) (W H : Int) (s : Value) (W' H' : Int) (s' : Value) : St w [(w.heap.size + 2, [.int .i64 0, .int .i64 0, .slice none 0 0]), (w.heap.size + 1, [.int .i64 W', .int .i64 H', s']), (w.heap.size, [.int .i64 W, .int .i64 H, s])] [] (W3 w W H s W' H' s') :=
  (((St.start w).box [.int .i64 W, .int .i64 H, s] 26).box' [.int .i64 W', .int .i64 H', s'] 26 (by simp)).box' [.int .i64 0, .int .i64 0, .slice none 0 0] 26 (by simp)

/-- the shape of what is folded -/
theorem fold_shape {W H : Int} {n : Nat} {f : Nat → Int} {n' : Nat} {g : Nat → Int} (hq : okB W H n f = true) (hq' : okB W H n' g = true) (he : H % 2 = 0) :
    ∃ m M : Nat, W = (m : Int) ∧ H = ((2 * M : Nat) : Int) ∧ 1 ≤ m ∧ m ≤ 64 ∧ 1 ≤ M ∧ M ≤ 32 ∧ n = 2 * (m * M) ∧ n' = 2 * (m * M) := by
  obtain ⟨q1, q2, q3, _⟩ := okB_parts hq
  obtain ⟨_, _, q3', _⟩ := okB_parts hq'
  obtain ⟨a1, a2⟩ := side_bounds q1
  obtain ⟨b1, b2⟩ := side_bounds q2
  have e : W * H = ((2 * (W.toNat * (H / 2).toNat) : Nat) : Int) := by
    obtain ⟨x, hx, hx2⟩ : ∃ x : Nat, H = 2 * (x : Int) ∧ H / 2 = (x : Int) := ⟨(H / 2).toNat, by omega, by omega⟩
    obtain ⟨y, hy⟩ : ∃ y : Nat, W = (y : Int) := ⟨W.toNat, by omega⟩
    rw [hx2, hx, hy, Int.toNat_natCast, Int.toNat_natCast, Int.natCast_mul, Int.natCast_mul, Int.mul_left_comm]
    rfl
  exact ⟨W.toNat, (H / 2).toNat, by omega, by omega, by omega, by omega, by omega, by omega, by omega, by omega⟩

theorem sameSize_any (W H : Int) (a : Option Addr) (n cap : Nat) (W' H' : Int) (a' : Option Addr) (n' cap' : Nat) (w : World) :
    Calls Try.prog 19 #[im W H a n cap, im W' H' a' n' cap'] w fun e w' => e = .returned (.bool (decide (W = W') && decide (H = H'))) ∧ Below w.heap.size w w' := by
  have HB0 : Hid (∀ o o', Below w.heap.size w ((w.alloc o).alloc o')) := fun o o' => (bnew _ _).alloc (by simp) _
  by_cases h1 : W = W'
  · by_cases h2 : H = H'
    · have e1 : (W == W') = true := by simp [h1]
      have e2 : (H == H') = true := by simp [h2]
      rw [decide_eq_true h1, decide_eq_true h2]
      subst h1 h2
      go_enter Try.func19, Try.ntmps19
      go_wp2_with fail
      go_ret
      exact ⟨rfl, HB0.out _ _⟩
    · have e1 : (W == W') = true := by simp [h1]
      have e2 : (H == H') = false := by simp [h2]
      rw [decide_eq_true h1, decide_eq_false h2]
      subst h1
      go_enter Try.func19, Try.ntmps19
      go_wp2_with fail
      go_ret
      exact ⟨rfl, HB0.out _ _⟩
  · have e1 : (W == W') = false := by simp [h1]
    rw [decide_eq_false h1]
    go_enter Try.func19, Try.ntmps19
    go_wp2_with fail
    go_ret
    exact ⟨rfl, HB0.out _ _⟩

set_option maxRecDepth 100000 in
set_option maxHeartbeats 2000000 in
theorem specFold_no (W H : Int) (a : Option Addr) (n cap : Nat) (f : Nat → Int) (hl : n ≤ 1048576) (W' H' : Int) (a' : Option Addr) (n' cap' : Nat) (g : Nat → Int) (hl' : n' ≤ 1048576) (w : World) (h : Px a n f w) (h' : Px a' n' g w) (hr : foldB W H n f W' H' n' g = false) (s : Nat → Int) :
    Calls Try.prog 6 #[im W H a n cap, im W' H' a' n' cap'] w (ImR 0 0 0 s w) := by
  have hA := specOk_any W H a n cap f hl
  have hA' := specOk_any W' H' a' n' cap' g hl'
  have HP := hide h
  have HP' := hide h'
  have HS0 := hide (St.three w W H (.slice a n cap) W' H' (.slice a' n' cap'))
  clear h h'
  cases hq : okB W H n f
  · rw [hq] at hA
    clear hq hA' hr
    go_enter Try.func6, Try.ntmps6
    go_wp2_with fail
    refine (hA _ (HP.out.below HS0.out.below)).mono ?_
    rintro e w1 ⟨rfl, hb⟩
    have HS1 := hide (HS0.out.next hb)
    obtain ⟨z0, z1, z2⟩ := HS1.out.im3 0 rfl
    obtain ⟨e0, e1, e2⟩ := HS1.out.fr3 0 rfl
    obtain ⟨j0, j1, j2⟩ := HS1.out.im3 1 rfl
    obtain ⟨i0, i1, i2⟩ := HS1.out.im3 2 rfl
    clear hA hb HS0
    go_wp2_with fail
    exact bodyPost_ret (v := im 0 0 none 0 0) (by simp [results, Try.results6, go_sem, z0, z1, z2]) rfl ((HS1.out.fill3 _ _ _).imN _)
  rw [hq] at hA
  cases hq' : okB W' H' n' g
  · rw [hq'] at hA'
    clear hq hq' hr
    go_enter Try.func6, Try.ntmps6
    go_wp2_with fail
    refine (hA _ (HP.out.below HS0.out.below)).mono ?_
    rintro e w1 ⟨rfl, hb⟩
    have HS1 := hide (HS0.out.next hb)
    obtain ⟨z0, z1, z2⟩ := HS1.out.im3 0 rfl
    obtain ⟨e0, e1, e2⟩ := HS1.out.fr3 0 rfl
    obtain ⟨j0, j1, j2⟩ := HS1.out.im3 1 rfl
    obtain ⟨i0, i1, i2⟩ := HS1.out.im3 2 rfl
    clear hA hb HS0
    go_wp2_with fail
    refine (hA' _ (HP'.out.below HS1.out.below)).mono ?_
    rintro e w2 ⟨rfl, hb⟩
    have HS2 := hide (HS1.out.next hb)
    clear i0 i1 i2 j0 j1 j2 z0 z1 z2 e0 e1 e2
    obtain ⟨z0, z1, z2⟩ := HS2.out.im3 0 rfl
    obtain ⟨e0, e1, e2⟩ := HS2.out.fr3 0 rfl
    obtain ⟨j0, j1, j2⟩ := HS2.out.im3 1 rfl
    obtain ⟨i0, i1, i2⟩ := HS2.out.im3 2 rfl
    clear hA' hb HS1
    go_wp2_with fail
    exact bodyPost_ret (v := im 0 0 none 0 0) (by simp [results, Try.results6, go_sem, z0, z1, z2]) rfl ((HS2.out.fill3 _ _ _).imN _)
  rw [hq'] at hA'
  have hr2 : ¬ (W = W' ∧ H = H' ∧ H % 2 = 0) := by
    rintro ⟨r1, r2, r3⟩
    unfold foldB at hr
    rw [hq, hq', decide_eq_true r1, decide_eq_true r2, decide_eq_true r3] at hr
    cases hr
  have hodd : ∀ k : Int, H % 2 ≠ 0 → ((H % 2 != 0) = true) := by
    intro _ h0
    simpa using h0
  have hH := (okB_parts hq).2.1
  obtain ⟨p1, p2⟩ := side_bounds hH
  clear hr hH
  by_cases hW : W = W'
  case neg =>
    have hWb : (W != W') = true := by simp [hW]
    clear hq hq' hW hr2 hodd p1 p2
    go_enter Try.func6, Try.ntmps6
    go_wp2_with fail
    refine (hA _ (HP.out.below HS0.out.below)).mono ?_
    rintro e w1 ⟨rfl, hb⟩
    have HS1 := hide (HS0.out.next hb)
    obtain ⟨z0, z1, z2⟩ := HS1.out.im3 0 rfl
    obtain ⟨e0, e1, e2⟩ := HS1.out.fr3 0 rfl
    obtain ⟨j0, j1, j2⟩ := HS1.out.im3 1 rfl
    obtain ⟨i0, i1, i2⟩ := HS1.out.im3 2 rfl
    clear hA hb HS0
    go_wp2_with fail
    refine (hA' _ (HP'.out.below HS1.out.below)).mono ?_
    rintro e w2 ⟨rfl, hb⟩
    have HS2 := hide (HS1.out.next hb)
    clear i0 i1 i2 j0 j1 j2 z0 z1 z2 e0 e1 e2
    obtain ⟨z0, z1, z2⟩ := HS2.out.im3 0 rfl
    obtain ⟨e0, e1, e2⟩ := HS2.out.fr3 0 rfl
    obtain ⟨j0, j1, j2⟩ := HS2.out.im3 1 rfl
    obtain ⟨i0, i1, i2⟩ := HS2.out.im3 2 rfl
    clear hA' hb HS1
    go_wp2_with fail
    exact bodyPost_ret (v := im 0 0 none 0 0) (by simp [results, Try.results6, go_sem, z0, z1, z2]) rfl ((HS2.out.fill3 _ _ _).imN _)
  have hWb : (W != W') = false := by simp [hW]
  by_cases hH : H = H'
  case neg =>
    have hHb : (H != H') = true := by simp [hH]
    clear hq hq' hW hH hr2 hodd p1 p2
    go_enter Try.func6, Try.ntmps6
    go_wp2_with fail
    refine (hA _ (HP.out.below HS0.out.below)).mono ?_
    rintro e w1 ⟨rfl, hb⟩
    have HS1 := hide (HS0.out.next hb)
    obtain ⟨z0, z1, z2⟩ := HS1.out.im3 0 rfl
    obtain ⟨e0, e1, e2⟩ := HS1.out.fr3 0 rfl
    obtain ⟨j0, j1, j2⟩ := HS1.out.im3 1 rfl
    obtain ⟨i0, i1, i2⟩ := HS1.out.im3 2 rfl
    clear hA hb HS0
    go_wp2_with fail
    refine (hA' _ (HP'.out.below HS1.out.below)).mono ?_
    rintro e w2 ⟨rfl, hb⟩
    have HS2 := hide (HS1.out.next hb)
    clear i0 i1 i2 j0 j1 j2 z0 z1 z2 e0 e1 e2
    obtain ⟨z0, z1, z2⟩ := HS2.out.im3 0 rfl
    obtain ⟨e0, e1, e2⟩ := HS2.out.fr3 0 rfl
    obtain ⟨j0, j1, j2⟩ := HS2.out.im3 1 rfl
    obtain ⟨i0, i1, i2⟩ := HS2.out.im3 2 rfl
    clear hA' hb HS1
    go_wp2_with fail
    exact bodyPost_ret (v := im 0 0 none 0 0) (by simp [results, Try.results6, go_sem, z0, z1, z2]) rfl ((HS2.out.fill3 _ _ _).imN _)
  have hHb : (H != H') = false := by simp [hH]
  have ht := hodd 0 (fun e => hr2 ⟨hW, hH, e⟩)
  clear hq hq' hW hH hr2 hodd
  go_enter Try.func6, Try.ntmps6
  go_wp2_with fail
  refine (hA _ (HP.out.below HS0.out.below)).mono ?_
  rintro e w1 ⟨rfl, hb⟩
  have HS1 := hide (HS0.out.next hb)
  obtain ⟨z0, z1, z2⟩ := HS1.out.im3 0 rfl
  obtain ⟨e0, e1, e2⟩ := HS1.out.fr3 0 rfl
  obtain ⟨j0, j1, j2⟩ := HS1.out.im3 1 rfl
  obtain ⟨i0, i1, i2⟩ := HS1.out.im3 2 rfl
  clear hA hb HS0
  go_wp2_with fail
  refine (hA' _ (HP'.out.below HS1.out.below)).mono ?_
  rintro e w2 ⟨rfl, hb⟩
  have HS2 := hide (HS1.out.next hb)
  clear i0 i1 i2 j0 j1 j2 z0 z1 z2 e0 e1 e2
  obtain ⟨z0, z1, z2⟩ := HS2.out.im3 0 rfl
  obtain ⟨e0, e1, e2⟩ := HS2.out.fr3 0 rfl
  obtain ⟨j0, j1, j2⟩ := HS2.out.im3 1 rfl
  obtain ⟨i0, i1, i2⟩ := HS2.out.im3 2 rfl
  clear hA' hb HS1
  go_wp2_with fail
  exact bodyPost_ret (v := im 0 0 none 0 0) (by simp [results, Try.results6, go_sem, z0, z1, z2]) rfl ((HS2.out.fill3 _ _ _).imN _)

set_option maxRecDepth 100000 in
set_option maxHeartbeats 2000000 in
theorem implFold_no (W H : Int) (a : Option Addr) (n cap : Nat) (f : Nat → Int) (hl : n ≤ 1048576) (W' H' : Int) (a' : Option Addr) (n' cap' : Nat) (g : Nat → Int) (hl' : n' ≤ 1048576) (w : World) (h : Px a n f w) (h' : Px a' n' g w) (hr : foldB W H n f W' H' n' g = false) (s : Nat → Int) :
    Calls Try.prog 7 #[im W H a n cap, im W' H' a' n' cap'] w (ImR 0 0 0 s w) := by
  have hA := implOk_any W H a n cap f hl
  have hA' := implOk_any W' H' a' n' cap' g hl'
  have HP := hide h
  have HP' := hide h'
  have HS0 := hide (St.three w W H (.slice a n cap) W' H' (.slice a' n' cap'))
  clear h h'
  cases hq : okB W H n f
  · rw [hq] at hA
    clear hq hA' hr
    go_enter Try.func7, Try.ntmps7
    go_wp2_with fail
    refine (hA _ (HP.out.below HS0.out.below)).mono ?_
    rintro e w1 ⟨rfl, hb⟩
    have HS1 := hide (HS0.out.next hb)
    obtain ⟨z0, z1, z2⟩ := HS1.out.im3 0 rfl
    obtain ⟨e0, e1, e2⟩ := HS1.out.fr3 0 rfl
    obtain ⟨j0, j1, j2⟩ := HS1.out.im3 1 rfl
    obtain ⟨i0, i1, i2⟩ := HS1.out.im3 2 rfl
    clear hA hb HS0
    go_wp2_with fail
    exact bodyPost_ret (v := im 0 0 none 0 0) (by simp [results, Try.results7, go_sem, z0, z1, z2]) rfl ((HS1.out.fill3 _ _ _).imN _)
  rw [hq] at hA
  cases hq' : okB W' H' n' g
  · rw [hq'] at hA'
    clear hq hq' hr
    go_enter Try.func7, Try.ntmps7
    go_wp2_with fail
    refine (hA _ (HP.out.below HS0.out.below)).mono ?_
    rintro e w1 ⟨rfl, hb⟩
    have HS1 := hide (HS0.out.next hb)
    obtain ⟨z0, z1, z2⟩ := HS1.out.im3 0 rfl
    obtain ⟨e0, e1, e2⟩ := HS1.out.fr3 0 rfl
    obtain ⟨j0, j1, j2⟩ := HS1.out.im3 1 rfl
    obtain ⟨i0, i1, i2⟩ := HS1.out.im3 2 rfl
    clear hA hb HS0
    go_wp2_with fail
    refine (hA' _ (HP'.out.below HS1.out.below)).mono ?_
    rintro e w2 ⟨rfl, hb⟩
    have HS2 := hide (HS1.out.next hb)
    clear i0 i1 i2 j0 j1 j2 z0 z1 z2 e0 e1 e2
    obtain ⟨z0, z1, z2⟩ := HS2.out.im3 0 rfl
    obtain ⟨e0, e1, e2⟩ := HS2.out.fr3 0 rfl
    obtain ⟨j0, j1, j2⟩ := HS2.out.im3 1 rfl
    obtain ⟨i0, i1, i2⟩ := HS2.out.im3 2 rfl
    clear hA' hb HS1
    go_wp2_with fail
    exact bodyPost_ret (v := im 0 0 none 0 0) (by simp [results, Try.results7, go_sem, z0, z1, z2]) rfl ((HS2.out.fill3 _ _ _).imN _)
  rw [hq'] at hA'
  have hr2 : ¬ (W = W' ∧ H = H' ∧ H % 2 = 0) := by
    rintro ⟨r1, r2, r3⟩
    unfold foldB at hr
    rw [hq, hq', decide_eq_true r1, decide_eq_true r2, decide_eq_true r3] at hr
    cases hr
  have hodd : ∀ k : Int, H % 2 ≠ 0 → ((H % 2 != 0) = true) := by
    intro _ h0
    simpa using h0
  have hH := (okB_parts hq).2.1
  obtain ⟨p1, p2⟩ := side_bounds hH
  clear hr hH
  have cz := sameSize_any W H a n cap W' H' a' n' cap'
  cases hz : (decide (W = W') && decide (H = H'))
  · rw [hz] at cz
    clear hq hq' hr2 hodd p1 p2 hz
    go_enter Try.func7, Try.ntmps7
    go_wp2_with fail
    refine (hA _ (HP.out.below HS0.out.below)).mono ?_
    rintro e w1 ⟨rfl, hb⟩
    have HS1 := hide (HS0.out.next hb)
    obtain ⟨z0, z1, z2⟩ := HS1.out.im3 0 rfl
    obtain ⟨e0, e1, e2⟩ := HS1.out.fr3 0 rfl
    obtain ⟨j0, j1, j2⟩ := HS1.out.im3 1 rfl
    obtain ⟨i0, i1, i2⟩ := HS1.out.im3 2 rfl
    clear hA hb HS0
    go_wp2_with fail
    refine (hA' _ (HP'.out.below HS1.out.below)).mono ?_
    rintro e w2 ⟨rfl, hb⟩
    have HS2 := hide (HS1.out.next hb)
    clear i0 i1 i2 j0 j1 j2 z0 z1 z2 e0 e1 e2
    obtain ⟨z0, z1, z2⟩ := HS2.out.im3 0 rfl
    obtain ⟨e0, e1, e2⟩ := HS2.out.fr3 0 rfl
    obtain ⟨j0, j1, j2⟩ := HS2.out.im3 1 rfl
    obtain ⟨i0, i1, i2⟩ := HS2.out.im3 2 rfl
    clear hA' hb HS1
    go_wp2_with fail
    refine (cz _).mono ?_
    rintro e w3 ⟨rfl, hb⟩
    have HS3 := hide (HS2.out.next hb)
    clear i0 i1 i2 j0 j1 j2 z0 z1 z2 e0 e1 e2
    obtain ⟨z0, z1, z2⟩ := HS3.out.im3 0 rfl
    obtain ⟨e0, e1, e2⟩ := HS3.out.fr3 0 rfl
    obtain ⟨j0, j1, j2⟩ := HS3.out.im3 1 rfl
    obtain ⟨i0, i1, i2⟩ := HS3.out.im3 2 rfl
    clear cz hb HS2
    go_wp2_with fail
    exact bodyPost_ret (v := im 0 0 none 0 0) (by simp [results, Try.results7, go_sem, z0, z1, z2]) rfl ((HS3.out.fill3 _ _ _).imN _)
  rw [hz] at cz
  simp only [Bool.and_eq_true, decide_eq_true_eq] at hz
  have ht := hodd 0 (fun e => hr2 ⟨hz.1, hz.2, e⟩)
  clear hq hq' hr2 hodd hz
  go_enter Try.func7, Try.ntmps7
  go_wp2_with fail
  refine (hA _ (HP.out.below HS0.out.below)).mono ?_
  rintro e w1 ⟨rfl, hb⟩
  have HS1 := hide (HS0.out.next hb)
  obtain ⟨z0, z1, z2⟩ := HS1.out.im3 0 rfl
  obtain ⟨e0, e1, e2⟩ := HS1.out.fr3 0 rfl
  obtain ⟨j0, j1, j2⟩ := HS1.out.im3 1 rfl
  obtain ⟨i0, i1, i2⟩ := HS1.out.im3 2 rfl
  clear hA hb HS0
  go_wp2_with fail
  refine (hA' _ (HP'.out.below HS1.out.below)).mono ?_
  rintro e w2 ⟨rfl, hb⟩
  have HS2 := hide (HS1.out.next hb)
  clear i0 i1 i2 j0 j1 j2 z0 z1 z2 e0 e1 e2
  obtain ⟨z0, z1, z2⟩ := HS2.out.im3 0 rfl
  obtain ⟨e0, e1, e2⟩ := HS2.out.fr3 0 rfl
  obtain ⟨j0, j1, j2⟩ := HS2.out.im3 1 rfl
  obtain ⟨i0, i1, i2⟩ := HS2.out.im3 2 rfl
  clear hA' hb HS1
  go_wp2_with fail
  refine (cz _).mono ?_
  rintro e w3 ⟨rfl, hb⟩
  have HS3 := hide (HS2.out.next hb)
  clear i0 i1 i2 j0 j1 j2 z0 z1 z2 e0 e1 e2
  obtain ⟨z0, z1, z2⟩ := HS3.out.im3 0 rfl
  obtain ⟨e0, e1, e2⟩ := HS3.out.fr3 0 rfl
  obtain ⟨j0, j1, j2⟩ := HS3.out.im3 1 rfl
  obtain ⟨i0, i1, i2⟩ := HS3.out.im3 2 rfl
  clear cz hb HS2
  go_wp2_with fail
  exact bodyPost_ret (v := im 0 0 none 0 0) (by simp [results, Try.results7, go_sem, z0, z1, z2]) rfl ((HS3.out.fill3 _ _ _).imN _)

end Go.Proofs.Ytpeocbhnnpppjaa

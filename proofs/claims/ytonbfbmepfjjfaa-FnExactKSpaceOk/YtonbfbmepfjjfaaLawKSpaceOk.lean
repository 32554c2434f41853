/- What has been sampled: the law's copies and comparisons, and the law FnExactKSpaceOk. -/
import Derived.Test.YtonbfbmepfjjfaaKsp
import Derived.Deep.RegionHeld
import Derived.Deep.DeepCutAuto
namespace Go.Proofs.Ytonbfbmepfjjfaa
open Go.RowKit

theorem szKSpace_any (N : Int) (a : Option Addr) (n cap : Nat) (a' : Option Addr) (n' cap' : Nat) (hl : (n : Int) ≤ 9223372036854775807) (hl' : (n' : Int) ≤ 9223372036854775807) (w : World) :
    Calls Try.prog 47 #[ks N a n cap a' n' cap', .int .i64 1048576] w fun e w' => e = .returned (.int .i64 (if (1048576 : Int) < n then -1 else if (1048576 : Int) - n < n' then -1 else 1048576 - n - n')) ∧ Below w.heap.size w w' := by
  have c1 := sz_any a n cap 1048576 (by omega) (by omega) hl
  have HB0 : Hid (∀ o, Below w.heap.size w (w.alloc o)) := fun o => bnew w o
  by_cases h1 : (1048576 : Int) < n
  · rw [if_pos h1] at *
    clear h1 hl hl'
    go_enter Try.func47, Try.ntmps47
    go_wp2_with fail
    refine (c1 _).mono ?_
    rintro e w' ⟨rfl, rfl⟩
    go_wp2_with fail
    go_ret
    exact ⟨rfl, HB0.out _⟩
  rw [if_neg h1] at *
  have c2 := sz_any a' n' cap' (1048576 - n) (by omega) (by omega) hl'
  have h3 : ¬ (1048576 : Int) - n < 0 := by omega
  by_cases h2 : (1048576 : Int) - n < n'
  · rw [if_pos h2] at *
    clear h1 h2 hl hl'
    go_enter Try.func47, Try.ntmps47
    go_wp2_with fail
    refine (c1 _).mono ?_
    rintro e w' ⟨rfl, rfl⟩
    go_wp2_with fail
    refine (c2 _).mono ?_
    rintro e w' ⟨rfl, rfl⟩
    go_wp2_with fail
    go_ret
    exact ⟨rfl, HB0.out _⟩
  · rw [if_neg h2] at *
    have h4 : ¬ (1048576 : Int) - n - n' < 0 := by omega
    clear h1 h2 hl hl'
    go_enter Try.func47, Try.ntmps47
    go_wp2_with fail
    refine (c1 _).mono ?_
    rintro e w' ⟨rfl, rfl⟩
    go_wp2_with fail
    refine (c2 _).mono ?_
    rintro e w' ⟨rfl, rfl⟩
    go_wp2_with fail
    go_ret
    exact ⟨rfl, HB0.out _⟩

theorem toKSpace_any (N : Int) (a : Option Addr) (n cap : Nat) (f : Nat → Int) (hl : n ≤ 1048576) (a' : Option Addr) (n' cap' : Nat) (g : Nat → Int) (hl' : n' ≤ 1048576) (w : World) (h : Px a n f w) (h' : Px a' n' g w) :
    Calls Try.prog 49 #[ks N a n cap a' n' cap'] w fun e w' => ∃ b b', e = .returned (ks N (some ⟨b, 0, none⟩) n n (some ⟨b', 0, none⟩) n' n') ∧ w.heap.size ≤ b ∧ b < b' ∧ Row b n f w' ∧ Row b' n' g w' ∧ Below w.heap.size w w' := by
  have c1 := toInts_any a n cap f hl
  have c2 := toInts_any a' n' cap' g hl'
  have HP := hide h
  have HP' := hide h'
  have HS1 := hide ((((St.start w).box [.int .i64 N, .slice a n cap, .slice a' n' cap'] 57).box' [.int .i64 0, .slice none 0 0, .slice none 0 0] 34 (b := w.heap.size + 1) (by simp)).box' [.int .i64 N, .slice none 0 0, .slice none 0 0] 34 (b := w.heap.size + 2) (by simp))
  clear h h'
  go_enter Try.func49, Try.ntmps49
  go_wp2_with fail
  refine (c1 _ (HP.out.below HS1.out.below)).mono ?_
  rintro e w1 ⟨rfl, hr, hb, hs⟩
  have hsz : w.heap.size ≤ (((w.alloc (.cells #[.int .i64 N, .slice a n cap, .slice a' n' cap'] 57)).alloc (.cells #[.int .i64 0, .slice none 0 0, .slice none 0 0] 34)).alloc (.cells #[.int .i64 N, .slice none 0 0, .slice none 0 0] 34)).heap.size := HS1.out.below.size
  have HS2 := hide (HS1.out.own hb hr.v (.inr (Nat.le_refl _)))
  have HS2' := hide (St.fill (L1 := []) HS2.out 1 (.slice (some ⟨w.heap.size + 1 + 1 + 1, 0, none⟩) n n))
  have HLt : Hid (w.heap.size + 1 + 1 + 1 < w1.heap.size) := by show _ < _; simpa using hs
  simp only [World.size_alloc] at HS2 HS2'
  obtain ⟨i0, i1, i2⟩ := HS2.out.im3 2 rfl
  obtain ⟨j0, j1, j2⟩ := HS2.out.im3 0 rfl
  obtain ⟨f0, f1, f2⟩ := HS2.out.fr3 0 rfl
  clear hr hb hs HS1 c1 hsz
  go_wp2_with fail
  refine (c2 _ (HP'.out.below HS2'.out.below)).mono ?_
  rintro e w2 ⟨rfl, hr, hb, hs⟩
  have HS3 : Hid (St w [(w.heap.size + 2, [.int .i64 N, .slice (some ⟨w.heap.size + 1 + 1 + 1, 0, none⟩) n n, .slice none 0 0]), (w.heap.size + 1, [.int .i64 0, .slice none 0 0, .slice none 0 0]), (w.heap.size, [.int .i64 N, .slice a n cap, .slice a' n' cap'])] [_, _] w2) := HS2'.out.own hb hr.v (.inr (Nat.le_refl _))
  simp only [World.size_setCell] at HS3
  have HS4 := hide (St.fill3' (L1 := [_]) (St.fill (L1 := []) HS3.out 2 (.slice (some ⟨w1.heap.size, 0, none⟩) n' n')) (.int .i64 N) (.slice (some ⟨w.heap.size + 1 + 1 + 1, 0, none⟩) n n) (.slice (some ⟨w1.heap.size, 0, none⟩) n' n'))
  clear hr hb hs c2 i0 i1 i2 j0 j1 j2 f0 f1 f2 HS2 HS2'
  obtain ⟨i0, i1, i2⟩ := HS3.out.im3 1 rfl
  obtain ⟨g0, g1, g2⟩ := HS3.out.fr3 1 rfl
  obtain ⟨j0, j1, j2⟩ := HS3.out.im3 0 rfl
  obtain ⟨f0, f1, f2⟩ := HS3.out.fr3 0 rfl
  go_wp2_with fail
  refine bodyPost_ret (v := ks N (some ⟨w.heap.size + 1 + 1 + 1, 0, none⟩) n n (some ⟨w1.heap.size, 0, none⟩) n' n') (by simp [results, Try.results49, go_sem, i0, i1, i2]) rfl ⟨_, _, rfl, by omega, HLt.out, ?_, ?_, ?_⟩
  · rcases HS4.out.nthO 1 rfl with h | h
    · intro k hk; omega
    · exact h.2
  · rcases HS4.out.nthO 0 rfl with h | h
    · intro k hk; omega
    · exact h.2
  · exact HS4.out.below

theorem eqKSpace_any (N : Int) (a a1 : Option Addr) (n cap cap1 : Nat) (f : Nat → Int) (hl : n ≤ 1048576) (a' a1' : Option Addr) (n' cap' cap1' : Nat) (g : Nat → Int) (hl' : n' ≤ 1048576) (w : World) (h : Px a n f w) (h1 : Px a1 n f w) (h' : Px a' n' g w) (h1' : Px a1' n' g w) :
    Calls Try.prog 50 #[ks N a n cap a' n' cap', ks N a1 n cap1 a1' n' cap1'] w fun e w' => e = .returned (.bool true) ∧ Below w.heap.size w w' := by
  have c1 := eqInts_b a a1 n cap cap1 f hl
  have c2 := eqInts_b a' a1' n' cap' cap1' g hl'
  have HS0 := hide (((St.start w).box [.int .i64 N, .slice a n cap, .slice a' n' cap'] 34).box' [.int .i64 N, .slice a1 n cap1, .slice a1' n' cap1'] 34 (b := w.heap.size + 1) (by simp))
  have HP := hide h
  have HP1 := hide h1
  have HP' := hide h'
  have HP1' := hide h1'
  clear h h1 h' h1'
  go_enter Try.func50, Try.ntmps50
  go_wp2_with fail
  refine (c1 _ (HP.out.below HS0.out.below) (HP1.out.below HS0.out.below)).mono ?_
  rintro e w1 ⟨rfl, hb⟩
  have HS1 := hide (HS0.out.next hb)
  obtain ⟨i0, i1, i2⟩ := HS1.out.im3 1 rfl
  obtain ⟨j0, j1, j2⟩ := HS1.out.im3 0 rfl
  clear hb HS0 c1
  go_wp2_with fail
  refine (c2 _ (HP'.out.below HS1.out.below) (HP1'.out.below HS1.out.below)).mono ?_
  rintro e w2 ⟨rfl, hb⟩
  have HB := hide (HS1.out.next hb).below
  clear hb HS1 c2 i0 i1 i2 j0 j1 j2
  go_wp2_with fail
  go_ret
  exact ⟨rfl, HB.out⟩

set_option maxRecDepth 100000 in
set_option maxHeartbeats 1000000 in
theorem fnExactKSpaceOk_walk (N : Int) (a : Option Addr) (n cap : Nat) (f : Nat → Int) (hl : n ≤ maxLen) (a' : Option Addr) (n' cap' : Nat) (g : Nat → Int) (hl' : n' ≤ maxLen) (w : World) (h : Px a n f w) (h' : Px a' n' g w) :
    Calls Try.prog 11 #[ks N a n cap a' n' cap'] w fun e w' => e = .returned (.bool true) ∧ Below w.heap.size w w' := by
  unfold maxLen at hl hl'
  have hz := szKSpace_any N a n cap a' n' cap' (by omega) (by omega)
  have HS0 := hide ((St.start w).box [.int .i64 N, .slice a n cap, .slice a' n' cap'] 57)
  have HP := hide h
  have HP' := hide h'
  clear h h'
  by_cases hbig : (1048576 : Int) < n ∨ (1048576 : Int) - n < n'
  · have e : (if (1048576 : Int) < n then (-1 : Int) else if (1048576 : Int) - n < n' then -1 else 1048576 - n - n') = -1 := by
      split
      · rfl
      · rw [if_pos (by omega)]
    rw [e] at hz
    clear hbig hl hl' e
    go_enter Try.func11, Try.ntmps11
    go_wp2_with fail
    refine (hz _).mono ?_
    rintro e w1 ⟨rfl, hb⟩
    have HB := hide (HS0.out.next hb).below
    clear hb hz
    go_wp2_with fail
    go_ret
    exact ⟨rfl, HB.out⟩
  rw [if_neg (by omega), if_neg (by omega)] at hz
  have hn : ¬ 1048576 - (n : Int) - (n' : Int) < 0 := by omega
  have cT := fun w' h h' => toKSpace_any N a n cap f (by omega) a' n' cap' g (by omega) w' h h'
  have cS := fun b b' w' h h' => specKOk_any N (some ⟨b, 0, none⟩) n n f (by omega) (some ⟨b', 0, none⟩) n' n' g (by omega) w' h h'
  have cI := fun b b' w' h h' => implKOk_any N (some ⟨b, 0, none⟩) n n f (by omega) (some ⟨b', 0, none⟩) n' n' g (by omega) w' h h'
  have cA := fun b b' b1 b1' w' => eqKSpace_any N (some ⟨b, 0, none⟩) (some ⟨b1, 0, none⟩) n n n f (by omega) (some ⟨b', 0, none⟩) (some ⟨b1', 0, none⟩) n' n' n' g (by omega) w'
  generalize kB N n f n' g = r at *
  have hrr : (r != r) = false := by simp
  clear hl hl' hbig
  go_enter Try.func11, Try.ntmps11
  go_wp2_with fail
  refine (hz _).mono ?_
  rintro e w1 ⟨rfl, hb⟩
  have HS1 := hide (HS0.out.next hb)
  obtain ⟨i0, i1, i2⟩ := HS1.out.im3 0 rfl
  clear hb hz HS0
  go_wp2_with fail
  refine (cT _ (HP.out.below HS1.out.below) (HP'.out.below HS1.out.below)).mono ?_
  rintro e w2 ⟨b1, b1', rfl, -, -, hr, hr', hb⟩
  have HS2 := hide (HS1.out.next hb)
  clear HS1 hb i0 i1 i2
  go_wp2_with fail
  refine (cS _ _ _ hr.px hr'.px).mono ?_
  rintro e w3 ⟨rfl, hb⟩
  have HS3 := hide (HS2.out.next hb)
  obtain ⟨i0, i1, i2⟩ := HS3.out.im3 0 rfl
  clear HS2 hb hr hr' cS
  go_wp2_with fail
  refine (cT _ (HP.out.below HS3.out.below) (HP'.out.below HS3.out.below)).mono ?_
  rintro e w4 ⟨b2, b2', rfl, -, -, hr, hr', hb⟩
  have HS4 := hide ((HS3.out.next hb).box [.int .i64 N, .slice (some ⟨b2, 0, none⟩) n n, .slice (some ⟨b2', 0, none⟩) n' n'] 34)
  have hbn := bnew w4 (.cells #[.int .i64 N, .slice (some ⟨b2, 0, none⟩) n n, .slice (some ⟨b2', 0, none⟩) n' n'] 34)
  have HQ := hide (hr.px.below hbn)
  have HQ' := hide (hr'.px.below hbn)
  generalize hx5 : w4.alloc (.cells #[.int .i64 N, .slice (some ⟨b2, 0, none⟩) n n, .slice (some ⟨b2', 0, none⟩) n' n'] 34) = w5 at *
  clear HS3 hb hr hr' i0 i1 i2 hbn
  obtain ⟨j0, j1, j2⟩ := HS4.out.im3 0 rfl
  go_wp2_with fail
  refine (cI _ _ _ HQ.out HQ'.out).mono ?_
  rintro e w6 ⟨rfl, hb⟩
  have HS6 := hide (HS4.out.next hb)
  have HQ6 := hide (HQ.out.below hb).drew
  have HQ6' := hide (HQ'.out.below hb).drew
  clear HS4 hb j0 j1 j2 cI HQ HQ' hx5
  obtain ⟨i0, i1, i2⟩ := HS6.out.im3 1 rfl
  obtain ⟨j0, j1, j2⟩ := HS6.out.im3 0 rfl
  go_upto_region 10 with fail
  go_region_with (first
    | (go_at_call 49; (with_reducible refine (cT _ (HP.out.below HS6.out.drew.below) (HP'.out.below HS6.out.drew.below)).mono ?_); rintro e w7 ⟨b3, b3', rfl, -, -, hr, hr', hb⟩; have HS7 := hide (HS6.out.drew.next hb); obtain ⟨k0, k1, k2⟩ := HS7.out.im3 0 rfl)
    | (go_at_call 50; (with_reducible refine (cA _ _ _ _ _ (HQ6.out.below hb) hr.px (HQ6'.out.below hb) hr'.px).mono ?_); rintro e w8 ⟨rfl, hb8⟩))
  all_goals
    have HB := hide (HS7.out.next hb8).below
    clear hb hr hr' hb8 HS7 HS6 k0 k1 k2 i0 i1 i2 j0 j1 j2 HQ6 HQ6'
    go_wp2_with fail
    go_ret
    exact ⟨rfl, HB.out⟩

end Go.Proofs.Ytonbfbmepfjjfaa

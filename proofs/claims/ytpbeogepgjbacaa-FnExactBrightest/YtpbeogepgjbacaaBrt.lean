/- Brightest, the specification: all cases. -/
import Derived.Test.YtpbeogepgjbacaaBrs
namespace Go.Proofs.Ytpbeogepgjbacaa
open Go.RowKit

set_option maxRecDepth 100000 in
set_option maxHeartbeats 4000000 in
theorem specBrightNo (X Y Z : Int) (a : Option Addr) (n cap : Nat) (f : Nat → Int) (hl : n ≤ 1048576) (ax : Int) (hq : volB X Y Z n f = true) (hx : inB ax 1 3 = false) (w : World) (h : Px a n f w) (s : Nat → Int) :
    Calls Try.prog 16 #[vVolume X Y Z a n cap, .int .i64 ax] w (ImR 0 0 0 s w) := by
  have HS0 := hide (((St.start w).box [.int .i64 X, .int .i64 Y, .int .i64 Z, .slice a n cap] 29).box' [.int .i64 0, .int .i64 0, .slice none 0 0] 40 (b := w.heap.size + 1) (by simp))
  have c := specVolumeOk_any X Y Z a n cap f hl _ (h.below HS0.out.below)
  rw [hq] at c
  have cI := l1In_any ax 1 3
  rw [hx] at cI
  clear hx
  obtain ⟨i0, i1, i2, i3⟩ := HS0.out.im4 1 rfl
  clear h hq
  go_enter Try.func16, Try.ntmps16
  go_wp2_with fail
  refine c.mono ?_
  rintro e w1 ⟨rfl, hb⟩
  have HS1 := hide (HS0.out.next hb)
  clear c hb HS0 i0 i1 i2 i3
  go_wp2_with fail
  refine (cI _).mono ?_
  rintro e w2 ⟨rfl, rfl⟩
  clear cI
  obtain ⟨f0, f1, f2⟩ := HS1.out.fr3 0 rfl
  obtain ⟨j0, j1, j2⟩ := HS1.out.im3 0 rfl
  have HZ := hide (HS1.out.fill3 (.int .i64 0) (.int .i64 0) (.slice none 0 0))
  obtain ⟨wz, hz⟩ : ∃ wz, ((w2.setCell ⟨w.heap.size + 1, 0, none⟩ (.int .i64 0)).setCell ⟨w.heap.size + 1, 1, none⟩ (.int .i64 0)).setCell ⟨w.heap.size + 1, 2, none⟩ (.slice none 0 0) = wz := ⟨_, rfl⟩
  rw [hz] at HZ
  obtain ⟨z0, z1, z2⟩ := HZ.out.im3 0 rfl
  have HB := hide HZ.out.below
  clear HZ HS1
  go_wp2_with fail
  exact bodyPost_ret (v := im 0 0 none 0 0) (by simp [results, Try.results16, go_sem, z0, z1, z2]) rfl ⟨none, 0, 0, rfl, .inl rfl, .inl rfl, HB.out⟩

set_option maxRecDepth 100000 in
set_option maxHeartbeats 4000000 in
theorem specBrightBad (X Y Z : Int) (a : Option Addr) (n cap : Nat) (f : Nat → Int) (hl : n ≤ 1048576) (ax : Int) (hq : volB X Y Z n f = false) (w : World) (h : Px a n f w) (s : Nat → Int) :
    Calls Try.prog 16 #[vVolume X Y Z a n cap, .int .i64 ax] w (ImR 0 0 0 s w) := by
  have HS0 := hide (((St.start w).box [.int .i64 X, .int .i64 Y, .int .i64 Z, .slice a n cap] 29).box' [.int .i64 0, .int .i64 0, .slice none 0 0] 40 (b := w.heap.size + 1) (by simp))
  have c := specVolumeOk_any X Y Z a n cap f hl _ (h.below HS0.out.below)
  rw [hq] at c
  obtain ⟨i0, i1, i2, i3⟩ := HS0.out.im4 1 rfl
  clear h hq
  go_enter Try.func16, Try.ntmps16
  go_wp2_with fail
  refine c.mono ?_
  rintro e w1 ⟨rfl, hb⟩
  have HS1 := hide (HS0.out.next hb)
  clear c hb HS0 i0 i1 i2 i3
  obtain ⟨f0, f1, f2⟩ := HS1.out.fr3 0 rfl
  obtain ⟨j0, j1, j2⟩ := HS1.out.im3 0 rfl
  have HZ := hide (HS1.out.fill3 (.int .i64 0) (.int .i64 0) (.slice none 0 0))
  obtain ⟨wz, hz⟩ : ∃ wz, ((w1.setCell ⟨w.heap.size + 1, 0, none⟩ (.int .i64 0)).setCell ⟨w.heap.size + 1, 1, none⟩ (.int .i64 0)).setCell ⟨w.heap.size + 1, 2, none⟩ (.slice none 0 0) = wz := ⟨_, rfl⟩
  rw [hz] at HZ
  obtain ⟨z0, z1, z2⟩ := HZ.out.im3 0 rfl
  have HB := hide HZ.out.below
  clear HZ HS1
  go_wp2_with fail
  exact bodyPost_ret (v := im 0 0 none 0 0) (by simp [results, Try.results16, go_sem, z0, z1, z2]) rfl ⟨none, 0, 0, rfl, .inl rfl, .inl rfl, HB.out⟩

theorem specBrightest_any (X Y Z : Int) (a : Option Addr) (n cap : Nat) (f : Nat → Int) (hl : n ≤ 1048576) (ax : Int) (w : World) (h : Px a n f w) :
    Calls Try.prog 16 #[vVolume X Y Z a n cap, .int .i64 ax] w (ImR ((brO X Y Z n f ax).1 : Nat) ((brO X Y Z n f ax).2.1 : Nat) ((brO X Y Z n f ax).2.1 * (brO X Y Z n f ax).1) (brO X Y Z n f ax).2.2 w) := by
  unfold brO
  by_cases hq : volB X Y Z n f = true
  · rw [if_pos hq]
    obtain ⟨hX, hY, hZ, hn, hn2⟩ := volB_parts hq
    unfold brQ
    by_cases x0 : inB ax 1 3 = false
    · have hne : ¬ ax = 1 ∧ ¬ ax = 2 ∧ ¬ ax = 3 := by unfold inB at x0; simp at x0; omega
      rw [if_neg hne.1, if_neg hne.2.1, if_neg hne.2.2]
      exact specBrightNo X Y Z a n cap f hl ax hq x0 w h _
    obtain ⟨x, rfl⟩ : ∃ x : Nat, X = (x : Int) := ⟨X.toNat, by omega⟩
    obtain ⟨y, rfl⟩ : ∃ y : Nat, Y = (y : Int) := ⟨Y.toNat, by omega⟩
    obtain ⟨z, rfl⟩ : ∃ z : Nat, Z = (z : Int) := ⟨Z.toNat, by omega⟩
    simp only [Int.toNat_natCast]
    have hnn : n = x * y * z := by
      have : ((n : Nat) : Int) = ((x * y * z : Nat) : Int) := by rw [hn, Int.natCast_mul, Int.natCast_mul]
      omega
    have hn0 : 0 < n := by rw [hnn]; exact Nat.mul_pos (Nat.mul_pos (by omega) (by omega)) (by omega)
    obtain ⟨ba, off, rfl, -⟩ := h.lt hn0
    by_cases x1 : ax = 1
    · subst x1
      rw [if_pos rfl]
      exact specBright1 x y z ba off n cap f hl hq (by omega) (by omega) (by omega) hnn w h
    rw [if_neg x1]
    by_cases x2 : ax = 2
    · subst x2
      rw [if_pos rfl]
      exact specBright2 x y z ba off n cap f hl hq (by omega) (by omega) (by omega) hnn w h
    rw [if_neg x2]
    by_cases x3 : ax = 3
    · subst x3
      rw [if_pos rfl]
      exact specBright3 x y z ba off n cap f hl hq (by omega) (by omega) (by omega) hnn w h
    exact absurd (by unfold inB; simp; omega) x0
  · rw [if_neg hq]
    exact specBrightBad X Y Z a n cap f hl ax (by cases e : volB X Y Z n f; rfl; exact absurd e hq) w h _
theorem brO_le (X Y Z : Int) (n : Nat) (f : Nat → Int) (ax : Int) : (brO X Y Z n f ax).2.1 * (brO X Y Z n f ax).1 ≤ 1048576 := by
  have key : ∀ a b : Nat, a ≤ 32 → b ≤ 32 → a * b ≤ 1048576 := fun a b ha hb => Nat.le_trans (Nat.mul_le_mul ha hb) (by decide)
  unfold brO
  by_cases hq : volB X Y Z n f = true
  · rw [if_pos hq]
    obtain ⟨hX, hY, hZ, -, -⟩ := volB_parts hq
    unfold brQ
    by_cases x1 : ax = 1
    · rw [if_pos x1]; exact key _ _ (by show Z.toNat ≤ 32; omega) (by show Y.toNat ≤ 32; omega)
    rw [if_neg x1]
    by_cases x2 : ax = 2
    · rw [if_pos x2]; exact key _ _ (by show Z.toNat ≤ 32; omega) (by show X.toNat ≤ 32; omega)
    rw [if_neg x2]
    by_cases x3 : ax = 3
    · rw [if_pos x3]; exact key _ _ (by show Y.toNat ≤ 32; omega) (by show X.toNat ≤ 32; omega)
    rw [if_neg x3]
    exact key 0 0 (by omega) (by omega)
  · rw [if_neg hq]
    exact key 0 0 (by omega) (by omega)

end Go.Proofs.Ytpbeogepgjbacaa

/- The determinant: the specification. -/
import Derived.Test.YtpbeogepgjbacaaGcd
namespace Go.Proofs.Ytpbeogepgjbacaa
open Go.RowKit

/-- the determinant of nine numbers -/
def det9 (f : Nat → Int) : Int := f 0 * (f 4 * f 8 - f 5 * f 7) - f 1 * (f 3 * f 8 - f 5 * f 6) + f 2 * (f 3 * f 7 - f 4 * f 6)
theorem mul_bd {x y A B : Int} (h1 : -A ≤ x) (h2 : x ≤ A) (h3 : -B ≤ y) (h4 : y ≤ B) : -(A * B) ≤ x * y ∧ x * y ≤ A * B := by
  have hA : 0 ≤ A := by omega
  have hB : 0 ≤ B := by omega
  have e1 := Int.mul_nonneg (show 0 ≤ A - x by omega) (show 0 ≤ B - y by omega)
  have e2 := Int.mul_nonneg (show 0 ≤ A + x by omega) (show 0 ≤ B + y by omega)
  have e3 := Int.mul_nonneg (show 0 ≤ A - x by omega) (show 0 ≤ B + y by omega)
  have e4 := Int.mul_nonneg (show 0 ≤ A + x by omega) (show 0 ≤ B - y by omega)
  rw [Int.sub_mul, Int.mul_sub, Int.mul_sub] at e1
  rw [Int.add_mul, Int.mul_add, Int.mul_add] at e2
  rw [Int.sub_mul, Int.mul_add, Int.mul_add] at e3
  rw [Int.add_mul, Int.mul_sub, Int.mul_sub] at e4
  omega

set_option maxRecDepth 100000 in
set_option maxHeartbeats 4000000 in
theorem l7Det_any (a : Option Addr) (cap : Nat) (f : Nat → Int) (hf : ∀ k, k < 9 → -1000000 ≤ f k ∧ f k ≤ 1000000) (w : World) (h : Px a 9 f w) :
    Calls Try.prog 41 #[.slice a 9 cap] w fun e w' => e = .returned (.int .i64 (det9 f)) ∧ Below w.heap.size w w' := by
  obtain ⟨b, off, rfl, _⟩ := h.lt (by omega)
  obtain ⟨_, _, e0, z0⟩ := h.at (show 0 < 9 by omega)
  obtain ⟨_, _, e1, z1⟩ := h.at (show 1 < 9 by omega)
  obtain ⟨_, _, e2, z2⟩ := h.at (show 2 < 9 by omega)
  obtain ⟨_, _, e3, z3⟩ := h.at (show 3 < 9 by omega)
  obtain ⟨_, _, e4, z4⟩ := h.at (show 4 < 9 by omega)
  obtain ⟨_, _, e5, z5⟩ := h.at (show 5 < 9 by omega)
  obtain ⟨_, _, e6, z6⟩ := h.at (show 6 < 9 by omega)
  obtain ⟨_, _, e7, z7⟩ := h.at (show 7 < 9 by omega)
  obtain ⟨_, _, e8, z8⟩ := h.at (show 8 < 9 by omega)
  cases e0; cases e1; cases e2; cases e3; cases e4; cases e5; cases e6; cases e7; cases e8
  rw [Nat.add_zero] at z0
  have b0 := hf 0 (by omega)
  have b1 := hf 1 (by omega)
  have b2 := hf 2 (by omega)
  have b3 := hf 3 (by omega)
  have b4 := hf 4 (by omega)
  have b5 := hf 5 (by omega)
  have b6 := hf 6 (by omega)
  have b7 := hf 7 (by omega)
  have b8 := hf 8 (by omega)
  unfold det9
  clear h hf
  generalize f 0 = m0 at *
  generalize f 1 = m1 at *
  generalize f 2 = m2 at *
  generalize f 3 = m3 at *
  generalize f 4 = m4 at *
  generalize f 5 = m5 at *
  generalize f 6 = m6 at *
  generalize f 7 = m7 at *
  generalize f 8 = m8 at *
  have p1 := mul_bd b4.1 b4.2 b8.1 b8.2
  have p2 := mul_bd b5.1 b5.2 b7.1 b7.2
  have p3 := mul_bd b3.1 b3.2 b8.1 b8.2
  have p4 := mul_bd b5.1 b5.2 b6.1 b6.2
  have p5 := mul_bd b3.1 b3.2 b7.1 b7.2
  have p6 := mul_bd b4.1 b4.2 b6.1 b6.2
  have q1 := mul_bd (B := 2000000000000) (y := m4 * m8 - m5 * m7) b0.1 b0.2 (by omega) (by omega)
  have q2 := mul_bd (B := 2000000000000) (y := m3 * m8 - m5 * m6) b1.1 b1.2 (by omega) (by omega)
  have q3 := mul_bd (B := 2000000000000) (y := m3 * m7 - m4 * m6) b2.1 b2.2 (by omega) (by omega)
  have w1 : IntKind.i64.wrap (m4 * m8) = m4 * m8 := by rw [IntKind.wrap_i64]; omega
  have w2 : IntKind.i64.wrap (m5 * m7) = m5 * m7 := by rw [IntKind.wrap_i64]; omega
  have w3 : IntKind.i64.wrap (m3 * m8) = m3 * m8 := by rw [IntKind.wrap_i64]; omega
  have w4 : IntKind.i64.wrap (m5 * m6) = m5 * m6 := by rw [IntKind.wrap_i64]; omega
  have w5 : IntKind.i64.wrap (m3 * m7) = m3 * m7 := by rw [IntKind.wrap_i64]; omega
  have w6 : IntKind.i64.wrap (m4 * m6) = m4 * m6 := by rw [IntKind.wrap_i64]; omega
  have s1 : IntKind.i64.wrap (m4 * m8 - m5 * m7) = m4 * m8 - m5 * m7 := by rw [IntKind.wrap_i64]; omega
  have s2 : IntKind.i64.wrap (m3 * m8 - m5 * m6) = m3 * m8 - m5 * m6 := by rw [IntKind.wrap_i64]; omega
  have s3 : IntKind.i64.wrap (m3 * m7 - m4 * m6) = m3 * m7 - m4 * m6 := by rw [IntKind.wrap_i64]; omega
  have t1 : IntKind.i64.wrap (m0 * (m4 * m8 - m5 * m7)) = m0 * (m4 * m8 - m5 * m7) := by rw [IntKind.wrap_i64]; omega
  have t2 : IntKind.i64.wrap (m1 * (m3 * m8 - m5 * m6)) = m1 * (m3 * m8 - m5 * m6) := by rw [IntKind.wrap_i64]; omega
  have t3 : IntKind.i64.wrap (m2 * (m3 * m7 - m4 * m6)) = m2 * (m3 * m7 - m4 * m6) := by rw [IntKind.wrap_i64]; omega
  have u1 : IntKind.i64.wrap (m0 * (m4 * m8 - m5 * m7) - m1 * (m3 * m8 - m5 * m6)) = m0 * (m4 * m8 - m5 * m7) - m1 * (m3 * m8 - m5 * m6) := by rw [IntKind.wrap_i64]; omega
  have u2 : IntKind.i64.wrap (m0 * (m4 * m8 - m5 * m7) - m1 * (m3 * m8 - m5 * m6) + m2 * (m3 * m7 - m4 * m6)) = m0 * (m4 * m8 - m5 * m7) - m1 * (m3 * m8 - m5 * m6) + m2 * (m3 * m7 - m4 * m6) := by rw [IntKind.wrap_i64]; omega
  clear p1 p2 p3 p4 p5 p6 q1 q2 q3 b0 b1 b2 b3 b4 b5 b6 b7 b8
  go_enter Try.func41, Try.ntmps41
  go_wp2
  go_quiet (fail)
  go_wp2
  go_ret
  exact ⟨rfl, below_drewN (Below.refl _ _) _⟩

end Go.Proofs.Ytpbeogepgjbacaa

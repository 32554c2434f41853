/- The determinant: the specification. -/
import Derived.Test.YtjdbiaoheoialaaIls
import Derived.BigQuiet
namespace Go.Proofs.Ytjdbiaoheoialaa
open Go.RowKit

theorem l1Abs_any (x : Int) (h : -9223372036854775808 < x) (h' : x ≤ 9223372036854775807) (w : World) : Calls Try.prog 48 #[.int .i64 x] w fun e w' => e = .returned (.int .i64 (x.natAbs : Nat)) ∧ w' = w := by
  obtain ⟨z, hz⟩ : ∃ z : Nat, z = x.natAbs := ⟨_, rfl⟩
  rw [← hz]
  by_cases hn : x < 0
  · have wz : IntKind.i64.wrap (-x) = (z : Int) := by rw [IntKind.wrap_i64, hz]; omega
    clear hz h h'
    go_enter Try.func48, Try.ntmps48
    go_wp2
    go_ret
    exact ⟨by first | rfl | rw [wz], rfl⟩
  · obtain rfl : x = (z : Int) := by omega
    clear hz
    go_enter Try.func48, Try.ntmps48
    go_wp2
    go_ret
    exact ⟨rfl, rfl⟩

set_option maxHeartbeats 1000000 in
theorem l7Gcd_any (a b : Int) (ha : -9223372036854775808 < a) (ha' : a ≤ 9223372036854775807) (hb : -9223372036854775808 < b) (hb' : b ≤ 9223372036854775807) (w : World) :
    Calls Try.prog 33 #[.int .i64 a, .int .i64 b] w fun e w' => e = .returned (.int .i64 (Int.gcd a b : Nat)) ∧ w' = w := by
  have cA := l1Abs_any a ha ha'
  have cB := l1Abs_any b hb hb'
  have hA : a.natAbs ≤ 9223372036854775807 := by omega
  have hB : b.natAbs ≤ 9223372036854775807 := by omega
  obtain ⟨G, hG⟩ : ∃ G : Nat, G = Int.gcd a b := ⟨_, rfl⟩
  rw [← hG]
  have HG : Hid (Nat.gcd a.natAbs b.natAbs = G) := by rw [hG]; rfl
  clear hG ha ha' hb hb'
  generalize a.natAbs = A at *
  generalize b.natAbs = C at *
  go_enter Try.func33, Try.ntmps33
  go_wp2_with fail
  refine (cA _).mono ?_
  rintro e w1 ⟨rfl, rfl⟩
  go_wp2_with fail
  refine (cB _).mono ?_
  rintro e w1 ⟨rfl, rfl⟩
  clear cA cB
  go_wp2_with fail
  go_loop [0, 1, 5] (fun x y _ => ∃ p q : Nat, x = .int .i64 p ∧ y = .int .i64 q ∧ Hid (p ≤ 9223372036854775807 ∧ q ≤ 9223372036854775807 ∧ Nat.gcd p q = G)) (fun _ y _ => (intOf y).toNat)
  case atStart => exact ⟨A, C, rfl, rfl, hA, hB, HG.out⟩
  case round =>
    obtain ⟨p, q, rfl, rfl, hh⟩ := hrel
    clear HG hA hB
    by_cases hq : q = 0
    · subst hq
      have hp : p = G := by have := hh.out.2.2; rwa [Nat.gcd_zero_right] at this
      subst hp
      have hz : (((0 : Nat) : Int) != 0) = false := by simp
      clear hh
      go_wp2_with fail
      go_ret
      exact ⟨rfl, rfl⟩
    · have hz : ((q : Int) != 0) = true := by simp; omega
      have hz0 : ((q : Int) == 0) = false := by simp; omega
      obtain ⟨h1, h2, h3⟩ := hh.out
      have hr : (p : Int).tmod (q : Int) = ((p % q : Nat) : Int) := by rw [Int.tmod_eq_emod_of_nonneg (by omega)]; rfl
      have hlt : p % q < q := Nat.mod_lt _ (by omega)
      have HN : Hid (q ≤ 9223372036854775807 ∧ p % q ≤ 9223372036854775807 ∧ Nat.gcd q (p % q) = G) := ⟨h2, by omega, by rw [← h3, Nat.gcd_comm p q, Nat.gcd_rec q p, Nat.gcd_comm]⟩
      have wr : IntKind.i64.wrap ((p % q : Nat) : Int) = ((p % q : Nat) : Int) := by
        generalize p % q = r at *
        rw [IntKind.wrap_i64]; omega
      clear hh h1 h2 h3 hq
      generalize p % q = r at *
      go_wp2_with fail
      exact ⟨⟨q, r, rfl, rfl, HN⟩, by simp [intOf]; omega⟩

end Go.Proofs.Ytjdbiaoheoialaa

namespace Go.Proofs.Ytjdbiaoheoialaa
open Go.RowKit

/-- the determinant of nine numbers -/
def det9 (f : Nat → Int) : Int := f 0 * (f 4 * f 8 - f 5 * f 7) - f 1 * (f 3 * f 8 - f 5 * f 6) + f 2 * (f 3 * f 7 - f 4 * f 6)
theorem mul_bd {x y A B : Int} (h1 : -A ≤ x) (h2 : x ≤ A) (h3 : -B ≤ y) (h4 : y ≤ B) : -(A * B) ≤ x * y ∧ x * y ≤ A * B := by
  have hA : 0 ≤ A := by omega
  have hB : 0 ≤ B := by omega
  have e1 := Int.mul_nonneg (show 0 ≤ A - x by omega) (show 0 ≤ B - y by omega)
  have e2 := Int.mul_nonneg (show 0 ≤ A + x by omega) (show 0 ≤ B + y by omega)
  have e3 := Int.mul_nonneg (show 0 ≤ A - x by omega) (show 0 ≤ B + y by omega)
  have e4 := Int.mul_nonneg (show 0 ≤ A + x by omega) (show 0 ≤ B - y by omega)
  rw [Int.sub_mul, Int.mul_sub, Int.mul_sub] at e1
  rw [Int.add_mul, Int.mul_add, Int.mul_add] at e2
  rw [Int.sub_mul, Int.mul_add, Int.mul_add] at e3
  rw [Int.add_mul, Int.mul_sub, Int.mul_sub] at e4
  omega

set_option maxRecDepth 100000 in
set_option maxHeartbeats 4000000 in
theorem l7Det_any (a : Option Addr) (cap : Nat) (f : Nat → Int) (hf : ∀ k, k < 9 → -1000000 ≤ f k ∧ f k ≤ 1000000) (w : World) (h : Px a 9 f w) :
    Calls Try.prog 25 #[.slice a 9 cap] w fun e w' => e = .returned (.int .i64 (det9 f)) ∧ Below w.heap.size w w' := by
  obtain ⟨b, off, rfl, _⟩ := h.lt (by omega)
  obtain ⟨_, _, e0, z0⟩ := h.at (show 0 < 9 by omega)
  obtain ⟨_, _, e1, z1⟩ := h.at (show 1 < 9 by omega)
  obtain ⟨_, _, e2, z2⟩ := h.at (show 2 < 9 by omega)
  obtain ⟨_, _, e3, z3⟩ := h.at (show 3 < 9 by omega)
  obtain ⟨_, _, e4, z4⟩ := h.at (show 4 < 9 by omega)
  obtain ⟨_, _, e5, z5⟩ := h.at (show 5 < 9 by omega)
  obtain ⟨_, _, e6, z6⟩ := h.at (show 6 < 9 by omega)
  obtain ⟨_, _, e7, z7⟩ := h.at (show 7 < 9 by omega)
  obtain ⟨_, _, e8, z8⟩ := h.at (show 8 < 9 by omega)
  cases e0; cases e1; cases e2; cases e3; cases e4; cases e5; cases e6; cases e7; cases e8
  rw [Nat.add_zero] at z0
  have b0 := hf 0 (by omega)
  have b1 := hf 1 (by omega)
  have b2 := hf 2 (by omega)
  have b3 := hf 3 (by omega)
  have b4 := hf 4 (by omega)
  have b5 := hf 5 (by omega)
  have b6 := hf 6 (by omega)
  have b7 := hf 7 (by omega)
  have b8 := hf 8 (by omega)
  unfold det9
  clear h hf
  generalize f 0 = m0 at *
  generalize f 1 = m1 at *
  generalize f 2 = m2 at *
  generalize f 3 = m3 at *
  generalize f 4 = m4 at *
  generalize f 5 = m5 at *
  generalize f 6 = m6 at *
  generalize f 7 = m7 at *
  generalize f 8 = m8 at *
  have p1 := mul_bd b4.1 b4.2 b8.1 b8.2
  have p2 := mul_bd b5.1 b5.2 b7.1 b7.2
  have p3 := mul_bd b3.1 b3.2 b8.1 b8.2
  have p4 := mul_bd b5.1 b5.2 b6.1 b6.2
  have p5 := mul_bd b3.1 b3.2 b7.1 b7.2
  have p6 := mul_bd b4.1 b4.2 b6.1 b6.2
  have q1 := mul_bd (B := 2000000000000) (y := m4 * m8 - m5 * m7) b0.1 b0.2 (by omega) (by omega)
  have q2 := mul_bd (B := 2000000000000) (y := m3 * m8 - m5 * m6) b1.1 b1.2 (by omega) (by omega)
  have q3 := mul_bd (B := 2000000000000) (y := m3 * m7 - m4 * m6) b2.1 b2.2 (by omega) (by omega)
  have w1 : IntKind.i64.wrap (m4 * m8) = m4 * m8 := by rw [IntKind.wrap_i64]; omega
  have w2 : IntKind.i64.wrap (m5 * m7) = m5 * m7 := by rw [IntKind.wrap_i64]; omega
  have w3 : IntKind.i64.wrap (m3 * m8) = m3 * m8 := by rw [IntKind.wrap_i64]; omega
  have w4 : IntKind.i64.wrap (m5 * m6) = m5 * m6 := by rw [IntKind.wrap_i64]; omega
  have w5 : IntKind.i64.wrap (m3 * m7) = m3 * m7 := by rw [IntKind.wrap_i64]; omega
  have w6 : IntKind.i64.wrap (m4 * m6) = m4 * m6 := by rw [IntKind.wrap_i64]; omega
  have s1 : IntKind.i64.wrap (m4 * m8 - m5 * m7) = m4 * m8 - m5 * m7 := by rw [IntKind.wrap_i64]; omega
  have s2 : IntKind.i64.wrap (m3 * m8 - m5 * m6) = m3 * m8 - m5 * m6 := by rw [IntKind.wrap_i64]; omega
  have s3 : IntKind.i64.wrap (m3 * m7 - m4 * m6) = m3 * m7 - m4 * m6 := by rw [IntKind.wrap_i64]; omega
  have t1 : IntKind.i64.wrap (m0 * (m4 * m8 - m5 * m7)) = m0 * (m4 * m8 - m5 * m7) := by rw [IntKind.wrap_i64]; omega
  have t2 : IntKind.i64.wrap (m1 * (m3 * m8 - m5 * m6)) = m1 * (m3 * m8 - m5 * m6) := by rw [IntKind.wrap_i64]; omega
  have t3 : IntKind.i64.wrap (m2 * (m3 * m7 - m4 * m6)) = m2 * (m3 * m7 - m4 * m6) := by rw [IntKind.wrap_i64]; omega
  have u1 : IntKind.i64.wrap (m0 * (m4 * m8 - m5 * m7) - m1 * (m3 * m8 - m5 * m6)) = m0 * (m4 * m8 - m5 * m7) - m1 * (m3 * m8 - m5 * m6) := by rw [IntKind.wrap_i64]; omega
  have u2 : IntKind.i64.wrap (m0 * (m4 * m8 - m5 * m7) - m1 * (m3 * m8 - m5 * m6) + m2 * (m3 * m7 - m4 * m6)) = m0 * (m4 * m8 - m5 * m7) - m1 * (m3 * m8 - m5 * m6) + m2 * (m3 * m7 - m4 * m6) := by rw [IntKind.wrap_i64]; omega
  clear p1 p2 p3 p4 p5 p6 q1 q2 q3 b0 b1 b2 b3 b4 b5 b6 b7 b8
  go_enter Try.func25, Try.ntmps25
  go_wp2
  go_quiet (fail)
  go_wp2
  go_ret
  exact ⟨rfl, below_drewN (Below.refl _ _) _⟩

end Go.Proofs.Ytjdbiaoheoialaa

/- Common divisors and determinants: the specification. -/
import Derived.Test.YtpbeogepgjbacaaIls
import Derived.BigQuiet
namespace Go.Proofs.Ytpbeogepgjbacaa
open Go.RowKit

theorem l1Abs_any (x : Int) (h : -9223372036854775808 < x) (h' : x ≤ 9223372036854775807) (w : World) : Calls Try.prog 51 #[.int .i64 x] w fun e w' => e = .returned (.int .i64 (x.natAbs : Nat)) ∧ w' = w := by
  obtain ⟨z, hz⟩ : ∃ z : Nat, z = x.natAbs := ⟨_, rfl⟩
  rw [← hz]
  by_cases hn : x < 0
  · have wz : IntKind.i64.wrap (-x) = (z : Int) := by rw [IntKind.wrap_i64, hz]; omega
    clear hz h h'
    go_enter Try.func51, Try.ntmps51
    go_wp2
    go_ret
    exact ⟨by first | rfl | rw [wz], rfl⟩
  · obtain rfl : x = (z : Int) := by omega
    clear hz
    go_enter Try.func51, Try.ntmps51
    go_wp2
    go_ret
    exact ⟨rfl, rfl⟩

set_option maxHeartbeats 1000000 in
theorem l7Gcd_any (a b : Int) (ha : -9223372036854775808 < a) (ha' : a ≤ 9223372036854775807) (hb : -9223372036854775808 < b) (hb' : b ≤ 9223372036854775807) (w : World) :
    Calls Try.prog 40 #[.int .i64 a, .int .i64 b] w fun e w' => e = .returned (.int .i64 (Int.gcd a b : Nat)) ∧ w' = w := by
  have cA := l1Abs_any a ha ha'
  have cB := l1Abs_any b hb hb'
  have hA : a.natAbs ≤ 9223372036854775807 := by omega
  have hB : b.natAbs ≤ 9223372036854775807 := by omega
  obtain ⟨G, hG⟩ : ∃ G : Nat, G = Int.gcd a b := ⟨_, rfl⟩
  rw [← hG]
  have HG : Hid (Nat.gcd a.natAbs b.natAbs = G) := by rw [hG]; rfl
  clear hG ha ha' hb hb'
  generalize a.natAbs = A at *
  generalize b.natAbs = C at *
  go_enter Try.func40, Try.ntmps40
  go_wp2_with fail
  refine (cA _).mono ?_
  rintro e w1 ⟨rfl, rfl⟩
  go_wp2_with fail
  refine (cB _).mono ?_
  rintro e w1 ⟨rfl, rfl⟩
  clear cA cB
  go_wp2_with fail
  go_loop [0, 1, 5] (fun x y _ => ∃ p q : Nat, x = .int .i64 p ∧ y = .int .i64 q ∧ Hid (p ≤ 9223372036854775807 ∧ q ≤ 9223372036854775807 ∧ Nat.gcd p q = G)) (fun _ y _ => (intOf y).toNat)
  case atStart => exact ⟨A, C, rfl, rfl, hA, hB, HG.out⟩
  case round =>
    obtain ⟨p, q, rfl, rfl, hh⟩ := hrel
    clear HG hA hB
    by_cases hq : q = 0
    · subst hq
      have hp : p = G := by have := hh.out.2.2; rwa [Nat.gcd_zero_right] at this
      subst hp
      have hz : (((0 : Nat) : Int) != 0) = false := by simp
      clear hh
      go_wp2_with fail
      go_ret
      exact ⟨rfl, rfl⟩
    · have hz : ((q : Int) != 0) = true := by simp; omega
      have hz0 : ((q : Int) == 0) = false := by simp; omega
      obtain ⟨h1, h2, h3⟩ := hh.out
      have hr : (p : Int).tmod (q : Int) = ((p % q : Nat) : Int) := by rw [Int.tmod_eq_emod_of_nonneg (by omega)]; rfl
      have hlt : p % q < q := Nat.mod_lt _ (by omega)
      have HN : Hid (q ≤ 9223372036854775807 ∧ p % q ≤ 9223372036854775807 ∧ Nat.gcd q (p % q) = G) := ⟨h2, by omega, by rw [← h3, Nat.gcd_comm p q, Nat.gcd_rec q p, Nat.gcd_comm]⟩
      have wr : IntKind.i64.wrap ((p % q : Nat) : Int) = ((p % q : Nat) : Int) := by
        generalize p % q = r at *
        rw [IntKind.wrap_i64]; omega
      clear hh h1 h2 h3 hq
      generalize p % q = r at *
      go_wp2_with fail
      exact ⟨⟨q, r, rfl, rfl, HN⟩, by simp [intOf]; omega⟩

end Go.Proofs.Ytpbeogepgjbacaa

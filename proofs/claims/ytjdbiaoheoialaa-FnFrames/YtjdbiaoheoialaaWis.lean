/- Sums and signs of numbers of two words. -/
import Derived.Test.YtjdbiaoheoialaaWip
namespace Go.Proofs.Ytjdbiaoheoialaa
open Go.RowKit Go.Lib

set_option maxRecDepth 100000 in
set_option maxHeartbeats 2000000 in
theorem widePlus_any (x y : Int) (hx : -9223372036854775808 ≤ x ∧ x ≤ 9223372036854775807) (hy : -9223372036854775808 ≤ y ∧ y ≤ 9223372036854775807) (w : World) :
    Calls Try.prog 42 #[wd x, wd y] w fun e w' => e = .returned (wd (x + y)) ∧ Below w.heap.size w w' := by
  unfold wd
  obtain ⟨lx, hlx⟩ : ∃ l : Nat, (l : Int) = x % 18446744073709551616 := ⟨(x % 18446744073709551616).toNat, by omega⟩
  obtain ⟨ly, hly⟩ : ∃ l : Nat, (l : Int) = y % 18446744073709551616 := ⟨(y % 18446744073709551616).toNat, by omega⟩
  obtain ⟨X, hX⟩ : ∃ X, X = x / 18446744073709551616 := ⟨_, rfl⟩
  obtain ⟨Y, hY⟩ : ∃ Y, Y = y / 18446744073709551616 := ⟨_, rfl⟩
  obtain ⟨L, hL⟩ : ∃ L : Nat, L = (lx + ly) % 18446744073709551616 := ⟨_, rfl⟩
  obtain ⟨C, hC⟩ : ∃ C : Nat, C = (lx + ly) / 18446744073709551616 := ⟨_, rfl⟩
  have hA := add64_run lx ly
  rw [← hL, ← hC] at hA
  have hG : (x + y) / 18446744073709551616 = X + Y + C := by omega
  have hGl : (x + y) % 18446744073709551616 = L := by omega
  have wC : IntKind.i64.wrap (C : Int) = (C : Int) := by rw [IntKind.wrap_i64]; omega
  obtain ⟨S, hS⟩ : ∃ S, S = X + Y := ⟨_, rfl⟩
  obtain ⟨G, hG2⟩ : ∃ G, G = S + C := ⟨_, rfl⟩
  have w1 : IntKind.i64.wrap (X + Y) = S := by rw [IntKind.wrap_i64]; omega
  have w2 : IntKind.i64.wrap (S + C) = G := by rw [IntKind.wrap_i64]; omega
  rw [hG, hGl, ← hlx, ← hly, ← hX, ← hY, ← hS, ← hG2]
  have HB := hide (bnext (bnext (bnew w (.cells #[.int .i64 X, .int .u64 lx] 55)) (Nat.le_refl _) (bnew _ (.cells #[.int .i64 Y, .int .u64 ly] 55))) (Nat.le_refl _) (bnew _ (.cells #[.int .i64 G, .int .u64 L] 55)))
  clear hG hGl hlx hly hX hY hS hG2 hL hC hx hy
  go_enter Try.func42, Try.ntmps42
  go_wp2
  exact bodyPost_ret (v := .agg #[.int .i64 G, .int .u64 L]) (by simp [results, Try.results42, go_sem]) rfl ⟨rfl, HB.out⟩

def sgn (x : Int) : Int := if x < 0 then -1 else if x = 0 then 0 else 1
set_option maxRecDepth 100000 in
set_option maxHeartbeats 2000000 in
theorem wideSign_any (x : Int) (hx : -9223372036854775808 ≤ x ∧ x ≤ 9223372036854775807) (w : World) :
    Calls Try.prog 24 #[wd x] w fun e w' => e = .returned (.int .i64 (sgn x)) ∧ Below w.heap.size w w' := by
  unfold wd sgn
  by_cases h1 : x < 0
  · obtain ⟨X, hX⟩ : ∃ X, X = x / 18446744073709551616 := ⟨_, rfl⟩
    obtain ⟨L, hL⟩ : ∃ L, L = x % 18446744073709551616 := ⟨_, rfl⟩
    have h2 : X < 0 := by omega
    rw [← hX, ← hL, if_pos h1]
    have HB := hide (bnew w (.cells #[.int .i64 X, .int .u64 L] 55))
    clear hX hL h1 hx
    go_enter Try.func24, Try.ntmps24
    go_wp2
    go_ret
    exact ⟨rfl, HB.out⟩
  · rw [if_neg h1]
    by_cases h2 : x = 0
    · subst h2
      have HB := hide (bnew w (.cells #[.int .i64 0, .int .u64 0] 55))
      go_enter Try.func24, Try.ntmps24
      go_wp2
      go_ret
      exact ⟨rfl, HB.out⟩
    · obtain ⟨L, hL⟩ : ∃ L, L = x % 18446744073709551616 := ⟨_, rfl⟩
      have h3 : x / 18446744073709551616 = 0 := by omega
      have h4 : (L == 0) = false := by simp; omega
      have h5 : ¬ L = 0 := by omega
      rw [← hL, if_neg h2, h3]
      have HB := hide (bnew w (.cells #[.int .i64 0, .int .u64 L] 55))
      clear hL h1 h2 h3 hx
      go_enter Try.func24, Try.ntmps24
      go_wp2
      go_ret
      exact ⟨rfl, HB.out⟩

end Go.Proofs.Ytjdbiaoheoialaa

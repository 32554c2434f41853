/- Is a number in a list: the library's way, and the specification's. -/
import Derived.Test.YtgemdhhofflhgaaIls
namespace Go.Proofs.Ytgemdhhofflhgaa
open Go.RowKit

def hasN (f : Nat → Int) (x : Int) : Nat → Bool
  | 0 => false
  | k + 1 => hasN f x k || decide (f k = x)
theorem hasN_yes {f : Nat → Int} {x : Int} {k : Nat} (h : f k = x) : ∀ {n : Nat}, k < n → hasN f x n = true
  | n + 1, hk => by
    unfold hasN
    by_cases e : k = n
    · subst e; simp [h]
    · rw [hasN_yes h (n := n) (by omega)]; rfl
theorem hasN_ex {f : Nat → Int} {x : Int} : ∀ {n : Nat}, hasN f x n = true → ∃ k, k < n ∧ f k = x
  | n + 1, h => by
    unfold hasN at h
    rw [Bool.or_eq_true] at h
    rcases h with h | h
    · obtain ⟨k, h1, h2⟩ := hasN_ex h; exact ⟨k, by omega, h2⟩
    · exact ⟨n, by omega, by simpa using h⟩
theorem hasN_no {f : Nat → Int} {x : Int} {n : Nat} (h : hasN f x n = false) : ∀ k, k < n → f k ≠ x := fun k hk e => by rw [hasN_yes e hk] at h; cases h

set_option maxRecDepth 100000 in
set_option maxHeartbeats 1000000 in
theorem indexN_any (a : Option Addr) (n cap : Nat) (f : Nat → Int) (x : Int) (hl : n ≤ 1048576) (w : World) (h : Px a n f w) :
    Calls Try.prog 25 #[.slice a n cap, .int .i64 x] w fun e w' => (∃ r : Int, e = .returned (.int .i64 r) ∧ decide (0 ≤ r) = hasN f x n) ∧ w' = w := by
  have HP := hide h
  clear h
  go_enter Try.func25, Try.ntmps25
  go_wp2_with fail
  go_loop [8] (fun i => ∃ k : Nat, k ≤ n ∧ i = .int .i64 k ∧ hasN f x k = false) (fun i => n - (intOf i).toNat)
  case atStart => exact ⟨0, by omega, rfl, rfl⟩
  case round =>
    obtain ⟨k, hk, rfl, hd⟩ := hrel
    have HD := hide hd
    clear hd
    by_cases hlt : k < n
    · obtain ⟨b, off, rfl, hc⟩ := HP.out.at hlt
      by_cases hx : f k = x
      · have HY : Hid (hasN f x n = true) := hasN_yes hx hlt
        rw [hx] at hc
        clear hx HD HP
        go_wp2_with fail
        go_ret
        exact ⟨⟨(k : Int), rfl, by rw [HY.out]; simp⟩, rfl⟩
      · have HN : Hid (hasN f x (k + 1) = false) := by show _ = _; unfold hasN; rw [HD.out]; simpa using hx
        have hne : (x == f k) = false := by simpa using fun e => hx e.symm
        have hne2 : ¬ x = f k := fun e => hx e.symm
        clear HD HP hx
        generalize f k = y at *
        go_wp2_with fail
        exact ⟨⟨k + 1, by omega, rfl, HN.out⟩, by simp [intOf]; omega⟩
    · obtain rfl : k = n := by omega
      go_wp2_with fail
      go_ret
      exact ⟨⟨-1, rfl, by rw [HD.out]; rfl⟩, rfl⟩

set_option maxRecDepth 100000 in
theorem containsN_any (a : Option Addr) (n cap : Nat) (f : Nat → Int) (x : Int) (hl : n ≤ 1048576) (w : World) (h : Px a n f w) :
    Calls Try.prog 20 #[.slice a n cap, .int .i64 x] w fun e w' => e = .returned (.bool (hasN f x n)) ∧ w' = w := by
  have c := indexN_any a n cap f x hl w h
  clear h
  go_enter Try.func20, Try.ntmps20
  go_wp2_with fail
  refine c.mono ?_
  rintro e w1 ⟨⟨r, rfl, hr⟩, rfl⟩
  have HR := hide hr
  clear hr c
  go_wp2_with fail
  go_ret
  exact ⟨by rw [← HR.out]; simp, rfl⟩

set_option maxRecDepth 100000 in
set_option maxHeartbeats 1000000 in
theorem l15Has_any (a : Option Addr) (n cap : Nat) (f : Nat → Int) (x : Int) (hl : n ≤ 1048576) (w : World) (h : Px a n f w) :
    Calls Try.prog 13 #[.slice a n cap, .int .i64 x] w fun e w' => e = .returned (.bool (hasN f x n)) ∧ w' = w := by
  have HP := hide h
  clear h
  go_enter Try.func13, Try.ntmps13
  go_wp2_with fail
  go_loop [5] (fun i => ∃ k : Nat, k ≤ n ∧ i = .int .i64 k ∧ hasN f x k = false) (fun i => n - (intOf i).toNat)
  case atStart => exact ⟨0, by omega, rfl, rfl⟩
  case round =>
    obtain ⟨k, hk, rfl, hd⟩ := hrel
    have HD := hide hd
    clear hd
    by_cases hlt : k < n
    · obtain ⟨b, off, rfl, hc⟩ := HP.out.at hlt
      by_cases hx : f k = x
      · have HY : Hid (hasN f x n = true) := hasN_yes hx hlt
        rw [hx] at hc
        clear hx HD HP
        go_wp2_with fail
        go_ret
        exact ⟨by rw [HY.out]; rfl, rfl⟩
      · have HN : Hid (hasN f x (k + 1) = false) := by show _ = _; unfold hasN; rw [HD.out]; simpa using hx
        have hne : (f k == x) = false := by simpa using hx
        clear HD HP
        generalize f k = y at *
        go_wp2_with fail
        exact ⟨⟨k + 1, by omega, rfl, HN.out⟩, by simp [intOf]; omega⟩
    · obtain rfl : k = n := by omega
      go_wp2_with fail
      go_ret
      exact ⟨by rw [HD.out]; rfl, rfl⟩

end Go.Proofs.Ytgemdhhofflhgaa

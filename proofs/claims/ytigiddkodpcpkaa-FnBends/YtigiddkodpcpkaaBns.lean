/- Bends: the specification. -/
import Derived.Test.YtigiddkodpcpkaaBnn
import Derived.BigQuiet
namespace Go.Proofs.Ytigiddkodpcpkaa
open Go.RowKit

set_option maxRecDepth 100000 in
set_option maxHeartbeats 2000000 in
theorem specBendOk_any (a : Option Addr) (n cap : Nat) (f : Nat → Int) (hl : n ≤ 1048576) (w : World) (h : Px a n f w) :
    Calls Try.prog 47 #[.slice a n cap] w fun e w' => e = .returned (.bool (bdB n f)) ∧ ∃ m, w' = w.drewN m := by
  have HP := hide h
  clear h
  by_cases h2 : n < 2
  · have HF : Hid (bdB n f = false) := by
      show bdB n f = false
      unfold bdB
      have : inB (n : Int) 2 64 = false := by unfold inB; simp; omega
      rw [this]; rfl
    have h2' : (n : Int) < 2 := by omega
    clear HP h2
    go_enter Try.func47, Try.ntmps47
    go_wp2_with fail
    go_ret
    exact ⟨by rw [HF.out]; rfl, 0, rfl⟩
  by_cases h3 : 64 < n
  · have HF : Hid (bdB n f = false) := by
      show bdB n f = false
      unfold bdB
      have : inB (n : Int) 2 64 = false := by unfold inB; simp; omega
      rw [this]; rfl
    have h3' : (64 : Int) < n := by omega
    have h2' : ¬ (n : Int) < 2 := by omega
    clear HP h2
    go_enter Try.func47, Try.ntmps47
    go_wp2_with fail
    go_ret
    exact ⟨by rw [HF.out]; rfl, 0, rfl⟩
  have HF : Hid (bdB n f = (alW f (-1000) 1000 n && risB f n)) := by
    show bdB n f = _
    unfold bdB
    have : inB (n : Int) 2 64 = true := by unfold inB; simp; omega
    rw [this]; rfl
  have h3' : ¬ (64 : Int) < n := by omega
  have h2' : ¬ (n : Int) < 2 := by omega
  clear h2 h3
  go_enter Try.func47, Try.ntmps47
  go_wp2_with fail
  clear h2' h3'
  go_loopw [3] (fun i wr => ∃ k : Nat, k ≤ n ∧ i = .int .i64 k ∧ alW f (-1000) 1000 k = true ∧ risB f k = true ∧ ∃ m, wr = w.drewN m) (fun i _ => n - (intOf i).toNat)
  case atStart => exact ⟨0, by omega, rfl, rfl, rfl, 0, rfl⟩
  case round =>
    obtain ⟨k, hk, rfl, ha, hr, m, hm⟩ := hrel
    have HPw : Hid (Px a n f wr) := by show Px a n f wr; rw [hm]; exact HP.out.below (below_drewN (Below.refl _ _) m)
    have HB : Hid (∀ j, wr.drewN j = w.drewN (m + j)) := fun j => by rw [hm]; exact World.drewN_drewN _ _ _
    have HW := hide hm
    clear HP hm
    by_cases hlt : k < n
    · cases hi : inB (f k) (-1000) 1000
      · have HN : Hid (bdB n f = false) := by show bdB n f = false; rw [HF.out, alW_false hlt hi]; rfl
        have hcall := l1In_any (f k) (-1000) 1000
        rw [hi] at hcall
        obtain ⟨b, off, rfl, hz⟩ := HPw.out.at hlt
        clear ha hr hi HF HPw
        go_wp2_with fail
        go_quiet ((go_at_call 81; exact Calls.quiet_of_same (hcall _)))
        go_wp2_with fail
        go_ret
        exact ⟨by rw [HN.out]; rfl, _, HB.out _⟩
      have HA := hide (alW_step ha hi)
      have hcall := l1In_any (f k) (-1000) 1000
      rw [hi] at hcall
      clear ha hi
      by_cases hk9 : k = 0
      · have HZ := hide hk9
        obtain ⟨b, off, rfl, hz⟩ := HPw.out.at hlt
        have dq : decide (0 < k) = false := decide_eq_false (by omega)
        clear hr HF HPw hk9
        go_wp2_with fail
        go_quiet ((go_at_call 81; exact Calls.quiet_of_same (hcall _)))
        go_wp2_with fail
        exact ⟨⟨k + 1, by omega, by go_num, HA.out, by rw [HZ.out]; exact risB_one, _, HB.out _⟩, by simp [intOf]; omega⟩
      cases k with
      | zero => exact absurd rfl hk9
      | succ k =>
        have HP1 := HPw.out.at hlt
        obtain ⟨b, off, rfl, hz⟩ := HPw.out.at (show k < n by omega)
        obtain ⟨b', off', he, hz'⟩ := HP1
        cases he
        have hk0 : decide ((0 : Int) < ((k + 1 : Nat) : Int)) = true := decide_eq_true (by omega)
        have hk1 : ((k + 1 : Nat) : Int) - 1 = (k : Int) := by omega
        by_cases hup : f k < f (k + 1)
        · have HR := hide (risB_step hr hup)
          have hup' : ¬ f (k + 1) ≤ f k := by omega
          clear hr HF HPw hup
          go_wp2_with fail
          go_quiet ((go_at_call 81; exact Calls.quiet_of_same (hcall _)))
          go_wp2_with fail
          exact ⟨⟨k + 2, by omega, by go_num, HA.out, HR.out, _, HB.out _⟩, by simp [intOf]; omega⟩
        · have HN : Hid (bdB n f = false) := by show bdB n f = false; rw [HF.out, risB_false hlt hup, Bool.and_false]
          have hup' : f (k + 1) ≤ f k := by omega
          clear hr HF HPw hup
          go_wp2_with fail
          go_quiet ((go_at_call 81; exact Calls.quiet_of_same (hcall _)))
          go_wp2_with fail
          go_ret
          exact ⟨by rw [HN.out]; rfl, _, HB.out _⟩
    · obtain rfl : k = n := by omega
      have HA : Hid (bdB k f = true) := by show bdB k f = true; rw [HF.out, ha, hr]; rfl
      clear ha hr HPw HF
      go_wp2
      go_ret
      exact ⟨by rw [HA.out]; rfl, _, HW.out⟩

end Go.Proofs.Ytigiddkodpcpkaa

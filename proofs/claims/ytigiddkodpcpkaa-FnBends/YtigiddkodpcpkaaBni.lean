/- Bends: the program. -/
import Derived.Test.YtigiddkodpcpkaaBnt
import Derived.Lib.MinMax
namespace Go.Proofs.Ytigiddkodpcpkaa
open Go.RowKit

set_option maxRecDepth 100000 in
set_option maxHeartbeats 2000000 in
theorem implBendOk_any (a : Option Addr) (n cap : Nat) (f : Nat → Int) (hl : n ≤ 1048576) (hcp : n ≤ cap) (w : World) (h : Px a n f w) :
    Calls Try.prog 49 #[.slice a n cap] w fun e w' => e = .returned (.bool (bdB n f)) ∧ w' = w := by
  have c0 := within_any (n : Int) 2 64 w
  have c1 := allWithin_any (-1000) 1000 a n cap f hl w h
  have HP := hide h
  clear h
  cases h2 : inB (n : Int) 2 64
  · have HF : Hid (bdB n f = false) := by
      show bdB n f = false
      unfold bdB
      rw [h2]; rfl
    rw [h2] at c0
    clear HP h2 c1
    go_enter Try.func49, Try.ntmps49
    go_wp2_with fail
    refine c0.mono ?_
    rintro e w1 ⟨rfl, rfl⟩
    go_wp2_with fail
    go_ret
    exact ⟨by rw [HF.out]; rfl, rfl⟩
  rw [h2] at c0
  cases h3 : alW f (-1000) 1000 n
  · have HF : Hid (bdB n f = false) := by
      show bdB n f = false
      unfold bdB
      rw [h3, Bool.false_and, Bool.and_false]
    rw [h3] at c1
    clear HP h2 h3
    go_enter Try.func49, Try.ntmps49
    go_wp2_with fail
    refine c0.mono ?_
    rintro e w1 ⟨rfl, rfl⟩
    go_wp2_with fail
    refine c1.mono ?_
    rintro e w1 ⟨rfl, rfl⟩
    go_wp2_with fail
    go_ret
    exact ⟨by rw [HF.out]; rfl, rfl⟩
  rw [h3] at c1
  have HF : Hid (bdB n f = risB f n) := by
    show bdB n f = _
    unfold bdB
    rw [h2, h3, Bool.true_and, Bool.true_and]
  rw [inB_iff] at h2
  obtain ⟨m, rfl⟩ : ∃ m, n = m + 1 := ⟨n - 1, by omega⟩
  obtain ⟨b, off, rfl, z0⟩ := HP.out.at (show 0 < m + 1 by omega)
  have hm : 1 ≤ m ∧ m ≤ 63 := by omega
  have hc1 : ¬ cap = 1 := by omega
  clear h3 h2 hl z0
  go_enter Try.func49, Try.ntmps49
  go_wp2_with fail
  refine c0.mono ?_
  rintro e w1 ⟨rfl, rfl⟩
  go_wp2_with fail
  refine c1.mono ?_
  rintro e w1 ⟨rfl, rfl⟩
  go_wp2_with fail
  clear c0 c1
  go_loop [3, 4, 17] (fun _ _ i => ∃ k : Nat, k ≤ m ∧ i = .int .i64 k ∧ risB f (k + 1) = true) (fun _ _ i => m - (intOf i).toNat)
  case atStart => exact ⟨0, by omega, rfl, rfl⟩
  case round =>
    obtain ⟨k, hk, rfl, hr⟩ := hrel
    by_cases hlt : k < m
    · obtain ⟨b', off', he, z0⟩ := HP.out.at (show k < m + 1 by omega)
      cases he
      obtain ⟨b', off', he, z1⟩ := HP.out.at (show k + 1 < m + 1 by omega)
      cases he
      have ez : off + (k + 1) = off + 1 + k := by omega
      rw [ez] at z1
      by_cases hup : f k < f (k + 1)
      · have HR := hide (risB_step hr hup)
        have hup' : ¬ f (k + 1) ≤ f k := by omega
        clear hr HF HP hup ez
        generalize f k = x at *
        generalize f (k + 1) = y at *
        go_wp2_with fail
        exact ⟨⟨k + 1, by omega, by go_num, HR.out⟩, by simp [intOf]; omega⟩
      · have HN : Hid (bdB (m + 1) f = false) := by show _ = _; rw [HF.out, risB_false (by omega) hup]
        have hup' : f (k + 1) ≤ f k := by omega
        clear hr HF HP hup ez
        generalize f k = x at *
        generalize f (k + 1) = y at *
        go_wp2_with fail
        go_ret
        exact ⟨by rw [HN.out]; rfl, rfl⟩
    · obtain rfl : k = m := by omega
      have HA : Hid (bdB (k + 1) f = true) := by show _ = _; rw [HF.out, hr]
      clear hr HP HF
      go_wp2_with fail
      go_ret
      exact ⟨by rw [HA.out]; rfl, rfl⟩

end Go.Proofs.Ytigiddkodpcpkaa

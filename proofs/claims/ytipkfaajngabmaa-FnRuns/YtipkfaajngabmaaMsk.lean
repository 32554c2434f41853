/- Masks, and the runs of a mask: the specification and the program. -/
import Derived.Test.YtipkfaajngabmaaRno
import Derived.Test.YtipkfaajngabmaaHom
namespace Go.Proofs.Ytipkfaajngabmaa
open Go.RowKit

def maskB (W H : Int) (n : Nat) (f : Nat → Int) : Bool := okB W H n f && alW f 0 1 n
theorem maskB_parts {W H : Int} {n : Nat} {f : Nat → Int} (h : maskB W H n f = true) : okB W H n f = true ∧ n ≤ 4096 ∧ bit1 f n := by
  unfold maskB at h
  simp only [Bool.and_eq_true] at h
  obtain ⟨h1, h2, h3, h4⟩ := okB_parts h.1
  have := prod_bounds h1 h2
  refine ⟨h.1, by omega, fun k hk => ?_⟩
  have := alW_at h.2 hk
  unfold inB at this
  simp at this
  omega

set_option maxHeartbeats 2000000 in
theorem isMask_any (W H : Int) (a : Option Addr) (n cap : Nat) (f : Nat → Int) (hl : n ≤ 1048576) (w : World) (h : Px a n f w) :
    Calls Try.prog 25 #[im W H a n cap] w fun e w' => e = .returned (.bool (maskB W H n f)) ∧ Below w.heap.size w w' := by
  have HS0 := hide ((St.start w).box [.int .i64 W, .int .i64 H, .slice a n cap] 26)
  have c := implOk_any W H a n cap f hl _ (h.below HS0.out.below)
  have HP := hide h
  unfold maskB
  clear h
  cases hq : okB W H n f
  · rw [hq] at c
    clear hq
    go_enter Try.func25, Try.ntmps25
    go_wp2_with fail
    refine c.mono ?_
    rintro e w1 ⟨rfl, hb⟩
    have HB := hide (HS0.out.next hb).below
    clear hb c
    go_wp2_with fail
    go_ret
    exact ⟨rfl, HB.out⟩
  rw [hq] at c
  clear hq
  have cA := fun w' h => allWithin_any 0 1 a n cap f hl w' h
  generalize alW f 0 1 n = V at *
  go_enter Try.func25, Try.ntmps25
  go_wp2_with fail
  refine c.mono ?_
  rintro e w1 ⟨rfl, hb⟩
  have HS1 := hide (HS0.out.next hb)
  obtain ⟨i0, i1, i2⟩ := HS1.out.im3 0 rfl
  clear hb c HS0
  go_wp2_with fail
  refine (cA _ (HP.out.below HS1.out.below)).mono ?_
  rintro e w3 ⟨rfl, rfl⟩
  go_wp2_with fail
  go_ret
  exact ⟨by simp, HS1.out.below⟩

set_option maxRecDepth 100000 in
set_option maxHeartbeats 2000000 in
theorem l7Mask_any (W H : Int) (a : Option Addr) (n cap : Nat) (f : Nat → Int) (hl : n ≤ 1048576) (w : World) (h : Px a n f w) :
    Calls Try.prog 23 #[im W H a n cap] w fun e w' => e = .returned (.bool (maskB W H n f)) ∧ Below w.heap.size w w' := by
  have HS0 := hide ((St.start w).box [.int .i64 W, .int .i64 H, .slice a n cap] 26)
  have c := specOk_any W H a n cap f hl _ (h.below HS0.out.below)
  have HP := hide h
  unfold maskB
  clear h
  cases hq : okB W H n f
  · rw [hq] at c
    clear hq
    go_enter Try.func23, Try.ntmps23
    go_wp2_with fail
    refine c.mono ?_
    rintro e w1 ⟨rfl, hb⟩
    have HB := hide (HS0.out.next hb).below
    clear hb c
    go_wp2_with fail
    go_ret
    exact ⟨rfl, HB.out⟩
  rw [hq] at c
  clear hq
  go_enter Try.func23, Try.ntmps23
  go_wp2_with fail
  refine c.mono ?_
  rintro e w1 ⟨rfl, hb⟩
  have HS1 := hide (HS0.out.next hb)
  obtain ⟨i0, i1, i2⟩ := HS1.out.im3 0 rfl
  have HP1 := hide (HP.out.below HS1.out.below)
  clear hb c HS0 HP
  go_wp2_with fail
  go_loop [3] (fun i => ∃ k : Nat, k ≤ n ∧ i = .int .i64 k ∧ alW f 0 1 k = true) (fun i => n - (intOf i).toNat)
  case atStart => exact ⟨0, by omega, rfl, rfl⟩
  case round =>
    obtain ⟨k, hk, rfl, ha⟩ := hrel
    by_cases hlt : k < n
    · obtain ⟨b, off, rfl, hz⟩ := HP1.out.at hlt
      clear HP1
      by_cases h0 : f k = 0
      · have HF : Hid (alW f 0 1 (k + 1) = true) := alW_step ha (by rw [h0]; rfl)
        rw [h0] at hz
        clear ha h0
        go_wp2_with fail
        exact ⟨⟨k + 1, by omega, rfl, HF.out⟩, by simp [intOf]; omega⟩
      by_cases h1 : f k = 1
      · have HF : Hid (alW f 0 1 (k + 1) = true) := alW_step ha (by rw [h1]; rfl)
        rw [h1] at hz
        clear ha h0 h1
        go_wp2_with fail
        exact ⟨⟨k + 1, by omega, rfl, HF.out⟩, by simp [intOf]; omega⟩
      have HF : Hid (alW f 0 1 n = false) := alW_false hlt (by unfold inB; simp; omega)
      have t0 : (f k != 0) = true := by simp [h0]
      have t1 : (f k != 1) = true := by simp [h1]
      clear ha h0 h1
      generalize f k = p at *
      go_wp2_with fail
      go_ret
      exact ⟨by rw [HF.out]; simp, HS1.out.below⟩
    · obtain rfl : k = n := by omega
      have HA : Hid (alW f 0 1 k = true) := ha
      clear ha HP1
      go_wp2
      go_ret
      exact ⟨by rw [HA.out]; simp, HS1.out.below⟩

def rofN (W H : Int) (n : Nat) (f : Nat → Int) : Nat := if maskB W H n f = true then rcnt f n else 0
theorem rofN_le (W H : Int) (n : Nat) (f : Nat → Int) : rofN W H n f ≤ 1048576 := by
  unfold rofN
  split
  · next h => have := (maskB_parts h).2.1; have := rcnt_bd f n; omega
  · omega

set_option maxRecDepth 100000 in
set_option maxHeartbeats 2000000 in
theorem specRunsOf_any (W H : Int) (a : Option Addr) (n cap : Nat) (f : Nat → Int) (hl : n ≤ 1048576) (w : World) (h : Px a n f w) :
    Calls Try.prog 8 #[im W H a n cap] w (LsR (rofN W H n f) (rval f n) w) := by
  have HS0 := hide ((St.start w).box [.int .i64 W, .int .i64 H, .slice a n cap] 26)
  have c := l7Mask_any W H a n cap f hl _ (h.below HS0.out.below)
  have HP := hide h
  unfold rofN
  clear h
  cases hq : maskB W H n f
  · rw [hq] at c
    clear hq
    go_enter Try.func8, Try.ntmps8
    go_wp2_with fail
    refine c.mono ?_
    rintro e w1 ⟨rfl, hb⟩
    have HB := hide ((HS0.out.next hb).next (bnew w1 (.cells #[] 2))).below
    clear hb c
    go_wp2_with fail
    go_ret
    exact ⟨_, _, 0, rfl, .inl rfl, .inl rfl, HB.out⟩
  · rw [hq] at c
    obtain ⟨_, h40, hbit⟩ := maskB_parts hq
    have cR := fun w' h => l7Runs_any a n cap f hl hbit w' h
    clear hq hbit
    rw [if_pos rfl]
    go_enter Try.func8, Try.ntmps8
    go_wp2_with fail
    refine c.mono ?_
    rintro e w1 ⟨rfl, hb⟩
    have HS1 := hide (HS0.out.next hb)
    obtain ⟨i0, i1, i2⟩ := HS1.out.im3 0 rfl
    clear hb c HS0
    go_wp2_with fail
    refine (cR _ (HP.out.below HS1.out.below)).mono ?_
    rintro e w2 ⟨a2, c2, b2, rfl, ho, h1, hb⟩
    have HO := hide ho
    have H1 : Hid (rcnt f n = 0 ∨ w.heap.size ≤ b2) := h1.imp_right (fun h => Nat.le_trans HS1.out.below.size h)
    have HB := hide (HS1.out.next hb).below
    clear ho h1 hb cR HS1 HP
    generalize rcnt f n = R at *
    go_wp2_with fail
    go_ret
    exact ⟨_, _, b2, rfl, HO.out, H1.out, HB.out⟩

set_option maxRecDepth 100000 in
set_option maxHeartbeats 2000000 in
theorem implRunsOf_any (W H : Int) (a : Option Addr) (n cap : Nat) (f : Nat → Int) (hl : n ≤ 1048576) (w : World) (h : Px a n f w) :
    Calls Try.prog 10 #[im W H a n cap] w (LsR (rofN W H n f) (rval f n) w) := by
  have HS0 := hide ((St.start w).box [.int .i64 W, .int .i64 H, .slice a n cap] 26)
  have c := isMask_any W H a n cap f hl _ (h.below HS0.out.below)
  have HP := hide h
  unfold rofN
  clear h
  cases hq : maskB W H n f
  · rw [hq] at c
    clear hq
    go_enter Try.func10, Try.ntmps10
    go_wp2_with fail
    refine c.mono ?_
    rintro e w1 ⟨rfl, hb⟩
    have HB := hide (HS0.out.next hb).below
    clear hb c
    go_wp2_with fail
    go_ret
    exact ⟨_, _, 0, rfl, .inl rfl, .inl rfl, HB.out⟩
  · rw [hq] at c
    have cR := fun w' h => runsIn_any a n cap f hl w' h
    clear hq
    rw [if_pos rfl]
    go_enter Try.func10, Try.ntmps10
    go_wp2_with fail
    refine c.mono ?_
    rintro e w1 ⟨rfl, hb⟩
    have HS1 := hide (HS0.out.next hb)
    obtain ⟨i0, i1, i2⟩ := HS1.out.im3 0 rfl
    clear hb c HS0
    go_wp2_with fail
    refine (cR _ (HP.out.below HS1.out.below)).mono ?_
    rintro e w2 ⟨a2, c2, b2, rfl, ho, h1, hb⟩
    have HO := hide ho
    have H1 : Hid (rcnt f n = 0 ∨ w.heap.size ≤ b2) := h1.imp_right (fun h => Nat.le_trans HS1.out.below.size h)
    have HB := hide (HS1.out.next hb).below
    clear ho h1 hb cR HS1 HP
    generalize rcnt f n = R at *
    go_wp2_with fail
    go_ret
    exact ⟨_, _, b2, rfl, HO.out, H1.out, HB.out⟩

end Go.Proofs.Ytipkfaajngabmaa

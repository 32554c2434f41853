/- Tone images: the specification and the program. -/
import Derived.Test.YtedjnemijeaeoaaHom
import Derived.Test.YtedjnemijeaeoaaPri
namespace Go.Proofs.Ytedjnemijeaeoaa
open Go.RowKit

/-- is it a tone image -/
def toneB (W H : Int) (n : Nat) (f : Nat → Int) : Bool := okB W H n f && (W == H && (priB W && alW f (-4095) 4095 n))

theorem toneB_parts {W H : Int} {n : Nat} {f : Nat → Int} (h : toneB W H n f = true) :
    ∃ p : Nat, W = p ∧ H = p ∧ n = p * p ∧ 2 ≤ p ∧ p ≤ 31 ∧ Lnm.isP p = true ∧ (∀ k, k < n → -4095 ≤ f k ∧ f k ≤ 4095) := by
  unfold toneB at h
  simp only [Bool.and_eq_true, beq_iff_eq] at h
  obtain ⟨h1, h2, h3, h4⟩ := h
  obtain ⟨p, hp, q1, q2, q3⟩ := priB_nat h3
  obtain ⟨_, _, h6, _⟩ := okB_parts h1
  refine ⟨p, hp, by omega, ?_, q1, q2, q3, fun k hk => ?_⟩
  · rw [← h2, hp] at h6
    have : ((n : Nat) : Int) = ((p * p : Nat) : Int) := by rw [h6, Int.natCast_mul]
    omega
  · have := alW_at h4 hk
    unfold inB at this
    simpa using this

set_option maxHeartbeats 2000000 in
theorem isTone_any (W H : Int) (a : Option Addr) (n cap : Nat) (f : Nat → Int) (hl : n ≤ 1048576) (w : World) (h : Px a n f w) :
    Calls Try.prog 28 #[im W H a n cap] w fun e w' => e = .returned (.bool (toneB W H n f)) ∧ Below w.heap.size w w' := by
  have HS0 := hide ((St.start w).box [.int .i64 W, .int .i64 H, .slice a n cap] 32)
  have c := implOk_any W H a n cap f hl _ (h.below HS0.out.below)
  have cP := isPrime_any W
  have HP := hide h
  unfold toneB
  clear h
  cases hq : okB W H n f
  · rw [hq] at c
    clear hq
    go_enter Try.func28, Try.ntmps28
    go_wp2_with fail
    refine c.mono ?_
    rintro e w1 ⟨rfl, hb⟩
    have HB := hide (HS0.out.next hb).below
    clear hb c
    go_wp2_with fail
    go_ret
    exact ⟨rfl, HB.out⟩
  rw [hq] at c
  clear hq
  by_cases hWH : W = H
  · subst hWH
    have hE : (W == W) = true := by simp
    cases hp : priB W
    · rw [hp] at cP
      clear hp
      go_enter Try.func28, Try.ntmps28
      go_wp2_with fail
      refine c.mono ?_
      rintro e w1 ⟨rfl, hb⟩
      have HS1 := hide (HS0.out.next hb)
      obtain ⟨i0, i1, i2⟩ := HS1.out.im3 0 rfl
      clear hb c HS0
      go_wp2_with fail
      refine (cP _).mono ?_
      rintro e w2 ⟨rfl, rfl⟩
      go_wp2_with fail
      go_ret
      exact ⟨by simp, HS1.out.below⟩
    · rw [hp] at cP
      clear hp
      have cA := fun w' h => allWithin_any (-4095) 4095 a n cap f hl w' h
      generalize alW f (-4095) 4095 n = V at *
      go_enter Try.func28, Try.ntmps28
      go_wp2_with fail
      refine c.mono ?_
      rintro e w1 ⟨rfl, hb⟩
      have HS1 := hide (HS0.out.next hb)
      obtain ⟨i0, i1, i2⟩ := HS1.out.im3 0 rfl
      clear hb c HS0
      go_wp2_with fail
      refine (cP _).mono ?_
      rintro e w2 ⟨rfl, rfl⟩
      go_wp2_with fail
      refine (cA _ (HP.out.below HS1.out.below)).mono ?_
      rintro e w3 ⟨rfl, rfl⟩
      go_wp2_with fail
      go_ret
      exact ⟨by simp, HS1.out.below⟩
  · have hE : (W == H) = false := by simpa using hWH
    rw [hE]
    clear hWH cP
    go_enter Try.func28, Try.ntmps28
    go_wp2_with fail
    refine c.mono ?_
    rintro e w1 ⟨rfl, hb⟩
    have HS1 := hide (HS0.out.next hb)
    obtain ⟨i0, i1, i2⟩ := HS1.out.im3 0 rfl
    clear hb c HS0
    go_wp2_with fail
    go_ret
    exact ⟨rfl, HS1.out.below⟩

set_option maxRecDepth 100000 in
set_option maxHeartbeats 2000000 in
theorem l6Tones_any (W H : Int) (a : Option Addr) (n cap : Nat) (f : Nat → Int) (hl : n ≤ 1048576) (w : World) (h : Px a n f w) :
    Calls Try.prog 43 #[im W H a n cap] w fun e w' => e = .returned (.bool (toneB W H n f)) ∧ Below w.heap.size w w' := by
  have HS0 := hide ((St.start w).box [.int .i64 W, .int .i64 H, .slice a n cap] 32)
  have c := specOk_any W H a n cap f hl _ (h.below HS0.out.below)
  have cP := l6Prime_any W
  have HP := hide h
  unfold toneB
  clear h
  cases hq : okB W H n f
  · rw [hq] at c
    clear hq
    go_enter Try.func43, Try.ntmps43
    go_wp2_with fail
    refine c.mono ?_
    rintro e w1 ⟨rfl, hb⟩
    have HB := hide (HS0.out.next hb).below
    clear hb c
    go_wp2_with fail
    go_ret
    exact ⟨rfl, HB.out⟩
  rw [hq] at c
  clear hq
  by_cases hWH : W = H
  · subst hWH
    have hE : (W == W) = true := by simp
    have hN : (W != W) = false := by simp
    cases hp : priB W
    · rw [hp] at cP
      clear hp
      go_enter Try.func43, Try.ntmps43
      go_wp2_with fail
      refine c.mono ?_
      rintro e w1 ⟨rfl, hb⟩
      have HS1 := hide (HS0.out.next hb)
      obtain ⟨i0, i1, i2⟩ := HS1.out.im3 0 rfl
      clear hb c HS0
      go_wp2_with fail
      refine (cP _).mono ?_
      rintro e w2 ⟨rfl, rfl⟩
      go_wp2_with fail
      go_ret
      exact ⟨by simp, HS1.out.below⟩
    · rw [hp] at cP
      clear hp
      go_enter Try.func43, Try.ntmps43
      go_wp2_with fail
      refine c.mono ?_
      rintro e w1 ⟨rfl, hb⟩
      have HS1 := hide (HS0.out.next hb)
      obtain ⟨i0, i1, i2⟩ := HS1.out.im3 0 rfl
      have HP1 := hide (HP.out.below HS1.out.below)
      clear hb c HS0 HP
      go_wp2_with fail
      refine (cP _).mono ?_
      rintro e w2 ⟨rfl, rfl⟩
      clear cP hE hN
      go_wp2_with fail
      go_loop [3] (fun i => ∃ k : Nat, k ≤ n ∧ i = .int .i64 k ∧ alW f (-4095) 4095 k = true) (fun i => n - (intOf i).toNat)
      case atStart => exact ⟨0, by omega, rfl, rfl⟩
      case round =>
        obtain ⟨k, hk, rfl, ha⟩ := hrel
        by_cases hlt : k < n
        · obtain ⟨b, off, rfl, hz⟩ := HP1.out.at hlt
          have hcall := l1In_any (f k) (-4095) 4095
          clear HP1
          cases hi' : inB (f k) (-4095) 4095
          · have HF : Hid (alW f (-4095) 4095 n = false) := alW_false hlt hi'
            rw [hi'] at hcall
            clear ha hi'
            go_wp2_with fail
            refine (hcall _).mono ?_
            rintro e w' ⟨rfl, rfl⟩
            go_wp2_with fail
            go_ret
            exact ⟨by rw [HF.out]; simp, HS1.out.below⟩
          · have HF : Hid (alW f (-4095) 4095 (k + 1) = true) := alW_step ha hi'
            rw [hi'] at hcall
            clear ha hi'
            go_wp2_with fail
            refine (hcall _).mono ?_
            rintro e w' ⟨rfl, rfl⟩
            go_wp2_with fail
            exact ⟨⟨k + 1, by omega, rfl, HF.out⟩, by simp [intOf]; omega⟩
        · obtain rfl : k = n := by omega
          have HA : Hid (alW f (-4095) 4095 k = true) := ha
          clear ha HP1
          go_wp2
          go_ret
          exact ⟨by rw [HA.out]; simp, HS1.out.below⟩
  · have hE : (W == H) = false := by simpa using hWH
    have hN : (W != H) = true := by simpa using hWH
    rw [hE]
    clear hWH cP
    go_enter Try.func43, Try.ntmps43
    go_wp2_with fail
    refine c.mono ?_
    rintro e w1 ⟨rfl, hb⟩
    have HS1 := hide (HS0.out.next hb)
    obtain ⟨i0, i1, i2⟩ := HS1.out.im3 0 rfl
    clear hb c HS0
    go_wp2_with fail
    go_ret
    exact ⟨rfl, HS1.out.below⟩

end Go.Proofs.Ytedjnemijeaeoaa

/- Prime sides, and the side of a number of lines: the specification and the program. -/
import Derived.Test.YtedjnemijeaeoaaIls
import Derived.Test.YtedjnemijeaeoaaLnm
namespace Go.Proofs.Ytedjnemijeaeoaa
open Go.RowKit

/-- is it a prime side -/
def priB (n : Int) : Bool := n == 2 || (n == 3 || (n == 5 || (n == 7 || (n == 11 || (n == 13 || (n == 17 || (n == 19 || (n == 23 || (n == 29 || (n == 31))))))))))
theorem priB_nat {n : Int} (h : priB n = true) : ∃ m : Nat, n = (m : Int) ∧ 2 ≤ m ∧ m ≤ 31 ∧ Lnm.isP m = true := by
  unfold priB at h
  simp only [Bool.or_eq_true, beq_iff_eq] at h
  rcases h with rfl | rfl | rfl | rfl | rfl | rfl | rfl | rfl | rfl | rfl | rfl
  · exact ⟨2, rfl, by omega, by omega, rfl⟩
  · exact ⟨3, rfl, by omega, by omega, rfl⟩
  · exact ⟨5, rfl, by omega, by omega, rfl⟩
  · exact ⟨7, rfl, by omega, by omega, rfl⟩
  · exact ⟨11, rfl, by omega, by omega, rfl⟩
  · exact ⟨13, rfl, by omega, by omega, rfl⟩
  · exact ⟨17, rfl, by omega, by omega, rfl⟩
  · exact ⟨19, rfl, by omega, by omega, rfl⟩
  · exact ⟨23, rfl, by omega, by omega, rfl⟩
  · exact ⟨29, rfl, by omega, by omega, rfl⟩
  · exact ⟨31, rfl, by omega, by omega, rfl⟩
set_option maxHeartbeats 1000000 in
theorem l6Prime_any (n : Int) (w : World) : Calls Try.prog 62 #[.int .i64 n] w fun e w' => e = .returned (.bool (priB n)) ∧ w' = w := by
  unfold priB
  by_cases h0 : n = 2
  · subst h0; go_enter Try.func62, Try.ntmps62; go_wp2; go_ret; exact ⟨rfl, rfl⟩
  by_cases h1 : n = 3
  · subst h1; go_enter Try.func62, Try.ntmps62; go_wp2; go_ret; exact ⟨rfl, rfl⟩
  by_cases h2 : n = 5
  · subst h2; go_enter Try.func62, Try.ntmps62; go_wp2; go_ret; exact ⟨rfl, rfl⟩
  by_cases h3 : n = 7
  · subst h3; go_enter Try.func62, Try.ntmps62; go_wp2; go_ret; exact ⟨rfl, rfl⟩
  by_cases h4 : n = 11
  · subst h4; go_enter Try.func62, Try.ntmps62; go_wp2; go_ret; exact ⟨rfl, rfl⟩
  by_cases h5 : n = 13
  · subst h5; go_enter Try.func62, Try.ntmps62; go_wp2; go_ret; exact ⟨rfl, rfl⟩
  by_cases h6 : n = 17
  · subst h6; go_enter Try.func62, Try.ntmps62; go_wp2; go_ret; exact ⟨rfl, rfl⟩
  by_cases h7 : n = 19
  · subst h7; go_enter Try.func62, Try.ntmps62; go_wp2; go_ret; exact ⟨rfl, rfl⟩
  by_cases h8 : n = 23
  · subst h8; go_enter Try.func62, Try.ntmps62; go_wp2; go_ret; exact ⟨rfl, rfl⟩
  by_cases h9 : n = 29
  · subst h9; go_enter Try.func62, Try.ntmps62; go_wp2; go_ret; exact ⟨rfl, rfl⟩
  by_cases h10 : n = 31
  · subst h10; go_enter Try.func62, Try.ntmps62; go_wp2; go_ret; exact ⟨rfl, rfl⟩
  have e0 : (n == 2) = false := by simpa using h0
  have e1 : (n == 3) = false := by simpa using h1
  have e2 : (n == 5) = false := by simpa using h2
  have e3 : (n == 7) = false := by simpa using h3
  have e4 : (n == 11) = false := by simpa using h4
  have e5 : (n == 13) = false := by simpa using h5
  have e6 : (n == 17) = false := by simpa using h6
  have e7 : (n == 19) = false := by simpa using h7
  have e8 : (n == 23) = false := by simpa using h8
  have e9 : (n == 29) = false := by simpa using h9
  have e10 : (n == 31) = false := by simpa using h10
  rw [e0, e1, e2, e3, e4, e5, e6, e7, e8, e9, e10]
  go_enter Try.func62, Try.ntmps62
  go_wp2
  go_ret
  exact ⟨rfl, rfl⟩

set_option maxHeartbeats 1000000 in
theorem isPrime_any (n : Int) (w : World) : Calls Try.prog 52 #[.int .i64 n] w fun e w' => e = .returned (.bool (priB n)) ∧ w' = w := by
  unfold priB
  by_cases h0 : n = 2
  · subst h0; go_enter Try.func52, Try.ntmps52; go_wp2; go_ret; exact ⟨rfl, rfl⟩
  by_cases h1 : n = 3
  · subst h1; go_enter Try.func52, Try.ntmps52; go_wp2; go_ret; exact ⟨rfl, rfl⟩
  by_cases h2 : n = 5
  · subst h2; go_enter Try.func52, Try.ntmps52; go_wp2; go_ret; exact ⟨rfl, rfl⟩
  by_cases h3 : n = 7
  · subst h3; go_enter Try.func52, Try.ntmps52; go_wp2; go_ret; exact ⟨rfl, rfl⟩
  by_cases h4 : n = 11
  · subst h4; go_enter Try.func52, Try.ntmps52; go_wp2; go_ret; exact ⟨rfl, rfl⟩
  by_cases h5 : n = 13
  · subst h5; go_enter Try.func52, Try.ntmps52; go_wp2; go_ret; exact ⟨rfl, rfl⟩
  by_cases h6 : n = 17
  · subst h6; go_enter Try.func52, Try.ntmps52; go_wp2; go_ret; exact ⟨rfl, rfl⟩
  by_cases h7 : n = 19
  · subst h7; go_enter Try.func52, Try.ntmps52; go_wp2; go_ret; exact ⟨rfl, rfl⟩
  by_cases h8 : n = 23
  · subst h8; go_enter Try.func52, Try.ntmps52; go_wp2; go_ret; exact ⟨rfl, rfl⟩
  by_cases h9 : n = 29
  · subst h9; go_enter Try.func52, Try.ntmps52; go_wp2; go_ret; exact ⟨rfl, rfl⟩
  by_cases h10 : n = 31
  · subst h10; go_enter Try.func52, Try.ntmps52; go_wp2; go_ret; exact ⟨rfl, rfl⟩
  have e0 : (n == 2) = false := by simpa using h0
  have e1 : (n == 3) = false := by simpa using h1
  have e2 : (n == 5) = false := by simpa using h2
  have e3 : (n == 7) = false := by simpa using h3
  have e4 : (n == 11) = false := by simpa using h4
  have e5 : (n == 13) = false := by simpa using h5
  have e6 : (n == 17) = false := by simpa using h6
  have e7 : (n == 19) = false := by simpa using h7
  have e8 : (n == 23) = false := by simpa using h8
  have e9 : (n == 29) = false := by simpa using h9
  have e10 : (n == 31) = false := by simpa using h10
  rw [e0, e1, e2, e3, e4, e5, e6, e7, e8, e9, e10]
  go_enter Try.func52, Try.ntmps52
  go_wp2
  go_ret
  exact ⟨rfl, rfl⟩

/-- the side of n lines -/
def sdv (n : Int) : Int := if n = 6 then 2 else if n = 12 then 3 else if n = 30 then 5 else if n = 56 then 7 else if n = 132 then 11 else if n = 182 then 13 else if n = 306 then 17 else if n = 380 then 19 else if n = 552 then 23 else if n = 870 then 29 else if n = 992 then 31 else 0
theorem sdv_yes {k : Nat} (h : priB (k : Int) = true) : sdv (((k : Int) + 1) * k) = k := by
  unfold priB at h
  simp only [Bool.or_eq_true, beq_iff_eq] at h
  rcases h with h | h | h | h | h | h | h | h | h | h | h <;> rw [h] <;> rfl
theorem sdv_no {n : Int} (h : ∀ k : Nat, k ≤ 31 → priB (k : Int) = true → ((k : Int) + 1) * k ≠ n) : sdv n = 0 := by
  unfold sdv
  rw [if_neg (fun e => h 2 (by omega) rfl (by rw [e]; rfl))]
  rw [if_neg (fun e => h 3 (by omega) rfl (by rw [e]; rfl))]
  rw [if_neg (fun e => h 5 (by omega) rfl (by rw [e]; rfl))]
  rw [if_neg (fun e => h 7 (by omega) rfl (by rw [e]; rfl))]
  rw [if_neg (fun e => h 11 (by omega) rfl (by rw [e]; rfl))]
  rw [if_neg (fun e => h 13 (by omega) rfl (by rw [e]; rfl))]
  rw [if_neg (fun e => h 17 (by omega) rfl (by rw [e]; rfl))]
  rw [if_neg (fun e => h 19 (by omega) rfl (by rw [e]; rfl))]
  rw [if_neg (fun e => h 23 (by omega) rfl (by rw [e]; rfl))]
  rw [if_neg (fun e => h 29 (by omega) rfl (by rw [e]; rfl))]
  rw [if_neg (fun e => h 31 (by omega) rfl (by rw [e]; rfl))]

theorem lineCount_any (k : Nat) (h : k ≤ 64) (w : World) : Calls Try.prog 29 #[.int .i64 k] w fun e w' => e = .returned (.int .i64 (((k : Int) + 1) * k)) ∧ w' = w := by
  obtain ⟨z, hz⟩ : ∃ z, z = ((k : Int) + 1) * k := ⟨_, rfl⟩
  have hb : z ≤ 65 * 64 ∧ 0 ≤ z := by
    rw [hz]; exact ⟨Int.mul_le_mul (by omega) (by omega) (by omega) (by omega), Int.mul_nonneg (by omega) (by omega)⟩
  have h1 : IntKind.i64.wrap ((k : Int) + 1) = (k : Int) + 1 := by rw [IntKind.wrap_i64]; omega
  have h2 : IntKind.i64.wrap (((k : Int) + 1) * k) = z := by rw [← hz, IntKind.wrap_i64]; omega
  rw [← hz]
  clear hz hb
  go_enter Try.func29, Try.ntmps29
  go_wp2
  go_ret
  exact ⟨by first | rfl | rw [h2], rfl⟩

set_option maxRecDepth 100000 in
set_option maxHeartbeats 1000000 in
theorem implSideOf_any (n : Int) (w : World) : Calls Try.prog 33 #[.int .i64 n] w fun e w' => e = .returned (.int .i64 (sdv n)) ∧ w' = w := by
  go_enter Try.func33, Try.ntmps33
  go_wp2_with fail
  go_loop [3, 4] (fun _ i => ∃ k : Nat, k ≤ 65 ∧ i = .int .i64 k ∧ Hid (∀ j : Nat, j < k → priB (j : Int) = true → ((j : Int) + 1) * j ≠ n)) (fun _ i => 65 - (intOf i).toNat)
  case atStart => exact ⟨0, by omega, rfl, fun j hj => by omega⟩
  case round =>
    obtain ⟨k, hk, rfl, hno⟩ := hrel
    by_cases hlt : k < 65
    · have cP := isPrime_any (k : Int)
      have cL := lineCount_any k (by omega)
      cases hp : priB (k : Int)
      · rw [hp] at cP
        have HN : Hid (∀ j : Nat, j < k + 1 → priB (j : Int) = true → ((j : Int) + 1) * j ≠ n) := fun j hj h => by
          by_cases e : j = k
          · subst e; rw [hp] at h; cases h
          · exact hno.out j (by omega) h
        clear hp hno cL
        go_wp2_with fail
        refine (cP _).mono ?_
        rintro e w1 ⟨rfl, rfl⟩
        go_wp2_with fail
        exact ⟨⟨k + 1, by omega, rfl, HN⟩, by simp [intOf]; omega⟩
      · rw [hp] at cP
        have HY := hide (sdv_yes hp)
        obtain ⟨z, hz⟩ : ∃ z, z = ((k : Int) + 1) * k := ⟨_, rfl⟩
        have HZ := hide hz
        rw [← hz] at cL
        by_cases he : z = n
        · subst he
          have hE : (z == z) = true := by simp
          clear hp hno hz
          go_wp2_with fail
          refine (cP _).mono ?_
          rintro e w1 ⟨rfl, rfl⟩
          go_wp2_with fail
          refine (cL _).mono ?_
          rintro e w1 ⟨rfl, rfl⟩
          go_wp2_with fail
          go_ret
          exact ⟨by rw [HZ.out, HY.out]; rfl, rfl⟩
        · have HN : Hid (∀ j : Nat, j < k + 1 → priB (j : Int) = true → ((j : Int) + 1) * j ≠ n) := fun j hj h => by
            by_cases e : j = k
            · subst e; rw [← HZ.out]; exact he
            · exact hno.out j (by omega) h
          clear hp hno hz
          go_wp2_with fail
          refine (cP _).mono ?_
          rintro e w1 ⟨rfl, rfl⟩
          go_wp2_with fail
          refine (cL _).mono ?_
          rintro e w1 ⟨rfl, rfl⟩
          go_wp2_with fail
          exact ⟨⟨k + 1, by omega, rfl, HN⟩, by simp [intOf]; omega⟩
    · have hz := hide (sdv_no (n := n) (fun j hj h => hno.out j (by omega) h))
      clear hno
      go_wp2_with fail
      go_ret
      exact ⟨by rw [hz.out]; rfl, rfl⟩

set_option maxRecDepth 100000 in
set_option maxHeartbeats 1000000 in
theorem specSideOf_any (n : Int) (w : World) : Calls Try.prog 63 #[.int .i64 n] w fun e w' => e = .returned (.int .i64 (sdv n)) ∧ w' = w := by
  go_enter Try.func63, Try.ntmps63
  go_wp2_with fail
  go_loop [3] (fun i => ∃ k : Nat, 2 ≤ k ∧ k ≤ 32 ∧ i = .int .i64 k ∧ Hid (∀ j : Nat, j < k → priB (j : Int) = true → ((j : Int) + 1) * j ≠ n)) (fun i => 32 - (intOf i).toNat)
  case atStart =>
    refine ⟨2, by omega, by omega, rfl, fun j hj h => ?_⟩
    obtain ⟨m, hm, h2, _⟩ := priB_nat h
    omega
  case round =>
    obtain ⟨k, hk2, hk, rfl, hno⟩ := hrel
    by_cases hlt : k ≤ 31
    · have cP := l6Prime_any (k : Int)
      cases hp : priB (k : Int)
      · rw [hp] at cP
        have HN : Hid (∀ j : Nat, j < k + 1 → priB (j : Int) = true → ((j : Int) + 1) * j ≠ n) := fun j hj h => by
          by_cases e : j = k
          · subst e; rw [hp] at h; cases h
          · exact hno.out j (by omega) h
        clear hp hno
        go_wp2_with fail
        refine (cP _).mono ?_
        rintro e w1 ⟨rfl, rfl⟩
        go_wp2_with fail
        exact ⟨⟨k + 1, by omega, by omega, rfl, HN⟩, by simp [intOf]; omega⟩
      · rw [hp] at cP
        have HY := hide (sdv_yes hp)
        obtain ⟨z, hz⟩ : ∃ z, z = ((k : Int) + 1) * k := ⟨_, rfl⟩
        have HZ := hide hz
        have hb : z ≤ 32 * 31 ∧ 0 ≤ z := by
          rw [hz]; exact ⟨Int.mul_le_mul (by omega) (by omega) (by omega) (by omega), Int.mul_nonneg (by omega) (by omega)⟩
        have h1 : IntKind.i64.wrap ((k : Int) + 1) = (k : Int) + 1 := by rw [IntKind.wrap_i64]; omega
        have h2 : IntKind.i64.wrap (((k : Int) + 1) * k) = z := by rw [← hz, IntKind.wrap_i64]; omega
        by_cases he : z = n
        · subst he
          have hE : (z == z) = true := by simp
          clear hp hno hz hb
          go_wp2_with fail
          refine (cP _).mono ?_
          rintro e w1 ⟨rfl, rfl⟩
          go_wp2_with fail
          go_ret
          exact ⟨by rw [HZ.out, HY.out]; rfl, rfl⟩
        · have HN : Hid (∀ j : Nat, j < k + 1 → priB (j : Int) = true → ((j : Int) + 1) * j ≠ n) := fun j hj h => by
            by_cases e : j = k
            · subst e; rw [← HZ.out]; exact he
            · exact hno.out j (by omega) h
          clear hp hno hz hb
          go_wp2_with fail
          refine (cP _).mono ?_
          rintro e w1 ⟨rfl, rfl⟩
          go_wp2_with fail
          exact ⟨⟨k + 1, by omega, by omega, rfl, HN⟩, by simp [intOf]; omega⟩
    · have hz := hide (sdv_no (n := n) (fun j hj h => hno.out j (by omega) h))
      clear hno
      go_wp2_with fail
      go_ret
      exact ⟨by rw [hz.out]; rfl, rfl⟩

end Go.Proofs.Ytedjnemijeaeoaa
/- Remainders and powers modulo 12289. -/
import Derived.Test.YtpeocbhnnpppjaaIls
namespace Go.Proofs.Ytpeocbhnnpppjaa
open Go.RowKit

theorem tmod_bd (x : Int) {m : Nat} (h : 1 ≤ m) : -(m : Int) < x.tmod m ∧ x.tmod m < m := by
  have h1 : x.tmod m < m := Int.tmod_lt_of_pos x (by omega)
  have h2 : -(m : Int) < x.tmod m := Int.lt_tmod_of_pos x (by omega)
  exact ⟨h2, h1⟩
theorem tmod_cases (x : Int) (m : Nat) : x.tmod m = x % m ∨ x.tmod m = x % m - m := by
  rw [Int.tmod_eq_emod]
  split
  · exact .inl (by omega)
  · exact .inr (by simp)
theorem emod_bd (x : Int) {m : Nat} (h : 1 ≤ m) : 0 ≤ x % (m : Int) ∧ x % (m : Int) < m := ⟨Int.emod_nonneg _ (by omega), Int.emod_lt_of_pos _ (by omega)⟩
theorem mod_spec (x : Int) {m : Nat} (h : 1 ≤ m) : (if x.tmod m < 0 then x.tmod m + m else x.tmod m) = x % m := by
  have := emod_bd x h
  rcases tmod_cases x m with e | e <;> rw [e]
  · rw [if_neg (by omega)]
  · rw [if_pos (by omega)]; omega
theorem mod_impl (x : Int) {m : Nat} (h : 1 ≤ m) : (x.tmod m + m).tmod m = x % m := by
  have := tmod_bd x h
  rw [Int.tmod_eq_emod_of_nonneg (by omega), Int.add_emod_right]
  rcases tmod_cases x m with e | e <;> rw [e]
  · exact Int.emod_emod_of_dvd _ (Int.dvd_refl _)
  · rw [Int.sub_emod_right]; exact Int.emod_emod_of_dvd _ (Int.dvd_refl _)

theorem l1Mod_any (x : Int) (m : Nat) (h1 : 1 ≤ m) (h2 : m ≤ 1099511627776) (w : World) :
    Calls Try.prog 22 #[.int .i64 x, .int .i64 m] w fun e w' => e = .returned (.int .i64 (x % m)) ∧ w' = w := by
  have hs := mod_spec x h1
  have hb := tmod_bd x h1
  have hm0 : ((m : Int) == 0) = false := by simp; omega
  have hw : IntKind.i64.wrap (x.tmod m) = x.tmod m := by rw [IntKind.wrap_i64]; omega
  have hw2 : IntKind.i64.wrap (x.tmod m + m) = x.tmod m + m := by rw [IntKind.wrap_i64]; omega
  generalize x % (m : Int) = z at *
  by_cases hn : x.tmod m < 0
  · rw [if_pos hn] at hs
    go_enter Try.func22, Try.ntmps22
    go_wp2
    go_ret
    exact ⟨by rw [← hs]; rfl, rfl⟩
  · rw [if_neg hn] at hs
    go_enter Try.func22, Try.ntmps22
    go_wp2
    go_ret
    exact ⟨by rw [← hs]; rfl, rfl⟩
theorem modulo_any (x : Int) (m : Nat) (h1 : 1 ≤ m) (h2 : m ≤ 1099511627776) (w : World) :
    Calls Try.prog 29 #[.int .i64 x, .int .i64 m] w fun e w' => e = .returned (.int .i64 (x % m)) ∧ w' = w := by
  have hs := mod_impl x h1
  have hb := tmod_bd x h1
  have hb2 := emod_bd x h1
  have hm0 : ((m : Int) == 0) = false := by simp; omega
  have hw : IntKind.i64.wrap (x.tmod m) = x.tmod m := by rw [IntKind.wrap_i64]; omega
  have hw2 : IntKind.i64.wrap (x.tmod m + m) = x.tmod m + m := by rw [IntKind.wrap_i64]; omega
  have hw3 : IntKind.i64.wrap ((x.tmod m + m).tmod m) = x % m := by rw [hs, IntKind.wrap_i64]; omega
  go_enter Try.func29, Try.ntmps29
  go_wp2
  go_ret
  exact ⟨by first | rfl | rw [hs] | rw [hw3], rfl⟩

/-- the residue modulo 12289 -/
def res (x : Int) : Int := x % 12289
theorem res_bd (x : Int) : 0 ≤ res x ∧ res x < 12289 := ⟨Int.emod_nonneg _ (by omega), Int.emod_lt_of_pos _ (by omega)⟩
theorem res_nat (n : Nat) : res (n : Int) = ((n % 12289 : Nat) : Int) := rfl
theorem l1Mod_res (x : Int) (w : World) : Calls Try.prog 22 #[.int .i64 x, .int .i64 12289] w fun e w' => e = .returned (.int .i64 (res x)) ∧ w' = w := l1Mod_any x 12289 (by omega) (by omega) w
theorem residue_any (x : Int) (w : World) : Calls Try.prog 20 #[.int .i64 x] w fun e w' => e = .returned (.int .i64 (res x)) ∧ w' = w := by
  have c := modulo_any x 12289 (by omega) (by omega)
  go_enter Try.func20, Try.ntmps20
  go_wp2_with fail
  refine (c _).mono ?_
  rintro e w1 ⟨rfl, rfl⟩
  go_wp2
  go_ret
  exact ⟨rfl, rfl⟩

/-- the power by squaring: n halvings at most -/
def pwF : Nat → Nat → Nat → Nat → Nat
  | 0, r, _, _ => r
  | n + 1, r, b, e => if e = 0 then r else pwF n (if e % 2 = 1 then r * b % 12289 else r) (b * b % 12289) (e / 2)
theorem pwF_zero : ∀ (n r b : Nat), pwF n r b 0 = r
  | 0, _, _ => rfl
  | _ + 1, _, _ => rfl
theorem pwF_odd (n r b e : Nat) (h : e ≠ 0) (h1 : e % 2 = 1) : pwF (n + 1) r b e = pwF n (r * b % 12289) (b * b % 12289) (e / 2) := by
  rw [pwF, if_neg h, if_pos h1]
theorem pwF_even (n r b e : Nat) (h : e ≠ 0) (h1 : e % 2 ≠ 1) : pwF (n + 1) r b e = pwF n r (b * b % 12289) (e / 2) := by
  rw [pwF, if_neg h, if_neg h1]
theorem pwF_lt : ∀ (n r b e : Nat), r < 12289 → pwF n r b e < 12289
  | 0, _, _, _, h => h
  | n + 1, r, b, e, h => by
    rw [pwF]
    split
    · exact h
    · refine pwF_lt n _ _ _ ?_
      split
      · exact Nat.mod_lt _ (by omega)
      · exact h
/-- b to the power e, modulo 12289 -/
def pw (b : Int) (e : Nat) : Int := (pwF 41 1 (res b).toNat e : Nat)
theorem pw_bd (b : Int) (e : Nat) : 0 ≤ pw b e ∧ pw b e < 12289 := by
  have := pwF_lt 41 1 (res b).toNat e (by omega)
  unfold pw; omega

theorem nmod (x m : Nat) : (x : Int).tmod (m : Int) = ((x % m : Nat) : Int) := by
  rw [Int.tmod_eq_emod_of_nonneg (by omega)]; rfl
theorem ndiv (x m : Nat) : (x : Int).tdiv (m : Int) = ((x / m : Nat) : Int) := by
  rw [Int.tdiv_eq_ediv_of_nonneg (by omega)]; rfl

end Go.Proofs.Ytpeocbhnnpppjaa

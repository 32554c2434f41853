/- Deliver: numbers alone. -/
import Derived.Test.YtocmbdckjdggiaaBdn
import Derived.Test.YtocmbdckjdggiaaLls
namespace Go.Proofs.Ytocmbdckjdggiaa
open Go.RowKit

/-- what voxel i gets -/
def dvS (K r : Nat → Int) (n i : Nat) : Int := dotS (fun q => K (i * n + q)) r n
/-- while the first i numbers of the kernel are through -/
def dvP (K r : Nat → Int) (n i q : Nat) : Int := if q < i / n then dvS K r n q else if q = i / n then dotS (fun t => K (q * n + t)) r (i % n) else 0
def dvB (m n : Nat) (K r : Nat → Int) : Bool := rlB n r && (decide (n ≠ 0) && (decide (m % n = 0) && (decide (m / n ≤ 1024) && alW K 0 1000 m)))
def dvN (m n : Nat) (K r : Nat → Int) : Nat := if dvB m n K r = true then m / n else 0
theorem dvN_le (m n : Nat) (K r : Nat → Int) : dvN m n K r ≤ 1048576 := by
  unfold dvN
  cases h : dvB m n K r
  · simp
  · unfold dvB at h
    rw [Bool.and_eq_true, Bool.and_eq_true, Bool.and_eq_true, Bool.and_eq_true, decide_eq_true_eq, decide_eq_true_eq, decide_eq_true_eq] at h
    rw [if_pos rfl]; omega
theorem divmod_step {n i : Nat} (h : 0 < n) : (i % n + 1 < n ∧ (i + 1) / n = i / n ∧ (i + 1) % n = i % n + 1) ∨ (i % n + 1 = n ∧ (i + 1) / n = i / n + 1 ∧ (i + 1) % n = 0) := by
  have h1 := Nat.div_add_mod i n
  have h2 := Nat.mod_lt i h
  by_cases e : i % n + 1 < n
  · left
    have h3 : i + 1 = n * (i / n) + (i % n + 1) := by omega
    refine ⟨e, ?_, ?_⟩
    · rw [h3, Nat.mul_add_div h, Nat.div_eq_of_lt e]; simp
    · rw [h3, Nat.mul_add_mod, Nat.mod_eq_of_lt e]
  · right
    have h4 : i % n + 1 = n := by omega
    have h3 : i + 1 = n * (i / n + 1) := by rw [Nat.mul_add, Nat.mul_one]; omega
    refine ⟨h4, ?_, ?_⟩
    · rw [h3, Nat.mul_div_cancel_left _ h]
    · rw [h3, Nat.mul_mod_right]
theorem dvP_step {K r : Nat → Int} {n i : Nat} (h : 0 < n) (q : Nat) : updN (dvP K r n i) (i / n) (dvP K r n i (i / n) + K i * r (i % n)) q = dvP K r n (i + 1) q := by
  have hi : i / n * n + i % n = i := by rw [Nat.mul_comm]; exact Nat.div_add_mod i n
  have h0 : dvP K r n i (i / n) = dotS (fun t => K (i / n * n + t)) r (i % n) := by
    unfold dvP; rw [if_neg (by omega), if_pos rfl]
  have h1 : dvP K r n i (i / n) + K i * r (i % n) = dotS (fun t => K (i / n * n + t)) r (i % n + 1) := by
    rw [h0]
    show _ = dotS (fun t => K (i / n * n + t)) r (i % n) + K (i / n * n + i % n) * r (i % n)
    rw [hi]
  unfold updN
  by_cases e : q = i / n
  · subst e
    rw [if_pos rfl, h1]
    unfold dvP
    rcases divmod_step (n := n) (i := i) h with ⟨h2, h3, h4⟩ | ⟨h2, h3, h4⟩
    · rw [h3, h4, if_neg (by omega), if_pos rfl]
    · rw [h3, if_pos (by omega), h2]; rfl
  · rw [if_neg e]
    unfold dvP
    rcases divmod_step (n := n) (i := i) h with ⟨h2, h3, h4⟩ | ⟨h2, h3, h4⟩
    · rw [h3, if_neg e, if_neg e]
    · rw [h3, h4]
      by_cases hq : q < i / n
      · rw [if_pos hq, if_pos (by omega)]
      · rw [if_neg hq, if_neg e, if_neg (by omega)]
        by_cases hq2 : q = i / n + 1
        · rw [if_pos hq2]; rfl
        · rw [if_neg hq2]
theorem dvP_0 (K r : Nat → Int) (n q : Nat) : dvP K r n 0 q = 0 := by
  unfold dvP
  rw [Nat.zero_div, Nat.zero_mod, if_neg (by omega)]
  split <;> rfl
theorem dvP_end {K r : Nat → Int} {m n q : Nat} (hq : q < m / n) : dvP K r n m q = dvS K r n q := by unfold dvP; rw [if_pos hq]
theorem dv_prod {a x : Int} (h0 : 0 ≤ a) (h1 : a ≤ 1000) (h2 : 0 ≤ x) (h3 : x ≤ 1000) : -1000000 ≤ a * x ∧ a * x ≤ 1000000 := by
  have := natb (a := a) (b := x) (P := 1000) (Q := 1000) (by omega) (by omega)
  omega
theorem dv_cell {m n i q : Nat} (hm : m % n = 0) (hi : i < m / n) (hq : q < n) : i * n + q < m := by
  have h1 := Nat.div_add_mod m n
  rw [hm, Nat.add_zero] at h1
  have h2 : (i + 1) * n ≤ m / n * n := Nat.mul_le_mul_right n (by omega)
  have h3 : m / n * n = m := by rw [Nat.mul_comm]; exact h1
  have h4 : (i + 1) * n = i * n + n := by rw [Nat.add_mul, Nat.one_mul]
  omega
theorem div_lt_of {m n i : Nat} (hn : 0 < n) (hm : m % n = 0) (hi : i < m) : i / n < m / n := by
  have h1 := Nat.div_add_mod m n
  rw [hm, Nat.add_zero] at h1
  rw [Nat.div_lt_iff_lt_mul hn, Nat.mul_comm, h1]
  exact hi
theorem dvP_bd {K r : Nat → Int} {m n i : Nat} (hn : 0 < n) (hn2 : n ≤ 64) (hm : m % n = 0) (hi : i < m) (hK : ∀ k, k < m → 0 ≤ K k ∧ K k ≤ 1000) (hr : ∀ k, k < n → 0 ≤ r k ∧ r k ≤ 1000) :
    -64000000 ≤ dvP K r n i (i / n) ∧ dvP K r n i (i / n) ≤ 64000000 := by
  unfold dvP
  rw [if_neg (by omega), if_pos rfl]
  have h2 := Nat.mod_lt i hn
  have := dotS_bd (f := fun t => K (i / n * n + t)) (x := r) (M := 1000000) (by omega) (i % n) (fun k hk => by
    have h3 := hK (i / n * n + k) (dv_cell hm (div_lt_of hn hm hi) (by omega))
    have h4 := hr k (by omega)
    exact dv_prod h3.1 h3.2 h4.1 h4.2)
  omega

end Go.Proofs.Ytocmbdckjdggiaa

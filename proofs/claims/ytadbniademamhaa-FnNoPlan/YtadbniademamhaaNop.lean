/- What is refuted is not kept by any numbers. -/
import Derived.Test.YtadbniademamhaaKep
import Derived.Test.YtadbniademamhaaRfn
namespace Go.Proofs.Ytadbniademamhaa

theorem dotS_lin (w g h : Nat → Int) (c : Int) : ∀ m, dotS w (fun i => g i + h i * c) m = dotS w g m + dotS w h m * c
  | 0 => by simp [dotS]
  | m + 1 => by
    simp only [dotS]
    rw [dotS_lin w g h c m, Int.mul_add, Int.add_mul, Int.mul_assoc]
    omega
theorem dotS_0 (w : Nat → Int) : ∀ m, dotS w (fun _ => 0) m = 0
  | 0 => rfl
  | m + 1 => by simp only [dotS]; rw [dotS_0 w m]; simp
/-- summed either way -/
theorem dotS_swap (wt : Nat → Int) (F : Nat → Nat → Int) (x : Nat → Int) (m : Nat) : ∀ L, dotS wt (fun i => dotS (F i) x L) m = dotS (fun q => dotS wt (fun i => F i q) m) x L
  | 0 => dotS_0 wt m
  | L + 1 => by
    have h := dotS_lin wt (fun i => dotS (F i) x L) (fun i => F i L) (x L) m
    rw [dotS_swap wt F x m L] at h
    exact h
theorem dotS_le {w f g : Nat → Int} : ∀ m, (∀ i, i < m → 0 ≤ w i ∧ f i ≤ g i) → dotS w f m ≤ dotS w g m
  | 0, _ => Int.le_refl _
  | m + 1, h => by
    have h1 := dotS_le m (fun i hi => h i (by omega))
    have h2 := Int.mul_le_mul_of_nonneg_left (h m (by omega)).2 (h m (by omega)).1
    simp only [dotS]; omega
theorem dotS_pos {f x : Nat → Int} : ∀ n, (∀ k, k < n → 0 ≤ f k ∧ 0 ≤ x k) → 0 ≤ dotS f x n
  | 0, _ => Int.le_refl _
  | n + 1, h => by
    have h1 := dotS_pos n (fun i hi => h i (by omega))
    have h2 := Int.mul_nonneg (h n (by omega)).1 (h n (by omega)).2
    simp only [dotS]; omega
theorem refB_parts {m : Nat} {ln : Nat → Nat} {F : Nat → Nat → Int} {Bv : Nat → Int} {n : Nat} {wt : Nat → Int} (h : refB m ln F Bv n wt = true) : bdB m ln F Bv = true ∧ n = m ∧ (∀ i, i < m → 0 ≤ wt i) ∧ (∀ q, q < ln 0 → 0 ≤ dotS wt (fun i => F i q) m) ∧ dotS wt Bv m < 0 := by
  unfold refB at h
  rw [Bool.and_eq_true, Bool.and_eq_true, Bool.and_eq_true, Bool.and_eq_true, decide_eq_true_eq, decide_eq_true_eq] at h
  obtain ⟨h1, h2, h3, h4, h5⟩ := h
  refine ⟨h1, h2, fun i hi => (inB_iff.1 (alW_at h3 (by omega))).1, fun q hq => ?_, h5⟩
  have := allG_at h4 q hq
  rw [decide_eq_true_eq] at this
  unfold wsA at this
  rwa [if_pos hq] at this
theorem no_keep {m : Nat} {ln : Nat → Nat} {F : Nat → Nat → Int} {Bv : Nat → Int} {n : Nat} {wt : Nat → Int} (h : refB m ln F Bv n wt = true) (n' : Nat) (x : Nat → Int) : kepB m ln F Bv n' x = false := by
  obtain ⟨-, -, hw, hs, hb⟩ := refB_parts h
  rw [Bool.eq_false_iff]
  intro hk
  unfold kepB at hk
  rw [Bool.and_eq_true, Bool.and_eq_true, Bool.and_eq_true, decide_eq_true_eq] at hk
  obtain ⟨-, h2, h3, h4⟩ := hk
  subst h2
  have e1 : dotS wt (fun i => dotS (F i) x (ln 0)) m ≤ dotS wt Bv m := dotS_le m fun i hi => ⟨hw i hi, by
    have := allG_at h4 i hi
    unfold kpi at this
    exact of_decide_eq_true this⟩
  rw [dotS_swap] at e1
  have e2 := dotS_pos (f := fun q => dotS wt (fun i => F i q) m) (x := x) (ln 0) fun k hk => ⟨hs k hk, (inB_iff.1 (alW_at h3 hk)).1⟩
  omega
theorem dotS_neg {f x : Nat → Int} : ∀ n, (∀ k, k < n → f k = -1 ∧ 0 ≤ x k) → dotS f x n ≤ 0
  | 0, _ => Int.le_refl _
  | n + 1, h => by
    have h1 := dotS_neg n (fun i hi => h i (by omega))
    obtain ⟨h2, h3⟩ := h n (by omega)
    simp only [dotS]; rw [h2]; omega
theorem free_keep {ln : Nat → Nat} {F : Nat → Nat → Int} {Bv : Nat → Int} {x : Nat → Int} {n : Nat} (hl : ln 0 = n) (h1 : 1 ≤ n) (h2 : n ≤ 64) (hF : ∀ k, k < n → F 0 k = -1) (hB : Bv 0 = 0) (hx : ∀ k, k < n → 0 ≤ x k ∧ x k ≤ 255) : kepB 1 ln F Bv n x = true := by
  have e1 : alW (F 0) (-1000) 1000 n = true := alW_all fun q hq => by rw [hF q hq]; rfl
  have e2 : alW x 0 1000000000 n = true := alW_all fun q hq => inB_iff.2 (by have := hx q hq; omega)
  have e3 := dotS_neg (f := F 0) (x := x) n fun k hk => ⟨hF k hk, (hx k hk).1⟩
  have e4 : inB (n : Int) 1 64 = true := inB_iff.2 (by omega)
  unfold kepB bdB
  simp only [allG, bdi, kpi, hl, e1, e2, e4, hB, decide_eq_true e3, Bool.and_true, Bool.true_and, decide_true]
  rfl

end Go.Proofs.Ytadbniademamhaa

/- A descent never rises. -/
import Derived.Test.YtedjnemijeaeoaaDcn
namespace Go.Proofs.Ytedjnemijeaeoaa
open Go.RowKit

/-- how far a tone moves, and what that takes off -/
theorem dcx_step {T s : Int} {y : Nat} (hy : 1 ≤ y) (hT : -4095 ≤ T ∧ T ≤ 4095) : (y : Int) * ((clp (T + nst s y) - T) * (clp (T + nst s y) - T)) - 2 * ((clp (T + nst s y) - T) * s) ≤ 0 := by
  have hpos : (0 : Int) < ((2 * y : Nat) : Int) := by omega
  have h1 := Int.emod_nonneg (2 * s + y) (show ((2 * y : Nat) : Int) ≠ 0 by omega)
  have h2 := Int.emod_lt_of_pos (2 * s + y) hpos
  have h3 := Int.emod_add_mul_ediv (2 * s + (y : Int)) ((2 * y : Nat) : Int)
  have hd : nst s y = (2 * s + y) / ((2 * y : Nat) : Int) := rfl
  rw [← hd] at h3
  generalize (2 * s + (y : Int)) % ((2 * y : Nat) : Int) = L at *
  generalize nst s y = d at *
  clear hd
  have hc : (0 ≤ d ∧ 0 ≤ clp (T + d) - T ∧ clp (T + d) - T ≤ d) ∨ (d ≤ 0 ∧ d ≤ clp (T + d) - T ∧ clp (T + d) - T ≤ 0) := by
    unfold clp
    split
    · omega
    · split <;> omega
  generalize clp (T + d) - T = δ at *
  have e : ((2 * y : Nat) : Int) * d = 2 * ((y : Int) * d) := by rw [Int.natCast_mul, Int.mul_assoc]; rfl
  rw [e] at h3
  have e2 : (y : Int) * (δ * δ) - 2 * (δ * s) = δ * ((y : Int) * δ - 2 * s) := by
    rw [Int.mul_sub, Int.mul_left_comm (y : Int) δ δ, Int.mul_left_comm 2 δ s]
  rw [e2]
  rcases hc with ⟨a1, a2, a3⟩ | ⟨a1, a2, a3⟩
  · by_cases h0 : δ = 0
    · rw [h0]; simp
    · have b1 : (y : Int) * δ ≤ (y : Int) * d := Int.mul_le_mul_of_nonneg_left a3 (by omega)
      have b2 : (y : Int) * 1 ≤ (y : Int) * d := Int.mul_le_mul_of_nonneg_left (by omega) (by omega)
      exact Int.mul_nonpos_of_nonneg_of_nonpos a2 (by omega)
  · by_cases h0 : δ = 0
    · rw [h0]; simp
    · have b1 : (y : Int) * d ≤ (y : Int) * δ := Int.mul_le_mul_of_nonneg_left a2 (by omega)
      have b2 : (y : Int) * d ≤ (y : Int) * -1 := Int.mul_le_mul_of_nonneg_left (by omega) (by omega)
      exact Int.mul_nonpos_of_nonpos_of_nonneg a3 (by omega)

/-- a sum over the lines through a place -/
theorem dcx_thr {p x y : Nat} (hx : x < p) (h : Nat → Int) : Lnm.sm (fun l => if Lnm.thr p x y (l / p) = l then h l else 0) ((p + 1) * p) = Lnm.sm (fun i => h (Lnm.thr p x y i)) (p + 1) := by
  have hp : 0 < p := by omega
  rw [Lnm.sm_rows]
  refine Lnm.sm_congr fun i _ => ?_
  have hd : Lnm.thr p x y i / p = i := Lnm.thr_div hx
  have hm := Nat.mod_lt (Lnm.thr p x y i) hp
  have he := Nat.div_add_mod (Lnm.thr p x y i) p
  rw [hd, Nat.mul_comm] at he
  have e1 : ∀ t, t < p → (if Lnm.thr p x y ((i * p + t) / p) = i * p + t then h (i * p + t) else 0) = (if t = Lnm.thr p x y i % p then h (Lnm.thr p x y i) else 0) := fun t ht => by
    rw [(Lnm.divmod (y := i) ht).2]
    by_cases e : t = Lnm.thr p x y i % p
    · rw [if_pos e, if_pos (by omega)]
      congr 1; omega
    · rw [if_neg e, if_neg (by omega)]
  rw [Lnm.sm_congr e1, Lnm.sm_one, if_pos hm]

/-- the misfit of an image -/
def mis (p m : Nat) (S F : Nat → Int) : Int := Lnm.sm (dsq S (Lnm.lin p F)) m
theorem mis_upd {p m : Nat} (hp : 0 < p) (hm : m = (p + 1) * p) (S F : Nat → Int) {k : Nat} (hk : k < p * p) (v : Int) :
    mis p m S (Lnm.upd F k v) = mis p m S F + ((p + 1 : Nat) * ((v - F k) * (v - F k)) - 2 * ((v - F k) * dcs p S F k)) := by
  have hx := Nat.mod_lt k hp
  have hy : k / p < p := Nat.div_lt_of_lt_mul hk
  have hkk : k / p * p + k % p = k := by rw [Nat.mul_comm]; exact Nat.div_add_mod k p
  have e1 : ∀ l, l < m → dsq S (Lnm.lin p (Lnm.upd F k v)) l = dsq S (Lnm.lin p F) l + (if Lnm.thr p (k % p) (k / p) (l / p) = l then (v - F k) * (v - F k) - 2 * ((v - F k) * rsl p S F l) else 0) := fun l _ => by
    have h2 := Lnm.lin_upd (p := p) (x0 := k % p) (y0 := k / p) hx hy F v l
    rw [hkk] at h2
    unfold dsq
    rw [h2]
    split
    · have er : rsl p S F l = S l - Lnm.lin p F l := rfl
      rw [er]
      generalize v - F k = d at *
      generalize Lnm.lin p F l = A at *
      generalize S l = B at *
      have : B - (A + d) = (B - A) - d := by omega
      rw [this]
      generalize B - A = C at *
      have e5 : (C - d) * (C - d) = C * C - d * C - (C * d - d * d) := by rw [Int.sub_mul, Int.mul_sub, Int.mul_sub]; omega
      rw [e5, Int.mul_comm C d]
      omega
    · rw [Int.add_zero, Int.add_zero]
  unfold mis
  rw [Lnm.sm_congr e1, Lnm.sm_add, hm, dcx_thr hx]
  congr 1
  rw [Lnm.sm_sub]
  have ec : Lnm.sm (fun _ => (v - F k) * (v - F k)) (p + 1) = ((p + 1 : Nat) : Int) * ((v - F k) * (v - F k)) := by
    have h := Lnm.sm_mul ((v - F k) * (v - F k)) (fun _ => 1) (p + 1)
    have h1 : ∀ n, Lnm.sm (fun _ => (1 : Int)) n = (n : Int) := fun n => by
      induction n with
      | zero => rfl
      | succ n ih => rw [Lnm.sm, ih]; rfl
    rw [h1] at h
    simp only [Int.mul_one] at h
    rw [h, Int.mul_comm]
  rw [ec, Lnm.sm_mul, Lnm.sm_mul]
  rfl
theorem mis_step {p m : Nat} (hp : 0 < p) (hm : m = (p + 1) * p) (S : Nat → Int) {F : Nat → Int} (hF : ∀ j, j < p * p → -4095 ≤ F j ∧ F j ≤ 4095) {k : Nat} (hk : k < p * p) : mis p m S (Lnm.upd F k (dcv p S F k)) ≤ mis p m S F := by
  rw [mis_upd hp hm S F hk]
  have h := dcx_step (s := dcs p S F k) (y := p + 1) (by omega) (hF k hk)
  have e : dcv p S F k = clp (F k + nst (dcs p S F k) (p + 1)) := rfl
  rw [← e] at h
  omega
theorem dcK_le {p m : Nat} (hp : 0 < p) (hm : m = (p + 1) * p) (S : Nat → Int) {F : Nat → Int} (hF : ∀ j, j < p * p → -4095 ≤ F j ∧ F j ≤ 4095) : ∀ k, k ≤ p * p → mis p m S (dcK p S F k) ≤ mis p m S F
  | 0, _ => Int.le_refl _
  | k + 1, hk => Int.le_trans (mis_step hp hm S (dcK_b hF k) hk) (dcK_le hp hm S hF k (by omega))
theorem dcT_le {p m : Nat} (hp : 0 < p) (hm : m = (p + 1) * p) (S : Nat → Int) {f : Nat → Int} (hf : ∀ j, j < p * p → -4095 ≤ f j ∧ f j ≤ 4095) (r : Nat) : dcT p m S f (r + 1) ≤ dcT p m S f r :=
  dcK_le hp hm S (dcR_b hf r) (p * p) (Nat.le_refl _)

end Go.Proofs.Ytedjnemijeaeoaa

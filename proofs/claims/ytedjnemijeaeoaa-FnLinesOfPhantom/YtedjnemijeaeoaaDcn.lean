/- Descend: numbers. -/
import Derived.Test.YtedjnemijeaeoaaLst
import Derived.Test.YtedjnemijeaeoaaMss
namespace Go.Proofs.Ytedjnemijeaeoaa
open Go.RowKit

theorem tdiv_floor (x : Int) {y : Nat} (hy : 1 ≤ y) : (x.tmod y = 0 ∧ x.tdiv y = x / y) ∨ (0 ≤ x ∧ x.tdiv y = x / y) ∨ (x < 0 ∧ x.tmod y ≠ 0 ∧ x.tdiv y - 1 = x / y) := by
  have e1 := Int.tmod_eq_emod (a := x) (b := (y : Int))
  have e2 := Int.tdiv_eq_ediv (a := x) (b := (y : Int))
  by_cases h : 0 ≤ x
  · exact .inr (.inl ⟨h, Int.tdiv_eq_ediv_of_nonneg h⟩)
  · by_cases h2 : (y : Int) ∣ x
    · rw [if_pos (.inr h2)] at e1 e2
      have h3 : x % (y : Int) = 0 := Int.emod_eq_zero_of_dvd h2
      exact .inl ⟨by omega, by omega⟩
    · rw [if_neg (fun hh => hh.elim h h2)] at e1 e2
      have h4 : Int.sign (y : Int) = 1 := Int.sign_eq_one_of_pos (by omega)
      have h5 : ((y : Int).natAbs : Int) = y := by omega
      have h6 : x % (y : Int) < y := Int.emod_lt_of_pos _ (by omega)
      rw [h4] at e2
      rw [h5] at e1
      exact .inr (.inr ⟨by omega, by omega, by omega⟩)

end Go.Proofs.Ytedjnemijeaeoaa

namespace Go.Proofs.Ytedjnemijeaeoaa
open Go.RowKit

/-- what the sums are more than the lines of f -/
def rsl (p : Nat) (S f : Nat → Int) (l : Nat) : Int := S l - Lnm.lin p f l
/-- .. summed over the lines through place k -/
def dcs (p : Nat) (S f : Nat → Int) (k : Nat) : Int := Lnm.sm (fun m => rsl p S f (Lnm.thr p (k % p) (k / p) m)) (p + 1)
/-- the whole number next to x / y -/
def nst (x : Int) (y : Nat) : Int := (2 * x + y) / ((2 * y : Nat) : Int)
/-- within the tones -/
def clp (x : Int) : Int := if x < -4095 then -4095 else if 4095 < x then 4095 else x
/-- the tone that place k gets -/
def dcv (p : Nat) (S f : Nat → Int) (k : Nat) : Int := clp (f k + nst (dcs p S f k) (p + 1))
/-- the image when k places are through -/
def dcK (p : Nat) (S f : Nat → Int) : Nat → Nat → Int
  | 0 => f
  | k + 1 => Lnm.upd (dcK p S f k) k (dcv p S (dcK p S f k) k)
/-- .. when r rounds are through -/
def dcR (p : Nat) (S f : Nat → Int) : Nat → Nat → Int
  | 0 => f
  | r + 1 => dcK p S (dcR p S f r) (p * p)
/-- the misfit then -/
def dcT (p m : Nat) (S f : Nat → Int) (r : Nat) : Int := Lnm.sm (dsq S (Lnm.lin p (dcR p S f r))) m
/-- what is left when i of the lines through place k are through; v its new tone -/
def rsi (p : Nat) (S f : Nat → Int) (k : Nat) (v : Int) (i l : Nat) : Int := rsl p S f l - (if l / p < i ∧ Lnm.thr p (k % p) (k / p) (l / p) = l then v - f k else 0)

theorem rsi_zero (p : Nat) (S f : Nat → Int) (k : Nat) (v : Int) : rsi p S f k v 0 = rsl p S f := by
  funext l; unfold rsi; rw [if_neg (fun h => Nat.not_lt_zero _ h.1)]; omega
theorem rsi_at {p : Nat} (hp : 0 < p) (S f : Nat → Int) (k : Nat) (v : Int) (i : Nat) : rsi p S f k v i (Lnm.thr p (k % p) (k / p) i) = rsl p S f (Lnm.thr p (k % p) (k / p) i) := by
  have hd : Lnm.thr p (k % p) (k / p) i / p = i := Lnm.thr_div (Nat.mod_lt k hp)
  unfold rsi
  rw [hd, if_neg (fun h => Nat.lt_irrefl _ h.1)]; omega
theorem rsi_step {p : Nat} (hp : 0 < p) (S f : Nat → Int) (k : Nat) (v : Int) (i l : Nat) :
    Lnm.upd (rsi p S f k v i) (Lnm.thr p (k % p) (k / p) i) (rsl p S f (Lnm.thr p (k % p) (k / p) i) - (v - f k)) l = rsi p S f k v (i + 1) l := by
  have hx := Nat.mod_lt k hp
  have hd : Lnm.thr p (k % p) (k / p) i / p = i := Lnm.thr_div hx
  unfold Lnm.upd
  by_cases e : l = Lnm.thr p (k % p) (k / p) i
  · rw [if_pos e]; subst e
    unfold rsi
    rw [hd, if_pos ⟨by omega, rfl⟩]
  · rw [if_neg e]
    unfold rsi
    congr 1
    have : (l / p < i ∧ Lnm.thr p (k % p) (k / p) (l / p) = l) ↔ (l / p < i + 1 ∧ Lnm.thr p (k % p) (k / p) (l / p) = l) := by
      constructor
      · rintro ⟨a, b⟩; exact ⟨by omega, b⟩
      · rintro ⟨a, b⟩
        refine ⟨?_, b⟩
        by_cases h : l / p = i
        · rw [h] at b; exact absurd b.symm e
        · omega
    simp only [this]
theorem rsi_last {p : Nat} (S f : Nat → Int) {k : Nat} (hk : k < p * p) (v : Int) (l : Nat) (hl : l < (p + 1) * p) : rsi p S f k v (p + 1) l = rsl p S (Lnm.upd f k v) l := by
  have hp : 0 < p := by
    rcases Nat.eq_zero_or_pos p with h | h
    · subst h; omega
    · exact h
  have h1 : l / p < p + 1 := Nat.div_lt_of_lt_mul (by rw [Nat.mul_comm]; exact hl)
  have hkk : k / p * p + k % p = k := by rw [Nat.mul_comm]; exact Nat.div_add_mod k p
  have h2 := Lnm.lin_upd (p := p) (x0 := k % p) (y0 := k / p) (Nat.mod_lt k hp) (Nat.div_lt_of_lt_mul hk) f v l
  rw [hkk] at h2
  unfold rsi rsl
  rw [h2]
  simp only [h1, true_and]
  omega

theorem clp_b (x : Int) : -4095 ≤ clp x ∧ clp x ≤ 4095 := by
  unfold clp; split
  · omega
  · split <;> omega
theorem dcK_b {p : Nat} {S f : Nat → Int} {n : Nat} (hf : ∀ j, j < n → -4095 ≤ f j ∧ f j ≤ 4095) : ∀ k j, j < n → -4095 ≤ dcK p S f k j ∧ dcK p S f k j ≤ 4095
  | 0, j, hj => hf j hj
  | k + 1, j, hj => by
    show -4095 ≤ Lnm.upd _ _ _ j ∧ Lnm.upd _ _ _ j ≤ 4095
    unfold Lnm.upd
    split
    · exact clp_b _
    · exact dcK_b hf k j hj
theorem dcR_b {p : Nat} {S f : Nat → Int} {n : Nat} (hf : ∀ j, j < n → -4095 ≤ f j ∧ f j ≤ 4095) : ∀ r j, j < n → -4095 ≤ dcR p S f r j ∧ dcR p S f r j ≤ 4095
  | 0, j, hj => hf j hj
  | r + 1, j, hj => dcK_b (dcR_b hf r) (p * p) j hj
/-- a place that is still to come has the tone it had -/
theorem dcK_later {p : Nat} {S f : Nat → Int} : ∀ {k j : Nat}, k ≤ j → dcK p S f k j = f j
  | 0, _, _ => rfl
  | k + 1, j, h => by
    show Lnm.upd _ _ _ j = _
    unfold Lnm.upd
    rw [if_neg (by omega), dcK_later (by omega)]
theorem rsl_b {p m : Nat} {S f : Nat → Int} (hp : 0 < p) (hp2 : p ≤ 31) (hS : ∀ k, k < m → -200000 ≤ S k ∧ S k ≤ 200000) (hf : ∀ k, k < p * p → -4095 ≤ f k ∧ f k ≤ 4095) {l : Nat} (hl : l < m) : -326945 ≤ rsl p S f l ∧ rsl p S f l ≤ 326945 := by
  have h1 := lin_bound hp hp2 hf l
  have h2 := hS l hl
  unfold rsl; omega
theorem dcs_b {p m : Nat} {S f : Nat → Int} (hp : 0 < p) (hp2 : p ≤ 31) (hm : m = (p + 1) * p) (hS : ∀ k, k < m → -200000 ≤ S k ∧ S k ≤ 200000) (hf : ∀ k, k < p * p → -4095 ≤ f k ∧ f k ≤ 4095) (k : Nat) : -10462240 ≤ dcs p S f k ∧ dcs p S f k ≤ 10462240 := by
  have h := Lnm.sm_bound (f := fun i => rsl p S f (Lnm.thr p (k % p) (k / p) i)) (M := 326945) (n := p + 1) (fun i hi => rsl_b hp hp2 hS hf (by rw [hm]; exact Lnm.thr_lt (Nat.mod_lt k hp) (by omega)))
  unfold dcs
  omega
theorem nst_b {x : Int} {y : Nat} (hy : 1 ≤ y) (hx : -10462240 ≤ x ∧ x ≤ 10462240) : -10462241 ≤ nst x y ∧ nst x y ≤ 10462241 := by
  unfold nst
  have hpos : (0 : Int) < ((2 * y : Nat) : Int) := by omega
  have h1 := Int.emod_nonneg (2 * x + y) (show ((2 * y : Nat) : Int) ≠ 0 by omega)
  have h2 := Int.emod_lt_of_pos (2 * x + y) hpos
  constructor
  · rw [Int.le_ediv_iff_mul_le hpos]
    have : (10462241 : Int) * 2 * 1 ≤ 10462241 * 2 * (y : Int) := Int.mul_le_mul_of_nonneg_left (by omega) (by omega)
    have e : (-10462241 : Int) * ((2 * y : Nat) : Int) = -(10462241 * 2 * (y : Int)) := by rw [Int.natCast_mul]; omega
    omega
  · have h3 : (2 * x + y) / ((2 * y : Nat) : Int) < 10462242 := by
      rw [Int.ediv_lt_iff_lt_mul hpos]
      have : (10462242 : Int) * 2 * 1 ≤ 10462242 * 2 * (y : Int) := Int.mul_le_mul_of_nonneg_left (by omega) (by omega)
      have h5 : (10462241 : Int) * 1 ≤ 10462241 * (y : Int) := Int.mul_le_mul_of_nonneg_left (by omega) (by omega)
      have e : (10462242 : Int) * ((2 * y : Nat) : Int) = 10462242 * 2 * (y : Int) := by rw [Int.natCast_mul]; omega
      omega
    omega
/-- the program's way -/
theorem nst_eq (x : Int) {y : Nat} (hy : 1 ≤ y) : nst x y = if (y : Int) - x % (y : Int) ≤ x % (y : Int) then x / (y : Int) + 1 else x / (y : Int) := by
  have h1 := Int.emod_nonneg x (show (y : Int) ≠ 0 by omega)
  have h2 := Int.emod_lt_of_pos x (show (0 : Int) < (y : Int) by omega)
  have h3 := Int.emod_add_mul_ediv x (y : Int)
  unfold nst
  generalize x % (y : Int) = L at *
  generalize x / (y : Int) = q at *
  have hpos : (0 : Int) < ((2 * y : Nat) : Int) := by omega
  have e : 2 * x + (y : Int) = (2 * L + y) + q * ((2 * y : Nat) : Int) := by
    rw [← h3, Int.natCast_mul]
    have : q * (((2 : Nat) : Int) * (y : Int)) = 2 * ((y : Int) * q) := by rw [Int.mul_comm (y : Int) q, ← Int.mul_assoc, Int.mul_comm q, Int.mul_assoc]; rfl
    omega
  rw [e, Int.add_mul_ediv_right _ _ (by omega)]
  split
  · have : (2 * L + (y : Int)) / ((2 * y : Nat) : Int) = 1 := by
      have hA : (2 * L + (y : Int)) / ((2 * y : Nat) : Int) < 2 := by rw [Int.ediv_lt_iff_lt_mul hpos]; omega
      have hB : 1 ≤ (2 * L + (y : Int)) / ((2 * y : Nat) : Int) := by rw [Int.le_ediv_iff_mul_le hpos]; omega
      omega
    omega
  · have : (2 * L + (y : Int)) / ((2 * y : Nat) : Int) = 0 := Int.ediv_eq_zero_of_lt (by omega) (by omega)
    omega

end Go.Proofs.Ytedjnemijeaeoaa

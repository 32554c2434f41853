/- Invert: numbers. -/
import Derived.Test.YtjdbiaoheoialaaCpn
namespace Go.Proofs.Ytjdbiaoheoialaa
open Go.RowKit

def ivN (D : Int) (J : Nat → Int) (k : Nat) : Int := J k * D
def ivS (J T : Nat → Int) (i : Nat) : Int := -(timF J T i)
def ivG (D : Int) (M T : Nat → Int) : Int := rgS (det9 M) (ivN D (adjF M)) (ivS (adjF M) T)
def ivD (D : Int) (M T : Nat → Int) : Int := (det9 M).tdiv (ivG D M T)
def ivM (D : Int) (M T : Nat → Int) : Nat → Int := dvF (ivN D (adjF M)) (ivG D M T)
def ivT (D : Int) (M T : Nat → Int) : Nat → Int := dvF (ivS (adjF M) T) (ivG D M T)
def ivQ (D : Int) (n0 : Nat) (M : Nat → Int) (n1 : Nat) (T : Nat → Int) : Bool := frmB D n0 M n1 T && frmB (ivD D M T) 9 (ivM D M T) 3 (ivT D M T)
theorem dif_b {x y z u : Int} (hx : -1000000 ≤ x ∧ x ≤ 1000000) (hy : -1000000 ≤ y ∧ y ≤ 1000000) (hz : -1000000 ≤ z ∧ z ≤ 1000000) (hu : -1000000 ≤ u ∧ u ≤ 1000000) : -2000000000000 ≤ x * y - z * u ∧ x * y - z * u ≤ 2000000000000 := by
  have h1 := mul_b6 hx hy
  have h2 := mul_b6 hz hu
  omega
theorem adjF_b {M : Nat → Int} (h : ∀ k, k < 9 → -1000000 ≤ M k ∧ M k ≤ 1000000) (k : Nat) : -2000000000000 ≤ adjF M k ∧ adjF M k ≤ 2000000000000 := by
  have h0 := h 0 (by omega)
  have h1 := h 1 (by omega)
  have h2 := h 2 (by omega)
  have h3 := h 3 (by omega)
  have h4 := h 4 (by omega)
  have h5 := h 5 (by omega)
  have h6 := h 6 (by omega)
  have h7 := h 7 (by omega)
  have h8 := h 8 (by omega)
  match k with
  | 0 => exact dif_b h4 h8 h5 h7
  | 1 => exact dif_b h7 h2 h8 h1
  | 2 => exact dif_b h1 h5 h2 h4
  | 3 => exact dif_b h5 h6 h3 h8
  | 4 => exact dif_b h8 h0 h6 h2
  | 5 => exact dif_b h2 h3 h0 h5
  | 6 => exact dif_b h3 h7 h4 h6
  | 7 => exact dif_b h6 h1 h7 h0
  | 8 => exact dif_b h0 h4 h1 h3
  | _ + 9 => exact ⟨by show (-2000000000000 : Int) ≤ 0; omega, by show (0 : Int) ≤ 2000000000000; omega⟩
theorem mul_b12 {x y : Int} (hx : -2000000000000 ≤ x ∧ x ≤ 2000000000000) (hy : -1000000 ≤ y ∧ y ≤ 1000000) : -2000000000000000000 ≤ x * y ∧ x * y ≤ 2000000000000000000 := by
  have := mul_bd (A := 2000000000000) (B := 1000000) hx.1 hx.2 hy.1 hy.2
  omega
theorem timJ_b {J T : Nat → Int} (hJ : ∀ k, -2000000000000 ≤ J k ∧ J k ≤ 2000000000000) (hT : ∀ k, k < 3 → -1000000 ≤ T k ∧ T k ≤ 1000000) (i : Nat) : -6000000000000000000 ≤ timF J T i ∧ timF J T i ≤ 6000000000000000000 := by
  have h0 := mul_b12 (hJ (3 * i)) (hT 0 (by omega))
  have h1 := mul_b12 (hJ (3 * i + 1)) (hT 1 (by omega))
  have h2 := mul_b12 (hJ (3 * i + 2)) (hT 2 (by omega))
  unfold timF
  omega
theorem det9_b {M : Nat → Int} (h : ∀ k, k < 9 → -1000000 ≤ M k ∧ M k ≤ 1000000) : -6000000000000000000 ≤ det9 M ∧ det9 M ≤ 6000000000000000000 := by
  have e0 := dif_b (h 4 (by omega)) (h 8 (by omega)) (h 5 (by omega)) (h 7 (by omega))
  have e1 := dif_b (h 3 (by omega)) (h 8 (by omega)) (h 5 (by omega)) (h 6 (by omega))
  have e2 := dif_b (h 3 (by omega)) (h 7 (by omega)) (h 4 (by omega)) (h 6 (by omega))
  have f0 := mul_b12 e0 (h 0 (by omega))
  have f1 := mul_b12 e1 (h 1 (by omega))
  have f2 := mul_b12 e2 (h 2 (by omega))
  unfold det9
  rw [Int.mul_comm (M 0), Int.mul_comm (M 1), Int.mul_comm (M 2)]
  omega
theorem natAbs_sg {s : Int} (hs : s = 1 ∨ s = -1) (x : Int) : (s * x).natAbs = x.natAbs := by
  rcases hs with rfl | rfl <;> omega
theorem gcd_sg {s : Int} (hs : s = 1 ∨ s = -1) (x y : Int) : Int.gcd x (s * y) = Int.gcd x y := by
  show Nat.gcd _ _ = Nat.gcd _ _
  rw [natAbs_sg hs]
theorem gcd_sg' {s : Int} (hs : s = 1 ∨ s = -1) (x y : Int) : Int.gcd (s * x) y = Int.gcd x y := by
  show Nat.gcd _ _ = Nat.gcd _ _
  rw [natAbs_sg hs]
theorem rg_sg2 {s : Int} (hs : s = 1 ∨ s = -1) (a : Int) (F : Nat → Int) : ∀ i, rg a (fun k => s * F k) i = rg a F i
  | 0 => rfl
  | i + 1 => by
    show ((Int.gcd (rg a (fun k => s * F k) i) (s * F i) : Nat) : Int) = ((Int.gcd (rg a F i) (F i) : Nat) : Int)
    rw [rg_sg2 hs a F i, gcd_sg hs]
theorem rg_sg {s : Int} (hs : s = 1 ∨ s = -1) (d : Int) (F : Nat → Int) : ∀ i, rg (s * d) F (i + 1) = rg d F (i + 1)
  | 0 => by
    show ((Int.gcd (s * d) (F 0) : Nat) : Int) = ((Int.gcd d (F 0) : Nat) : Int)
    rw [gcd_sg' hs]
  | i + 1 => by
    show ((Int.gcd (rg (s * d) F (i + 1)) (F (i + 1)) : Nat) : Int) = ((Int.gcd (rg d F (i + 1)) (F (i + 1)) : Nat) : Int)
    rw [rg_sg hs d F i]
theorem sgn_or {d : Int} (h : d ≠ 0) : sgn d = 1 ∨ sgn d = -1 := by unfold sgn; split <;> simp_all
theorem sgn_pos {d : Int} (h : d ≠ 0) : 0 < sgn d * d := by
  unfold sgn
  by_cases h1 : d < 0
  · rw [if_pos h1]; omega
  · rw [if_neg h1, if_neg h]; omega
theorem rgS_sg {d : Int} (h : d ≠ 0) (n t : Nat → Int) : rgS (sgn d * d) (fun k => sgn d * n k) (fun k => sgn d * t k) = sgn d * rgS d n t := by
  have hs := sgn_or h
  have hp := sgn_pos h
  unfold rgS
  have e9 : rg (sgn d * d) n 9 = rg d n 9 := rg_sg hs d n 8
  rw [rg_sg2 hs (sgn d * d) n 9, e9, rg_sg2 hs _ t 3, if_neg (by omega)]
  unfold sgn
  by_cases h1 : d < 0
  · rw [if_pos h1, if_pos h1]; omega
  · rw [if_neg h1, if_neg h1, if_neg h]; omega
theorem tdiv_sg {d : Int} (h : d ≠ 0) (x g : Int) : (sgn d * x).tdiv (sgn d * g) = x.tdiv g := by
  rcases sgn_or h with e | e
  · rw [e, Int.one_mul, Int.one_mul]
  · rw [e, Int.neg_one_mul, Int.neg_one_mul, Int.neg_tdiv, Int.tdiv_neg, Int.neg_neg]

end Go.Proofs.Ytjdbiaoheoialaa

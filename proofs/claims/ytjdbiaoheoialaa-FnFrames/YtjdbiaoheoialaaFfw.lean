/- The law on frames: what its walk keeps, and its numbers. -/
import Derived.Test.YtjdbiaoheoialaaIvn
import Derived.Test.YtjdbiaoheoialaaSm7
namespace Go.Proofs.Ytjdbiaoheoialaa
open Go.RowKit Go.Lib

theorem lin3 (G x0 x1 x2 y0 y1 y2 : Int) : (x0 * y0 + x1 * y1 + x2 * y2) * G = (x0 * G) * y0 + (x1 * G) * y1 + (x2 * G) * y2 := by grind
theorem lin3r (G x0 x1 x2 y0 y1 y2 : Int) : (y0 * x0 + y1 * x1 + y2 * x2) * G = y0 * (x0 * G) + y1 * (x1 * G) + y2 * (x2 * G) := by grind
theorem lin4 (G x0 x1 x2 y0 y1 y2 s d : Int) : (x0 * y0 + x1 * y1 + x2 * y2 + s * d) * G = (x0 * G) * y0 + (x1 * G) * y1 + (x2 * G) * y2 + (s * G) * d := by grind
theorem lin4r (G x0 x1 x2 y0 y1 y2 t c : Int) : (y0 * x0 + y1 * x1 + y2 * x2 + t * c) * G = y0 * (x0 * G) + y1 * (x1 * G) + y2 * (x2 * G) + t * (c * G) := by grind
theorem one_l (C D G : Int) : C * G * D = C * D * 1 * G := by grind
theorem one_r (C D G : Int) : C * G * D = D * C * 1 * G := by grind
theorem nul_l (X G : Int) : 0 = X * 0 * G := by simp
theorem adl00 (a0 a1 a2 a3 a4 a5 a6 a7 a8 D : Int) : (a4 * a8 - a5 * a7) * D * a0 + (a7 * a2 - a8 * a1) * D * a3 + (a1 * a5 - a2 * a4) * D * a6 = (a0 * (a4 * a8 - a5 * a7) - a1 * (a3 * a8 - a5 * a6) + a2 * (a3 * a7 - a4 * a6)) * D := by grind
theorem adr00 (a0 a1 a2 a3 a4 a5 a6 a7 a8 D : Int) : a0 * ((a4 * a8 - a5 * a7) * D) + a1 * ((a5 * a6 - a3 * a8) * D) + a2 * ((a3 * a7 - a4 * a6) * D) = (a0 * (a4 * a8 - a5 * a7) - a1 * (a3 * a8 - a5 * a6) + a2 * (a3 * a7 - a4 * a6)) * D := by grind
theorem adl01 (a1 a2 a4 a5 a7 a8 D : Int) : (a4 * a8 - a5 * a7) * D * a1 + (a7 * a2 - a8 * a1) * D * a4 + (a1 * a5 - a2 * a4) * D * a7 = 0 := by grind
theorem adr01 (a0 a1 a2 a6 a7 a8 D : Int) : a0 * ((a7 * a2 - a8 * a1) * D) + a1 * ((a8 * a0 - a6 * a2) * D) + a2 * ((a6 * a1 - a7 * a0) * D) = 0 := by grind
theorem adl02 (a1 a2 a4 a5 a7 a8 D : Int) : (a4 * a8 - a5 * a7) * D * a2 + (a7 * a2 - a8 * a1) * D * a5 + (a1 * a5 - a2 * a4) * D * a8 = 0 := by grind
theorem adr02 (a0 a1 a2 a3 a4 a5 D : Int) : a0 * ((a1 * a5 - a2 * a4) * D) + a1 * ((a2 * a3 - a0 * a5) * D) + a2 * ((a0 * a4 - a1 * a3) * D) = 0 := by grind
theorem adl10 (a0 a2 a3 a5 a6 a8 D : Int) : (a5 * a6 - a3 * a8) * D * a0 + (a8 * a0 - a6 * a2) * D * a3 + (a2 * a3 - a0 * a5) * D * a6 = 0 := by grind
theorem adr10 (a3 a4 a5 a6 a7 a8 D : Int) : a3 * ((a4 * a8 - a5 * a7) * D) + a4 * ((a5 * a6 - a3 * a8) * D) + a5 * ((a3 * a7 - a4 * a6) * D) = 0 := by grind
theorem adl11 (a0 a1 a2 a3 a4 a5 a6 a7 a8 D : Int) : (a5 * a6 - a3 * a8) * D * a1 + (a8 * a0 - a6 * a2) * D * a4 + (a2 * a3 - a0 * a5) * D * a7 = (a0 * (a4 * a8 - a5 * a7) - a1 * (a3 * a8 - a5 * a6) + a2 * (a3 * a7 - a4 * a6)) * D := by grind
theorem adr11 (a0 a1 a2 a3 a4 a5 a6 a7 a8 D : Int) : a3 * ((a7 * a2 - a8 * a1) * D) + a4 * ((a8 * a0 - a6 * a2) * D) + a5 * ((a6 * a1 - a7 * a0) * D) = (a0 * (a4 * a8 - a5 * a7) - a1 * (a3 * a8 - a5 * a6) + a2 * (a3 * a7 - a4 * a6)) * D := by grind
theorem adl12 (a0 a2 a3 a5 a6 a8 D : Int) : (a5 * a6 - a3 * a8) * D * a2 + (a8 * a0 - a6 * a2) * D * a5 + (a2 * a3 - a0 * a5) * D * a8 = 0 := by grind
theorem adr12 (a0 a1 a2 a3 a4 a5 D : Int) : a3 * ((a1 * a5 - a2 * a4) * D) + a4 * ((a2 * a3 - a0 * a5) * D) + a5 * ((a0 * a4 - a1 * a3) * D) = 0 := by grind
theorem adl20 (a0 a1 a3 a4 a6 a7 D : Int) : (a3 * a7 - a4 * a6) * D * a0 + (a6 * a1 - a7 * a0) * D * a3 + (a0 * a4 - a1 * a3) * D * a6 = 0 := by grind
theorem adr20 (a3 a4 a5 a6 a7 a8 D : Int) : a6 * ((a4 * a8 - a5 * a7) * D) + a7 * ((a5 * a6 - a3 * a8) * D) + a8 * ((a3 * a7 - a4 * a6) * D) = 0 := by grind
theorem adl21 (a0 a1 a3 a4 a6 a7 D : Int) : (a3 * a7 - a4 * a6) * D * a1 + (a6 * a1 - a7 * a0) * D * a4 + (a0 * a4 - a1 * a3) * D * a7 = 0 := by grind
theorem adr21 (a0 a1 a2 a6 a7 a8 D : Int) : a6 * ((a7 * a2 - a8 * a1) * D) + a7 * ((a8 * a0 - a6 * a2) * D) + a8 * ((a6 * a1 - a7 * a0) * D) = 0 := by grind
theorem adl22 (a0 a1 a2 a3 a4 a5 a6 a7 a8 D : Int) : (a3 * a7 - a4 * a6) * D * a2 + (a6 * a1 - a7 * a0) * D * a5 + (a0 * a4 - a1 * a3) * D * a8 = (a0 * (a4 * a8 - a5 * a7) - a1 * (a3 * a8 - a5 * a6) + a2 * (a3 * a7 - a4 * a6)) * D := by grind
theorem adr22 (a0 a1 a2 a3 a4 a5 a6 a7 a8 D : Int) : a6 * ((a1 * a5 - a2 * a4) * D) + a7 * ((a2 * a3 - a0 * a5) * D) + a8 * ((a0 * a4 - a1 * a3) * D) = (a0 * (a4 * a8 - a5 * a7) - a1 * (a3 * a8 - a5 * a6) + a2 * (a3 * a7 - a4 * a6)) * D := by grind
theorem atl0 (a1 a2 a4 a5 a7 a8 D t0 t1 t2 : Int) : (a4 * a8 - a5 * a7) * D * t0 + (a7 * a2 - a8 * a1) * D * t1 + (a1 * a5 - a2 * a4) * D * t2 + -((a4 * a8 - a5 * a7) * t0 + (a7 * a2 - a8 * a1) * t1 + (a1 * a5 - a2 * a4) * t2) * D = 0 := by grind
theorem atr0 (a0 a1 a2 a3 a4 a5 a6 a7 a8 t0 t1 t2 : Int) : a0 * -((a4 * a8 - a5 * a7) * t0 + (a7 * a2 - a8 * a1) * t1 + (a1 * a5 - a2 * a4) * t2) + a1 * -((a5 * a6 - a3 * a8) * t0 + (a8 * a0 - a6 * a2) * t1 + (a2 * a3 - a0 * a5) * t2) + a2 * -((a3 * a7 - a4 * a6) * t0 + (a6 * a1 - a7 * a0) * t1 + (a0 * a4 - a1 * a3) * t2) + t0 * (a0 * (a4 * a8 - a5 * a7) - a1 * (a3 * a8 - a5 * a6) + a2 * (a3 * a7 - a4 * a6)) = 0 := by grind
theorem atl1 (a0 a2 a3 a5 a6 a8 D t0 t1 t2 : Int) : (a5 * a6 - a3 * a8) * D * t0 + (a8 * a0 - a6 * a2) * D * t1 + (a2 * a3 - a0 * a5) * D * t2 + -((a5 * a6 - a3 * a8) * t0 + (a8 * a0 - a6 * a2) * t1 + (a2 * a3 - a0 * a5) * t2) * D = 0 := by grind
theorem atr1 (a0 a1 a2 a3 a4 a5 a6 a7 a8 t0 t1 t2 : Int) : a3 * -((a4 * a8 - a5 * a7) * t0 + (a7 * a2 - a8 * a1) * t1 + (a1 * a5 - a2 * a4) * t2) + a4 * -((a5 * a6 - a3 * a8) * t0 + (a8 * a0 - a6 * a2) * t1 + (a2 * a3 - a0 * a5) * t2) + a5 * -((a3 * a7 - a4 * a6) * t0 + (a6 * a1 - a7 * a0) * t1 + (a0 * a4 - a1 * a3) * t2) + t1 * (a0 * (a4 * a8 - a5 * a7) - a1 * (a3 * a8 - a5 * a6) + a2 * (a3 * a7 - a4 * a6)) = 0 := by grind
theorem atl2 (a0 a1 a3 a4 a6 a7 D t0 t1 t2 : Int) : (a3 * a7 - a4 * a6) * D * t0 + (a6 * a1 - a7 * a0) * D * t1 + (a0 * a4 - a1 * a3) * D * t2 + -((a3 * a7 - a4 * a6) * t0 + (a6 * a1 - a7 * a0) * t1 + (a0 * a4 - a1 * a3) * t2) * D = 0 := by grind
theorem atr2 (a0 a1 a2 a3 a4 a5 a6 a7 a8 t0 t1 t2 : Int) : a6 * -((a4 * a8 - a5 * a7) * t0 + (a7 * a2 - a8 * a1) * t1 + (a1 * a5 - a2 * a4) * t2) + a7 * -((a5 * a6 - a3 * a8) * t0 + (a8 * a0 - a6 * a2) * t1 + (a2 * a3 - a0 * a5) * t2) + a8 * -((a3 * a7 - a4 * a6) * t0 + (a6 * a1 - a7 * a0) * t1 + (a0 * a4 - a1 * a3) * t2) + t2 * (a0 * (a4 * a8 - a5 * a7) - a1 * (a3 * a8 - a5 * a6) + a2 * (a3 * a7 - a4 * a6)) = 0 := by grind
theorem mv_l (m0 m1 m2 t v0 v1 v2 pD g1 : Int) : (m0 * v0 + m1 * v1 + m2 * v2 + t * pD) * g1 = m0 * (v0 * g1) + m1 * (v1 * g1) + m2 * (v2 * g1) + t * (pD * g1) := by grind
theorem mv_r (G c0 c1 c2 c3 x y z : Int) : G * (c0 * x + c1 * y + c2 * z + c3) = (c0 * G) * x + (c1 * G) * y + (c2 * G) * z + c3 * G := by grind
theorem mv_e (m0 m1 m2 t E l0 l1 l2 l3 l4 l5 l6 l7 l8 s0 s1 s2 x y z : Int) : m0 * (l0 * x + l1 * y + l2 * z + s0) + m1 * (l3 * x + l4 * y + l5 * z + s1) + m2 * (l6 * x + l7 * y + l8 * z + s2) + t * E = (m0 * l0 + m1 * l3 + m2 * l6) * x + (m0 * l1 + m1 * l4 + m2 * l7) * y + (m0 * l2 + m1 * l5 + m2 * l8) * z + (m0 * s0 + m1 * s1 + m2 * s2 + t * E) := by grind
theorem mv_a (N q g1 g2 : Int) : N * q * (g1 * g2) = (N * g1) * (q * g2) := by grind
theorem mv_b (G X C : Int) : G * X * C = X * (C * G) := by grind
theorem mv_c (w D pD g1 g2 : Int) : w * (D * pD) * (g1 * g2) = (w * g2) * (D * (pD * g1)) := by grind
theorem rg_dvd (d : Int) (F : Nat → Int) : ∀ i, rg d F i ∣ d ∧ ∀ k, k < i → rg d F i ∣ F k
  | 0 => ⟨Int.dvd_refl _, fun k hk => by omega⟩
  | i + 1 => by
    obtain ⟨h1, h2⟩ := rg_dvd d F i
    have a : rg d F (i + 1) ∣ rg d F i := Int.gcd_dvd_left _ _
    have b : rg d F (i + 1) ∣ F i := Int.gcd_dvd_right _ _
    refine ⟨Int.dvd_trans a h1, fun k hk => ?_⟩
    by_cases e : k = i
    · rw [e]; exact b
    · exact Int.dvd_trans a (h2 k (by omega))
theorem rgS_dvd (d : Int) (M T : Nat → Int) : rgS d M T ∣ d ∧ (∀ k, k < 9 → rgS d M T ∣ M k) ∧ ∀ k, k < 3 → rgS d M T ∣ T k := by
  obtain ⟨h1, h2⟩ := rg_dvd (rg d M 9) T 3
  obtain ⟨h3, h4⟩ := rg_dvd d M 9
  have e : ∀ x, rg (rg d M 9) T 3 ∣ x → rgS d M T ∣ x := fun x hx => by
    unfold rgS
    split
    · exact Int.neg_dvd.2 hx
    · exact hx
  exact ⟨e _ (Int.dvd_trans h1 h3), fun k hk => e _ (Int.dvd_trans h1 (h4 k hk)), fun k hk => e _ (h2 k hk)⟩
theorem rg_nonneg {d : Int} (h : 0 ≤ d) (F : Nat → Int) : ∀ i, 0 ≤ rg d F i
  | 0 => h
  | i + 1 => by show 0 ≤ ((Int.gcd _ _ : Nat) : Int); omega
theorem rgS_sgn {d : Int} (hd : d ≠ 0) (M T : Nat → Int) : (0 < d → 0 < rgS d M T) ∧ (d < 0 → rgS d M T < 0) := by
  have h0 := rgS_ne hd M T
  have h1 : 0 ≤ rg (rg d M 9) T 3 := by show 0 ≤ ((Int.gcd _ _ : Nat) : Int); omega
  unfold rgS at h0 ⊢
  refine ⟨fun h => ?_, fun h => ?_⟩
  · rw [if_neg (by omega)] at h0 ⊢; omega
  · rw [if_pos h] at h0 ⊢; omega
theorem tdc {a g : Int} (h : g ∣ a) : a.tdiv g * g = a := Int.tdiv_mul_cancel h
/-- the numbers of a composition, multiplied back -/
theorem cm_back {D : Int} {M T : Nat → Int} {E : Int} {L S : Nat → Int} (hD : 1 ≤ D) (hE : 1 ≤ E) : 0 < cmG D M T E L S ∧ cmD D M T E L S * cmG D M T E L S = D * E ∧ (∀ k, k < 9 → cmM D M T E L S k * cmG D M T E L S = bhM M L k) ∧ ∀ k, k < 3 → cmT D M T E L S k * cmG D M T E L S = bhT M T S E k := by
  have hp : 0 < D * E := Int.mul_pos (by omega) (by omega)
  obtain ⟨h1, h2, h3⟩ := rgS_dvd (D * E) (bhM M L) (bhT M T S E)
  exact ⟨(rgS_sgn (by omega) _ _).1 hp, tdc h1, fun k hk => tdc (h2 k hk), fun k hk => tdc (h3 k hk)⟩
theorem iv_back {D : Int} {M T : Nat → Int} (hd : det9 M ≠ 0) : ivG D M T ≠ 0 ∧ ivD D M T * ivG D M T = det9 M ∧ (∀ k, k < 9 → ivM D M T k * ivG D M T = adjF M k * D) ∧ ∀ k, k < 3 → ivT D M T k * ivG D M T = -(timF (adjF M) T k) := by
  obtain ⟨h1, h2, h3⟩ := rgS_dvd (det9 M) (ivN D (adjF M)) (ivS (adjF M) T)
  exact ⟨(rgS_ne hd _ _).1, tdc h1, fun k hk => tdc (h2 k hk), fun k hk => tdc (h3 k hk)⟩
theorem det_bh (M L : Nat → Int) : det9 (bhM M L) = det9 M * det9 L := by
  show (M 0 * L 0 + M 1 * L 3 + M 2 * L 6) * ((M 3 * L 1 + M 4 * L 4 + M 5 * L 7) * (M 6 * L 2 + M 7 * L 5 + M 8 * L 8) - (M 3 * L 2 + M 4 * L 5 + M 5 * L 8) * (M 6 * L 1 + M 7 * L 4 + M 8 * L 7)) - (M 0 * L 1 + M 1 * L 4 + M 2 * L 7) * ((M 3 * L 0 + M 4 * L 3 + M 5 * L 6) * (M 6 * L 2 + M 7 * L 5 + M 8 * L 8) - (M 3 * L 2 + M 4 * L 5 + M 5 * L 8) * (M 6 * L 0 + M 7 * L 3 + M 8 * L 6)) + (M 0 * L 2 + M 1 * L 5 + M 2 * L 8) * ((M 3 * L 0 + M 4 * L 3 + M 5 * L 6) * (M 6 * L 1 + M 7 * L 4 + M 8 * L 7) - (M 3 * L 1 + M 4 * L 4 + M 5 * L 7) * (M 6 * L 0 + M 7 * L 3 + M 8 * L 6)) = (M 0 * (M 4 * M 8 - M 5 * M 7) - M 1 * (M 3 * M 8 - M 5 * M 6) + M 2 * (M 3 * M 7 - M 4 * M 6)) * (L 0 * (L 4 * L 8 - L 5 * L 7) - L 1 * (L 3 * L 8 - L 5 * L 6) + L 2 * (L 3 * L 7 - L 4 * L 6))
  grind
theorem det_sc {F c : Nat → Int} {G : Int} (h : ∀ k, k < 9 → c k * G = F k) : det9 c * (G * G * G) = det9 F := by
  unfold det9
  rw [← h 0 (by omega), ← h 1 (by omega), ← h 2 (by omega), ← h 3 (by omega), ← h 4 (by omega), ← h 5 (by omega), ← h 6 (by omega), ← h 7 (by omega), ← h 8 (by omega)]
  grind
theorem sg_mul {a b c P : Int} (hP : 0 < P) (ha : a ≠ 0) (hb : b ≠ 0) (h : c * P = a * b) : (if c < 0 then (-1 : Int) else 1) = (if a < 0 then (-1 : Int) else 1) * (if b < 0 then (-1 : Int) else 1) := by
  have hc1 : c < 0 → c * P < 0 := fun hc => Int.mul_neg_of_neg_of_pos hc hP
  have hc2 : 0 ≤ c → 0 ≤ c * P := fun hc => Int.mul_nonneg hc (by omega)
  by_cases ha1 : a < 0 <;> by_cases hb1 : b < 0
  · have := Int.mul_pos_of_neg_of_neg ha1 hb1
    rw [if_neg (fun hc => by have := hc1 hc; omega), if_pos ha1, if_pos hb1]; rfl
  · have := Int.mul_neg_of_neg_of_pos ha1 (show 0 < b by omega)
    rw [if_pos (by rcases Int.lt_or_le c 0 with hc | hc; exact hc; have := hc2 hc; omega), if_pos ha1, if_neg hb1]; rfl
  · have := Int.mul_neg_of_pos_of_neg (show 0 < a by omega) hb1
    rw [if_pos (by rcases Int.lt_or_le c 0 with hc | hc; exact hc; have := hc2 hc; omega), if_neg ha1, if_pos hb1]; rfl
  · have := Int.mul_pos (show 0 < a by omega) (show 0 < b by omega)
    rw [if_neg (fun hc => by have := hc1 hc; omega), if_neg ha1, if_neg hb1]; rfl
theorem cmQ_parts {D : Int} {n0 : Nat} {M : Nat → Int} {n1 : Nat} {T : Nat → Int} {E : Int} {m0 : Nat} {L : Nat → Int} {m1 : Nat} {S : Nat → Int} (h : cmQ D n0 M n1 T E m0 L m1 S = true) : frmB D n0 M n1 T = true ∧ frmB E m0 L m1 S = true ∧ frmB (cmD D M T E L S) 9 (cmM D M T E L S) 3 (cmT D M T E L S) = true := by
  unfold cmQ at h
  simp only [Bool.and_eq_true] at h
  exact ⟨h.1.1, h.1.2, h.2⟩
theorem hnd_mul {D : Int} {n0 : Nat} {M : Nat → Int} {n1 : Nat} {T : Nat → Int} {E : Int} {m0 : Nat} {L : Nat → Int} {m1 : Nat} {S : Nat → Int} (h : cmQ D n0 M n1 T E m0 L m1 S = true) : hndV (cmD D M T E L S) 9 (cmM D M T E L S) 3 (cmT D M T E L S) = hndV D n0 M n1 T * hndV E m0 L m1 S := by
  obtain ⟨h1, h2, h3⟩ := cmQ_parts h
  obtain ⟨-, -, a1, -, -, -, a2⟩ := frmB_parts h1
  obtain ⟨-, -, b1, -, -, -, b2⟩ := frmB_parts h2
  obtain ⟨g1, g2, g3, -⟩ := cm_back (M := M) (T := T) (L := L) (S := S) a1.1 b1.1
  unfold hndV
  rw [if_pos h1, if_pos h2, if_pos h3]
  refine sg_mul (P := cmG D M T E L S * cmG D M T E L S * cmG D M T E L S) (Int.mul_pos (Int.mul_pos g1 g1) g1) a2 b2 ?_
  rw [← det_bh]
  exact det_sc g3
theorem mvG_dvd (M T : Nat → Int) (D x y z : Int) : (mvG M T D x y z : Int) ∣ mvX M T x y z 0 ∧ (mvG M T D x y z : Int) ∣ mvX M T x y z 1 ∧ (mvG M T D x y z : Int) ∣ mvX M T x y z 2 ∧ (mvG M T D x y z : Int) ∣ D := by
  have h1 : (mvG M T D x y z : Int) ∣ _ := Int.gcd_dvd_left (Int.gcd (mvX M T x y z 0) (mvX M T x y z 1) : Nat) (Int.gcd (mvX M T x y z 2) D : Nat)
  have h2 : (mvG M T D x y z : Int) ∣ _ := Int.gcd_dvd_right (Int.gcd (mvX M T x y z 0) (mvX M T x y z 1) : Nat) (Int.gcd (mvX M T x y z 2) D : Nat)
  exact ⟨Int.dvd_trans h1 (Int.gcd_dvd_left _ _), Int.dvd_trans h1 (Int.gcd_dvd_right _ _), Int.dvd_trans h2 (Int.gcd_dvd_left _ _), Int.dvd_trans h2 (Int.gcd_dvd_right _ _)⟩
/-- what the second makes of a point, then the first, is what the composition makes of it -/
theorem move_two {D : Int} {n0 : Nat} {M : Nat → Int} {n1 : Nat} {T : Nat → Int} {E : Int} {m0 : Nat} {L : Nat → Int} {m1 : Nat} {S : Nat → Int} (h : cmQ D n0 M n1 T E m0 L m1 S = true) (x y z : Int) {g1 g2 : Int} (hg1 : g1 = mvG L S E x y z) (hg2 : g2 = mvG (cmM D M T E L S) (cmT D M T E L S) (cmD D M T E L S) x y z) (i : Nat) (hi : i < 3) :
    (M (3 * i) * (mvX L S x y z 0).tdiv g1 + M (3 * i + 1) * (mvX L S x y z 1).tdiv g1 + M (3 * i + 2) * (mvX L S x y z 2).tdiv g1 + T i * E.tdiv g1) * (cmD D M T E L S).tdiv g2 = (mvX (cmM D M T E L S) (cmT D M T E L S) x y z i).tdiv g2 * (D * E.tdiv g1) := by
  obtain ⟨h1, h2, h3⟩ := cmQ_parts h
  obtain ⟨-, -, a1, -, -, -, -⟩ := frmB_parts h1
  obtain ⟨-, -, b1, -, -, -, -⟩ := frmB_parts h2
  obtain ⟨-, -, c1, -, -, -, -⟩ := frmB_parts h3
  obtain ⟨k1, k2, k3, k4⟩ := cm_back (M := M) (T := T) (L := L) (S := S) a1.1 b1.1
  have e0 := k3 (3 * i) (by omega)
  have e1 := k3 (3 * i + 1) (by omega)
  have e2 := k3 (3 * i + 2) (by omega)
  have e3 := k4 i hi
  have p1 : 1 ≤ mvG L S E x y z := mvG_pos L S b1.1 x y z
  have p2 : 1 ≤ mvG (cmM D M T E L S) (cmT D M T E L S) (cmD D M T E L S) x y z := mvG_pos _ _ c1.1 x y z
  obtain ⟨d0, d1, d2, d3⟩ := mvG_dvd L S E x y z
  obtain ⟨f0, f1, f2, f3⟩ := mvG_dvd (cmM D M T E L S) (cmT D M T E L S) (cmD D M T E L S) x y z
  have fi : g2 ∣ mvX (cmM D M T E L S) (cmT D M T E L S) x y z i := by
    rw [hg2]
    have : i = 0 ∨ i = 1 ∨ i = 2 := by omega
    rcases this with rfl | rfl | rfl
    · exact f0
    · exact f1
    · exact f2
  rw [← hg1] at d0 d1 d2 d3
  rw [← hg2] at f3
  have q1 : g1 ≠ 0 := by omega
  have q2 : g2 ≠ 0 := by omega
  have t0 := tdc d0
  have t1 := tdc d1
  have t2 := tdc d2
  have t3 := tdc d3
  have t4 := tdc fi
  have t5 := tdc f3
  have hb0 : bhM M L (3 * i) = M (3 * i) * L 0 + M (3 * i + 1) * L 3 + M (3 * i + 2) * L 6 := bhM_at M L (k := 0) (by omega)
  have hb1 : bhM M L (3 * i + 1) = M (3 * i) * L 1 + M (3 * i + 1) * L 4 + M (3 * i + 2) * L 7 := bhM_at M L (k := 1) (by omega)
  have hb2 : bhM M L (3 * i + 2) = M (3 * i) * L 2 + M (3 * i + 1) * L 5 + M (3 * i + 2) * L 8 := bhM_at M L (k := 2) (by omega)
  have hbT : bhT M T S E i = M (3 * i) * S 0 + M (3 * i + 1) * S 1 + M (3 * i + 2) * S 2 + T i * E := rfl
  rw [hb0] at e0
  rw [hb1] at e1
  rw [hb2] at e2
  rw [hbT] at e3
  have u0 : mvX L S x y z 0 = L 0 * x + L 1 * y + L 2 * z + S 0 := rfl
  have u1 : mvX L S x y z 1 = L 3 * x + L 4 * y + L 5 * z + S 1 := rfl
  have u2 : mvX L S x y z 2 = L 6 * x + L 7 * y + L 8 * z + S 2 := rfl
  have u3 : mvX (cmM D M T E L S) (cmT D M T E L S) x y z i = cmM D M T E L S (3 * i) * x + cmM D M T E L S (3 * i + 1) * y + cmM D M T E L S (3 * i + 2) * z + cmT D M T E L S i := rfl
  rw [u0] at t0 ⊢
  rw [u1] at t1 ⊢
  rw [u2] at t2 ⊢
  rw [u3] at t4 ⊢
  clear h h1 h2 h3 hb0 hb1 hb2 hbT u0 u1 u2 u3 d0 d1 d2 d3 f0 f1 f2 f3 fi hg1 hg2 p1 p2 k3 k4
  generalize cmG D M T E L S = G at *
  generalize cmD D M T E L S = C at *
  generalize cmM D M T E L S (3 * i) = c0 at *
  generalize cmM D M T E L S (3 * i + 1) = c1' at *
  generalize cmM D M T E L S (3 * i + 2) = c2 at *
  generalize cmT D M T E L S i = c3 at *
  generalize (L 0 * x + L 1 * y + L 2 * z + S 0).tdiv g1 = v0 at *
  generalize (L 3 * x + L 4 * y + L 5 * z + S 1).tdiv g1 = v1 at *
  generalize (L 6 * x + L 7 * y + L 8 * z + S 2).tdiv g1 = v2 at *
  generalize (c0 * x + c1' * y + c2 * z + c3).tdiv g2 = wi at *
  generalize E.tdiv g1 = pD at *
  generalize C.tdiv g2 = qD at *
  generalize M (3 * i) = m0' at *
  generalize M (3 * i + 1) = m1' at *
  generalize M (3 * i + 2) = m2' at *
  generalize T i = t at *
  -- n * g1 = G * (g2 * w), qD * g2 = C, C * G = D * E, pD * g1 = E
  have n1 : (m0' * v0 + m1' * v1 + m2' * v2 + t * pD) * g1 = G * (wi * g2) := by
    rw [mv_l, t0, t1, t2, t3, t4, mv_r G c0 c1' c2 c3 x y z, e0, e1, e2, e3]
    exact mv_e _ _ _ _ _ _ _ _ _ _ _ _ _ _ _ _ _ _ _ _
  have n2 : ((m0' * v0 + m1' * v1 + m2' * v2 + t * pD) * qD) * (g1 * g2) = (wi * (D * pD)) * (g1 * g2) := by
    rw [mv_a, n1, t5, mv_b, k2, mv_c, t3]
  exact Int.eq_of_mul_eq_mul_right (Int.mul_ne_zero q1 q2) n2

/-- the identity -/
def oneM (k : Nat) : Int := if k = 0 ∨ k = 4 ∨ k = 8 then 1 else 0
theorem rg_eq {K : Int} (hK : 0 < K) (F : Nat → Int) : ∀ i, (∀ k, k < i → K ∣ F k) → rg K F i = K
  | 0, _ => rfl
  | i + 1, h => by
    show ((Int.gcd (rg K F i) (F i) : Nat) : Int) = K
    rw [rg_eq hK F i (fun k hk => h k (by omega)), Int.gcd_eq_left_iff_dvd (by omega) |>.2 (h i (by omega))]
theorem fvG_one (M T : Nat → Int) : ∀ i, fvG 1 M T i = 1
  | 0 => rfl
  | i + 1 => by
    show Int.gcd (fvG 1 M T i : Nat) (fvN M T i) = 1
    rw [fvG_one M T i]
    exact Int.one_gcd
theorem frmB_one {M T : Nat → Int} (hM : ∀ k, k < 9 → M k = oneM k) (hT : ∀ k, k < 3 → T k = 0) : frmB 1 9 M 3 T = true := by
  have h0 : ∀ i, i < 12 → inB (fvN M T i) (-1000000) 1000000 = true := fun i hi => by
    unfold fvN inB
    by_cases h : i < 9
    · rw [if_pos h, hM i h]; unfold oneM; split <;> simp
    · rw [if_neg h, hT (i - 9) (by omega)]; simp
  have hal : ∀ n, n ≤ 12 → alW (fvN M T) (-1000000) 1000000 n = true := fun n => by
    induction n with
    | zero => exact fun _ => rfl
    | succ n ih =>
      intro hn
      show (alW (fvN M T) (-1000000) 1000000 n && inB (fvN M T n) (-1000000) 1000000) = true
      rw [ih (by omega), h0 n (by omega)]; rfl
  have hd : det9 M = 1 := by
    unfold det9
    rw [hM 0 (by omega), hM 1 (by omega), hM 2 (by omega), hM 3 (by omega), hM 4 (by omega), hM 5 (by omega), hM 6 (by omega), hM 7 (by omega), hM 8 (by omega)]
    rfl
  unfold frmB
  rw [hal 12 (by omega), fvG_one, hd]
  rfl
/-- a composition whose numbers are one number's multiples of the identity's -/
theorem cm_one {D : Int} {M T : Nat → Int} {E : Int} {L S : Nat → Int} (hK : 0 < D * E) (hM : ∀ k, k < 9 → bhM M L k = D * E * oneM k) (hT : ∀ k, k < 3 → bhT M T S E k = 0) : cmD D M T E L S = 1 ∧ (∀ k, k < 9 → cmM D M T E L S k = oneM k) ∧ ∀ k, k < 3 → cmT D M T E L S k = 0 := by
  have hG : cmG D M T E L S = D * E := by
    show rgS _ _ _ = _
    unfold rgS
    rw [if_neg (by omega), rg_eq hK (bhM M L) 9 (fun k hk => by rw [hM k hk]; exact Int.dvd_mul_right _ _), rg_eq hK _ 3 (fun k hk => by rw [hT k hk]; exact Int.dvd_zero _)]
  refine ⟨?_, fun k hk => ?_, fun k hk => ?_⟩
  · show (D * E).tdiv (cmG D M T E L S) = 1
    rw [hG]; exact Int.tdiv_self (by omega)
  · show (bhM M L k).tdiv (cmG D M T E L S) = _
    rw [hG, hM k hk]; exact Int.mul_tdiv_cancel_left _ (by omega)
  · show (bhT M T S E k).tdiv (cmG D M T E L S) = _
    rw [hT k hk]; exact Int.zero_tdiv _
theorem eqN_of {f g : Nat → Int} : ∀ n, (∀ k, k < n → f k = g k) → eqN f g n = true
  | 0, _ => rfl
  | n + 1, h => by
    show (eqN f g n && (f n == g n)) = true
    rw [eqN_of n (fun k hk => h k (by omega)), h n (by omega)]; simp
theorem sam_one {D : Int} {M T M' T' : Nat → Int} (hD : D = 1) (hM : ∀ k, k < 9 → M k = oneM k) (hT : ∀ k, k < 3 → T k = 0) (hM' : ∀ k, k < 9 → M' k = oneM k) (hT' : ∀ k, k < 3 → T' k = 0) : samB D 9 M 3 T 1 9 M' 3 T' = true := by
  subst hD
  unfold samB samT
  rw [frmB_one hM hT, frmB_one hM' hT', eqN_of 9 (fun k hk => by rw [hM k hk, hM' k hk]), hT 0 (by omega), hT 1 (by omega), hT 2 (by omega), hT' 0 (by omega), hT' 1 (by omega), hT' 2 (by omega)]
  rfl
theorem ivQ_parts {D : Int} {n0 : Nat} {M : Nat → Int} {n1 : Nat} {T : Nat → Int} (h : ivQ D n0 M n1 T = true) : frmB D n0 M n1 T = true ∧ frmB (ivD D M T) 9 (ivM D M T) 3 (ivT D M T) = true := by
  unfold ivQ at h
  simp only [Bool.and_eq_true] at h
  exact h
/-- what an inverse and a frame make of each other is the identity, on both sides -/
theorem inv_one {D : Int} {n0 : Nat} {M : Nat → Int} {n1 : Nat} {T : Nat → Int} (h : ivQ D n0 M n1 T = true) :
    (cmD (ivD D M T) (ivM D M T) (ivT D M T) D M T = 1 ∧ (∀ k, k < 9 → cmM (ivD D M T) (ivM D M T) (ivT D M T) D M T k = oneM k) ∧ ∀ k, k < 3 → cmT (ivD D M T) (ivM D M T) (ivT D M T) D M T k = 0) ∧
    (cmD D M T (ivD D M T) (ivM D M T) (ivT D M T) = 1 ∧ (∀ k, k < 9 → cmM D M T (ivD D M T) (ivM D M T) (ivT D M T) k = oneM k) ∧ ∀ k, k < 3 → cmT D M T (ivD D M T) (ivM D M T) (ivT D M T) k = 0) := by
  obtain ⟨h1, h2⟩ := ivQ_parts h
  obtain ⟨-, -, a1, -, -, -, a2⟩ := frmB_parts h1
  obtain ⟨-, -, b1, -, -, -, -⟩ := frmB_parts h2
  obtain ⟨g0, g1, g2, g3⟩ := iv_back (D := D) (T := T) a2
  have m0 := g2 0 (by omega)
  have m1 := g2 1 (by omega)
  have m2 := g2 2 (by omega)
  have m3 := g2 3 (by omega)
  have m4 := g2 4 (by omega)
  have m5 := g2 5 (by omega)
  have m6 := g2 6 (by omega)
  have m7 := g2 7 (by omega)
  have m8 := g2 8 (by omega)
  have t0 := g3 0 (by omega)
  have t1 := g3 1 (by omega)
  have t2 := g3 2 (by omega)
  have e0 : timF (adjF M) T 0 = adjF M 0 * T 0 + adjF M 1 * T 1 + adjF M 2 * T 2 := rfl
  have e1 : timF (adjF M) T 1 = adjF M 3 * T 0 + adjF M 4 * T 1 + adjF M 5 * T 2 := rfl
  have e2 : timF (adjF M) T 2 = adjF M 6 * T 0 + adjF M 7 * T 1 + adjF M 8 * T 2 := rfl
  rw [e0] at t0
  rw [e1] at t1
  rw [e2] at t2
  have j0 : adjF M 0 = M 4 * M 8 - M 5 * M 7 := rfl
  have j1 : adjF M 1 = M 7 * M 2 - M 8 * M 1 := rfl
  have j2 : adjF M 2 = M 1 * M 5 - M 2 * M 4 := rfl
  have j3 : adjF M 3 = M 5 * M 6 - M 3 * M 8 := rfl
  have j4 : adjF M 4 = M 8 * M 0 - M 6 * M 2 := rfl
  have j5 : adjF M 5 = M 2 * M 3 - M 0 * M 5 := rfl
  have j6 : adjF M 6 = M 3 * M 7 - M 4 * M 6 := rfl
  have j7 : adjF M 7 = M 6 * M 1 - M 7 * M 0 := rfl
  have j8 : adjF M 8 = M 0 * M 4 - M 1 * M 3 := rfl
  have hdet : det9 M = M 0 * (M 4 * M 8 - M 5 * M 7) - M 1 * (M 3 * M 8 - M 5 * M 6) + M 2 * (M 3 * M 7 - M 4 * M 6) := rfl
  rw [hdet] at g1
  clear h h1 h2 g2 g3 e0 e1 e2 a2 hdet
  generalize ivG D M T = G at *
  generalize hI : ivM D M T = I at *
  generalize hS : ivT D M T = S at *
  generalize hC : ivD D M T = C at *
  have hK : 0 < C * D := Int.mul_pos (by omega) (by omega)
  have hK' : 0 < D * C := Int.mul_pos (by omega) (by omega)
  have cn : ∀ a b : Int, a * G = b * G → a = b := fun a b h => Int.eq_of_mul_eq_mul_right g0 h
  refine ⟨cm_one hK (fun k hk => ?_) (fun k hk => ?_), cm_one hK' (fun k hk => ?_) (fun k hk => ?_)⟩
  · refine cn _ _ ?_
    match k, hk with
    | 0, _ => show (I 0 * M 0 + I 1 * M 3 + I 2 * M 6) * G = C * D * 1 * G; rw [lin3, m0, m1, m2, j0, j1, j2, adl00]; rw [← g1]; exact one_l _ _ _
    | 1, _ => show (I 0 * M 1 + I 1 * M 4 + I 2 * M 7) * G = C * D * 0 * G; rw [lin3, m0, m1, m2, j0, j1, j2, adl01]; exact nul_l _ _
    | 2, _ => show (I 0 * M 2 + I 1 * M 5 + I 2 * M 8) * G = C * D * 0 * G; rw [lin3, m0, m1, m2, j0, j1, j2, adl02]; exact nul_l _ _
    | 3, _ => show (I 3 * M 0 + I 4 * M 3 + I 5 * M 6) * G = C * D * 0 * G; rw [lin3, m3, m4, m5, j3, j4, j5, adl10]; exact nul_l _ _
    | 4, _ => show (I 3 * M 1 + I 4 * M 4 + I 5 * M 7) * G = C * D * 1 * G; rw [lin3, m3, m4, m5, j3, j4, j5, adl11]; rw [← g1]; exact one_l _ _ _
    | 5, _ => show (I 3 * M 2 + I 4 * M 5 + I 5 * M 8) * G = C * D * 0 * G; rw [lin3, m3, m4, m5, j3, j4, j5, adl12]; exact nul_l _ _
    | 6, _ => show (I 6 * M 0 + I 7 * M 3 + I 8 * M 6) * G = C * D * 0 * G; rw [lin3, m6, m7, m8, j6, j7, j8, adl20]; exact nul_l _ _
    | 7, _ => show (I 6 * M 1 + I 7 * M 4 + I 8 * M 7) * G = C * D * 0 * G; rw [lin3, m6, m7, m8, j6, j7, j8, adl21]; exact nul_l _ _
    | 8, _ => show (I 6 * M 2 + I 7 * M 5 + I 8 * M 8) * G = C * D * 1 * G; rw [lin3, m6, m7, m8, j6, j7, j8, adl22]; rw [← g1]; exact one_l _ _ _
  · refine cn _ _ ?_
    match k, hk with
    | 0, _ => show (I 0 * T 0 + I 1 * T 1 + I 2 * T 2 + S 0 * D) * G = 0 * G; rw [lin4, m0, m1, m2, t0, j0, j1, j2, atl0, Int.zero_mul]
    | 1, _ => show (I 3 * T 0 + I 4 * T 1 + I 5 * T 2 + S 1 * D) * G = 0 * G; rw [lin4, m3, m4, m5, t1, j3, j4, j5, atl1, Int.zero_mul]
    | 2, _ => show (I 6 * T 0 + I 7 * T 1 + I 8 * T 2 + S 2 * D) * G = 0 * G; rw [lin4, m6, m7, m8, t2, j6, j7, j8, atl2, Int.zero_mul]
  · refine cn _ _ ?_
    match k, hk with
    | 0, _ => show (M 0 * I 0 + M 1 * I 3 + M 2 * I 6) * G = D * C * 1 * G; rw [lin3r, m0, m3, m6, j0, j3, j6, adr00]; rw [← g1]; exact one_r _ _ _
    | 1, _ => show (M 0 * I 1 + M 1 * I 4 + M 2 * I 7) * G = D * C * 0 * G; rw [lin3r, m1, m4, m7, j1, j4, j7, adr01]; exact nul_l _ _
    | 2, _ => show (M 0 * I 2 + M 1 * I 5 + M 2 * I 8) * G = D * C * 0 * G; rw [lin3r, m2, m5, m8, j2, j5, j8, adr02]; exact nul_l _ _
    | 3, _ => show (M 3 * I 0 + M 4 * I 3 + M 5 * I 6) * G = D * C * 0 * G; rw [lin3r, m0, m3, m6, j0, j3, j6, adr10]; exact nul_l _ _
    | 4, _ => show (M 3 * I 1 + M 4 * I 4 + M 5 * I 7) * G = D * C * 1 * G; rw [lin3r, m1, m4, m7, j1, j4, j7, adr11]; rw [← g1]; exact one_r _ _ _
    | 5, _ => show (M 3 * I 2 + M 4 * I 5 + M 5 * I 8) * G = D * C * 0 * G; rw [lin3r, m2, m5, m8, j2, j5, j8, adr12]; exact nul_l _ _
    | 6, _ => show (M 6 * I 0 + M 7 * I 3 + M 8 * I 6) * G = D * C * 0 * G; rw [lin3r, m0, m3, m6, j0, j3, j6, adr20]; exact nul_l _ _
    | 7, _ => show (M 6 * I 1 + M 7 * I 4 + M 8 * I 7) * G = D * C * 0 * G; rw [lin3r, m1, m4, m7, j1, j4, j7, adr21]; exact nul_l _ _
    | 8, _ => show (M 6 * I 2 + M 7 * I 5 + M 8 * I 8) * G = D * C * 1 * G; rw [lin3r, m2, m5, m8, j2, j5, j8, adr22]; rw [← g1]; exact one_r _ _ _
  · refine cn _ _ ?_
    match k, hk with
    | 0, _ => show (M 0 * S 0 + M 1 * S 1 + M 2 * S 2 + T 0 * C) * G = 0 * G; rw [lin4r, t0, t1, t2, g1, j0, j1, j2, j3, j4, j5, j6, j7, j8, atr0, Int.zero_mul]
    | 1, _ => show (M 3 * S 0 + M 4 * S 1 + M 5 * S 2 + T 1 * C) * G = 0 * G; rw [lin4r, t0, t1, t2, g1, j0, j1, j2, j3, j4, j5, j6, j7, j8, atr1, Int.zero_mul]
    | 2, _ => show (M 6 * S 0 + M 7 * S 1 + M 8 * S 2 + T 2 * C) * G = 0 * G; rw [lin4r, t0, t1, t2, g1, j0, j1, j2, j3, j4, j5, j6, j7, j8, atr2, Int.zero_mul]

end Go.Proofs.Ytjdbiaoheoialaa

namespace Go.Proofs.Ytjdbiaoheoialaa
open Go.RowKit

/-- what is said of a small frame -/
def SmP (D : Int) (n0 : Nat) (M : Nat → Int) (n1 : Nat) (T : Nat → Int) : Prop :=
  frmB D n0 M n1 T = true ∧ D ≤ 1000 ∧ (∀ j, j < 9 → -1000 ≤ M j ∧ M j ≤ 1000) ∧ ∀ j, j < 3 → -1000 ≤ T j ∧ T j ≤ 1000
def SmR (D : Int) (n0 : Nat) (M : Nat → Int) (n1 : Nat) (T : Nat → Int) (w : World) (e : Ending) (w' : World) : Prop :=
  ∃ q : Bool, e = .returned (.bool q) ∧ (q = true → SmP D n0 M n1 T) ∧ Below w.heap.size w w'

set_option maxRecDepth 100000 in
set_option maxHeartbeats 4000000 in
theorem small_any (D : Int) (a0 : Option Addr) (n0 c0 : Nat) (M : Nat → Int) (hl0 : n0 ≤ 1048576) (a1 : Option Addr) (n1 c1 : Nat) (T : Nat → Int) (hl1 : n1 ≤ 1048576) (w : World) (h0 : Px a0 n0 M w) (h1 : Px a1 n1 T w) :
    Calls Try.prog 6 #[vFrame D a0 n0 c0 a1 n1 c1] w (SmR D n0 M n1 T w) := by
  have HS0 := hide ((St.start w).box [.slice a0 n0 c0, .slice a1 n1 c1, .int .i64 D] 26)
  generalize hA : w.alloc (.cells [.slice a0 n0 c0, .slice a1 n1 c1, .int .i64 D].toArray 26) = wA at HS0
  have hA' : w.alloc (.cells #[.slice a0 n0 c0, .slice a1 n1 c1, .int .i64 D] 26) = wA := hA
  obtain ⟨i0, i1, i2⟩ := HS0.out.im3 0 rfl
  have c := specFrameOk_any D a0 n0 c0 M hl0 a1 n1 c1 T hl1 wA (h0.below HS0.out.below) (h1.below HS0.out.below)
  have HP0 := hide h0
  have HP1 := hide h1
  clear hA h0 h1
  cases hf : frmB D n0 M n1 T
  · rw [hf] at c
    clear hf HP0 HP1
    go_enter Try.func6, Try.ntmps6
    go_wp2_with fail
    refine c.mono ?_
    rintro e w1 ⟨rfl, hb⟩
    have HB := hide (HS0.out.next hb).below
    clear c hb HS0 hA'
    go_wp2_with fail
    go_ret
    exact ⟨false, rfl, fun e => absurd e (by simp), HB.out⟩
  · have q0 := (frmB_parts hf).1
    have q1 := (frmB_parts hf).2.1
    subst q0 q1
    rw [hf] at c
    have HF := hide hf
    clear hf
    obtain ⟨b0, o0, rfl, _⟩ := HP0.out.lt (by omega)
    obtain ⟨b1, o1, rfl, _⟩ := HP1.out.lt (by omega)
    by_cases hD : (1000 : Int) < D
    · go_enter Try.func6, Try.ntmps6
      go_wp2_with fail
      refine c.mono ?_
      rintro e w1 ⟨rfl, hb⟩
      have HS1 := hide (HS0.out.next hb)
      clear c hb HS0 hA' i0 i1 i2
      obtain ⟨i0, i1, i2⟩ := HS1.out.im3 0 rfl
      have HB := hide HS1.out.below
      clear HS1
      go_wp2_with fail
      go_ret
      exact ⟨false, rfl, fun e => absurd e (by simp), HB.out⟩
    · have HD : Hid (D ≤ 1000) := by show D ≤ 1000; omega
      go_enter Try.func6, Try.ntmps6
      go_wp2_with fail
      refine c.mono ?_
      rintro e w1 ⟨rfl, hb⟩
      have HS1 := hide (HS0.out.next hb)
      clear c hb HS0 hA' i0 i1 i2
      obtain ⟨i0, i1, i2⟩ := HS1.out.im3 0 rfl
      have HB := hide HS1.out.below
      have HQ0 := hide (HP0.out.below HB.out)
      have HQ1 := hide (HP1.out.below HB.out)
      clear HS1 HP0 HP1
      go_upto_region 3 with fail
      clear hD
      go_wp2_with fail
      go_loop [3] (fun i => ∃ k : Nat, k ≤ 9 ∧ i = .int .i64 k ∧ Hid ((∀ j, j < k → -1000 ≤ M j ∧ M j ≤ 1000) ∧ ∀ j, j < k → j < 3 → -1000 ≤ T j ∧ T j ≤ 1000)) (fun i => 9 - (intOf i).toNat)
      case atStart => exact ⟨0, by omega, rfl, fun j hj => by omega, fun j hj => by omega⟩
      case round =>
        obtain ⟨k, hk, rfl, HK⟩ := hrel
        by_cases hlt : k < 9
        · obtain ⟨_, _, e0, z0⟩ := HQ0.out.at hlt
          cases e0
          by_cases m1 : M k < -1000
          · clear HK HF HD HQ0 HQ1
            go_wp2_with fail
            go_ret
            exact ⟨false, rfl, fun e => absurd e (by simp), HB.out⟩
          by_cases m2 : (1000 : Int) < M k
          · clear HK HF HD HQ0 HQ1
            go_wp2_with fail
            go_ret
            exact ⟨false, rfl, fun e => absurd e (by simp), HB.out⟩
          by_cases h3 : k < 3
          · obtain ⟨_, _, e1, z1⟩ := HQ1.out.at h3
            cases e1
            by_cases t1 : T k < -1000
            · clear HK HF HD HQ0 HQ1
              go_wp2_with fail
              go_ret
              exact ⟨false, rfl, fun e => absurd e (by simp), HB.out⟩
            by_cases t2 : (1000 : Int) < T k
            · clear HK HF HD HQ0 HQ1
              go_wp2_with fail
              go_ret
              exact ⟨false, rfl, fun e => absurd e (by simp), HB.out⟩
            have HK2 : Hid ((∀ j, j < k + 1 → -1000 ≤ M j ∧ M j ≤ 1000) ∧ ∀ j, j < k + 1 → j < 3 → -1000 ≤ T j ∧ T j ≤ 1000) := by
              refine ⟨fun j hj => ?_, fun j hj h => ?_⟩
              · by_cases e : j = k
                · rw [e]; omega
                · exact HK.out.1 j (by omega)
              · by_cases e : j = k
                · rw [e]; omega
                · exact HK.out.2 j (by omega) h
            clear HK HF HD HQ0 HQ1
            go_wp2_with fail
            exact ⟨⟨k + 1, by omega, rfl, HK2⟩, by simp [intOf]; omega⟩
          · have HK2 : Hid ((∀ j, j < k + 1 → -1000 ≤ M j ∧ M j ≤ 1000) ∧ ∀ j, j < k + 1 → j < 3 → -1000 ≤ T j ∧ T j ≤ 1000) := by
              refine ⟨fun j hj => ?_, fun j hj h => ?_⟩
              · by_cases e : j = k
                · rw [e]; omega
                · exact HK.out.1 j (by omega)
              · exact HK.out.2 j (by omega) h
            clear HK HF HD HQ0 HQ1
            go_wp2_with fail
            exact ⟨⟨k + 1, by omega, rfl, HK2⟩, by simp [intOf]; omega⟩
        · have HR : Hid (SmP D 9 M 3 T) := ⟨HF.out, HD.out, fun j hj => HK.out.1 j (by omega), fun j hj => HK.out.2 j (by omega) hj⟩
          clear HK HF HD HQ0 HQ1
          go_wp2_with fail
          go_ret
          exact ⟨true, rfl, fun _ => HR.out, HB.out⟩

end Go.Proofs.Ytjdbiaoheoialaa

namespace Go.Proofs.Ytjdbiaoheoialaa
open Go.RowKit

theorem mulB {x y : Int} {a b : Nat} (h1 : -(a : Int) ≤ x ∧ x ≤ a) (h2 : -(b : Int) ≤ y ∧ y ≤ b) : -((a * b : Nat) : Int) ≤ x * y ∧ x * y ≤ ((a * b : Nat) : Int) := by
  have h : (x * y).natAbs ≤ a * b := by rw [Int.natAbs_mul]; exact Nat.mul_le_mul (by omega) (by omega)
  omega
theorem tdiv_bd {a g B : Int} (h : -B ≤ a ∧ a ≤ B) : -B ≤ a.tdiv g ∧ a.tdiv g ≤ B := by
  have h1 : (a.tdiv g).natAbs = a.natAbs / g.natAbs := Int.natAbs_tdiv a g
  have h2 := Nat.div_le_self a.natAbs g.natAbs
  omega
theorem tdiv_pos1 {a g : Int} (hd : g ∣ a) (ha : 0 < a) (hg : 0 < g) : 1 ≤ a.tdiv g := by
  obtain ⟨c, rfl⟩ := hd
  rw [Int.mul_tdiv_cancel_left _ (by omega)]
  rcases Int.lt_or_le 0 c with h | h
  · omega
  · have := Int.mul_le_mul_of_nonneg_left h (show 0 ≤ g by omega)
    omega
theorem mvX_bd {L S : Nat → Int} {x y z : Int} {B : Nat} (hL : ∀ k, k < 9 → -(B : Int) ≤ L k ∧ L k ≤ B) (hS : ∀ k, k < 3 → -(B : Int) ≤ S k ∧ S k ≤ B) (hx : -20 ≤ x ∧ x ≤ 20) (hy : -20 ≤ y ∧ y ≤ 20) (hz : -40 ≤ z ∧ z ≤ 40) {i : Nat} (hi : i < 3) : -((81 * B : Nat) : Int) ≤ mvX L S x y z i ∧ mvX L S x y z i ≤ ((81 * B : Nat) : Int) := by
  have a := mulB (b := 20) (hL (3 * i) (by omega)) (y := x) (by omega)
  have b := mulB (b := 20) (hL (3 * i + 1) (by omega)) (y := y) (by omega)
  have c := mulB (b := 40) (hL (3 * i + 2) (by omega)) (y := z) (by omega)
  have d := hS i hi
  unfold mvX
  omega
theorem mov_is {E : Int} {L S : Nat → Int} {x y z : Int} (h : frmB E 9 L 3 S = true) (hx : -20 ≤ x ∧ x ≤ 20) (hy : -20 ≤ y ∧ y ≤ 20) (hz : -40 ≤ z ∧ z ≤ 40) :
    movV E 9 L 3 S x y z = .agg #[.int .i64 ((mvX L S x y z 0).tdiv (mvG L S E x y z)), .int .i64 ((mvX L S x y z 1).tdiv (mvG L S E x y z)), .int .i64 ((mvX L S x y z 2).tdiv (mvG L S E x y z)), .int .i64 (E.tdiv (mvG L S E x y z))] := by
  have i6 : ∀ v : Int, -40 ≤ v ∧ v ≤ 40 → inB v (-1000000) 1000000 = true := fun v hv => by unfold inB; simp; omega
  unfold movV movB
  rw [h, i6 x (by omega), i6 y (by omega), i6 z hz]
  rfl
/-- the two points that the law compares -/
theorem movs {D : Int} {M T : Nat → Int} {E : Int} {L S : Nat → Int} (h : cmQ D 9 M 3 T E 9 L 3 S = true) (hb : SmP E 9 L 3 S) {x y z : Int} (hx : -20 ≤ x ∧ x ≤ 20) (hy : -20 ≤ y ∧ y ≤ 20) (hz : -40 ≤ z ∧ z ≤ 40) :
    ∃ (V : Nat → Int) (pD : Int) (W : Nat → Int) (qD : Int), movV E 9 L 3 S x y z = .agg #[.int .i64 (V 0), .int .i64 (V 1), .int .i64 (V 2), .int .i64 pD] ∧ movV (cmD D M T E L S) 9 (cmM D M T E L S) 3 (cmT D M T E L S) x y z = .agg #[.int .i64 (W 0), .int .i64 (W 1), .int .i64 (W 2), .int .i64 qD] ∧
      (1 ≤ pD ∧ pD ≤ 1000) ∧ (1 ≤ qD ∧ qD ≤ 1000000) ∧ (∀ k, k < 3 → -81000 ≤ V k ∧ V k ≤ 81000) ∧ (∀ k, k < 3 → -81000000 ≤ W k ∧ W k ≤ 81000000) ∧
      ∀ i, i < 3 → (M (3 * i) * V 0 + M (3 * i + 1) * V 1 + M (3 * i + 2) * V 2 + T i * pD) * qD = W i * (D * pD) := by
  obtain ⟨-, h2, h3⟩ := cmQ_parts h
  obtain ⟨-, -, b1, -, -, -, -⟩ := frmB_parts h2
  obtain ⟨-, -, c1, cM, cT, -, -⟩ := frmB_parts h3
  obtain ⟨-, bD, bL, bS⟩ := hb
  have hm := move_two h x y z rfl rfl
  have p1 : 1 ≤ mvG L S E x y z := mvG_pos L S b1.1 x y z
  have p2 : 1 ≤ mvG (cmM D M T E L S) (cmT D M T E L S) (cmD D M T E L S) x y z := mvG_pos _ _ c1.1 x y z
  obtain ⟨-, -, -, d3⟩ := mvG_dvd L S E x y z
  obtain ⟨-, -, -, f3⟩ := mvG_dvd (cmM D M T E L S) (cmT D M T E L S) (cmD D M T E L S) x y z
  refine ⟨fun k => (mvX L S x y z k).tdiv (mvG L S E x y z), E.tdiv (mvG L S E x y z), fun k => (mvX (cmM D M T E L S) (cmT D M T E L S) x y z k).tdiv (mvG (cmM D M T E L S) (cmT D M T E L S) (cmD D M T E L S) x y z), (cmD D M T E L S).tdiv (mvG (cmM D M T E L S) (cmT D M T E L S) (cmD D M T E L S) x y z), mov_is h2 hx hy hz, mov_is h3 hx hy hz, ⟨tdiv_pos1 d3 (by omega) (by omega), (tdiv_bd (B := 1000) (by omega)).2⟩, ⟨tdiv_pos1 f3 (by omega) (by omega), (tdiv_bd (B := 1000000) (by omega)).2⟩, fun k hk => ?_, fun k hk => ?_, hm⟩
  · exact tdiv_bd (mvX_bd (B := 1000) bL bS hx hy hz hk)
  · exact tdiv_bd (mvX_bd (B := 1000000) cM cT hx hy hz hk)
/-- one row of the comparison: nothing overflows -/
theorem rnd {A0 A1 A2 t D v0 v1 v2 pD qD wi : Int} (h0 : -1000 ≤ A0 ∧ A0 ≤ 1000) (h1 : -1000 ≤ A1 ∧ A1 ≤ 1000) (h2 : -1000 ≤ A2 ∧ A2 ≤ 1000) (ht : -1000 ≤ t ∧ t ≤ 1000) (hD : 1 ≤ D ∧ D ≤ 1000) (g0 : -81000 ≤ v0 ∧ v0 ≤ 81000) (g1 : -81000 ≤ v1 ∧ v1 ≤ 81000) (g2 : -81000 ≤ v2 ∧ v2 ≤ 81000) (hp : 1 ≤ pD ∧ pD ≤ 1000) (hw : -81000000 ≤ wi ∧ wi ≤ 81000000)
    (he : (A0 * v0 + A1 * v1 + A2 * v2 + t * pD) * qD = wi * (D * pD)) :
    ∃ n1 n2 n3 n4 s1 s2 n d l : Int, IntKind.i64.wrap (A0 * v0) = n1 ∧ IntKind.i64.wrap (A1 * v1) = n2 ∧ IntKind.i64.wrap (n1 + n2) = s1 ∧ IntKind.i64.wrap (A2 * v2) = n3 ∧ IntKind.i64.wrap (s1 + n3) = s2 ∧ IntKind.i64.wrap (t * pD) = n4 ∧ IntKind.i64.wrap (s2 + n4) = n ∧ IntKind.i64.wrap (n * qD) = l ∧ IntKind.i64.wrap (D * pD) = d ∧ IntKind.i64.wrap (wi * d) = l := by
  have a0 := mulB (a := 1000) (b := 81000) (x := A0) (y := v0) (by omega) (by omega)
  have a1 := mulB (a := 1000) (b := 81000) (x := A1) (y := v1) (by omega) (by omega)
  have a2 := mulB (a := 1000) (b := 81000) (x := A2) (y := v2) (by omega) (by omega)
  have a3 := mulB (a := 1000) (b := 1000) (x := t) (y := pD) (by omega) (by omega)
  have a4 := mulB (a := 1000) (b := 1000) (x := D) (y := pD) (by omega) (by omega)
  have a5 := mulB (a := 81000000) (b := 1000000) (x := wi) (y := D * pD) (by omega) (by omega)
  have a6 := a5
  rw [← he] at a6
  refine ⟨A0 * v0, A1 * v1, A2 * v2, t * pD, A0 * v0 + A1 * v1, A0 * v0 + A1 * v1 + A2 * v2, A0 * v0 + A1 * v1 + A2 * v2 + t * pD, D * pD, wi * (D * pD), ?_, ?_, ?_, ?_, ?_, ?_, ?_, ?_, ?_, ?_⟩
  · rw [IntKind.wrap_i64]; omega
  · rw [IntKind.wrap_i64]; omega
  · rw [IntKind.wrap_i64]; omega
  · rw [IntKind.wrap_i64]; omega
  · rw [IntKind.wrap_i64]; omega
  · rw [IntKind.wrap_i64]; omega
  · rw [IntKind.wrap_i64]; omega
  · rw [he, IntKind.wrap_i64]; omega
  · rw [IntKind.wrap_i64]; omega
  · rw [IntKind.wrap_i64]; omega

/-- what the law keeps in hand: the two frames and the identity -/
structure FS (w0 : World) (X Y Z : Nat) (D : Int) (x0 : Option Addr) (c0 : Nat) (M : Nat → Int) (x1 : Option Addr) (c1 : Nat) (T : Nat → Int) (E : Int) (y0 : Option Addr) (d0 : Nat) (L : Nat → Int) (y1 : Option Addr) (d1 : Nat) (S : Nat → Int) (o0 o1 : Nat) (w : World) : Prop where
  below : Below w0.heap.size w0 w
  a : Bx X [.slice x0 9 c0, .slice x1 3 c1, .int .i64 D] w
  b : Bx Y [.slice y0 9 d0, .slice y1 3 d1, .int .i64 E] w
  one : Bx Z [.slice (some ⟨o0, 0, none⟩) 9 9, .slice (some ⟨o1, 0, none⟩) 3 3, .int .i64 1] w
  m : Px x0 9 M w
  t : Px x1 3 T w
  l : Px y0 9 L w
  s : Px y1 3 S w
  om : Px (some ⟨o0, 0, none⟩) 9 oneM w
  ot : Px (some ⟨o1, 0, none⟩) 3 (fun _ => 0) w
theorem FS.next {w0 : World} {X Y Z : Nat} {D : Int} {x0 : Option Addr} {c0 : Nat} {M : Nat → Int} {x1 : Option Addr} {c1 : Nat} {T : Nat → Int} {E : Int} {y0 : Option Addr} {d0 : Nat} {L : Nat → Int} {y1 : Option Addr} {d1 : Nat} {S : Nat → Int} {o0 o1 : Nat} {w w' : World}
    (h : FS w0 X Y Z D x0 c0 M x1 c1 T E y0 d0 L y1 d1 S o0 o1 w) (hb : Below w.heap.size w w') : FS w0 X Y Z D x0 c0 M x1 c1 T E y0 d0 L y1 d1 S o0 o1 w' :=
  ⟨h.below.trans (hb.mono h.below.size), h.a.below hb h.a.lt, h.b.below hb h.b.lt, h.one.below hb h.one.lt, h.m.below hb, h.t.below hb, h.l.below hb, h.s.below hb, h.om.below hb, h.ot.below hb⟩
theorem oneM_px {q : Nat} {w : World} (h : Bx q [.int .i64 1, .int .i64 0, .int .i64 0, .int .i64 0, .int .i64 1, .int .i64 0, .int .i64 0, .int .i64 0, .int .i64 1] w) : Px (some ⟨q, 0, none⟩) 9 oneM w := by
  refine .inr ⟨_, 0, rfl, fun k hk => ?_⟩
  match k, hk with
  | 0, _ => exact (h 0 _ rfl).1
  | 1, _ => exact (h 1 _ rfl).1
  | 2, _ => exact (h 2 _ rfl).1
  | 3, _ => exact (h 3 _ rfl).1
  | 4, _ => exact (h 4 _ rfl).1
  | 5, _ => exact (h 5 _ rfl).1
  | 6, _ => exact (h 6 _ rfl).1
  | 7, _ => exact (h 7 _ rfl).1
  | 8, _ => exact (h 8 _ rfl).1
theorem zero_px {q : Nat} {w : World} (h : Bx q [.int .i64 0, .int .i64 0, .int .i64 0] w) : Px (some ⟨q, 0, none⟩) 3 (fun _ => 0) w := by
  refine .inr ⟨_, 0, rfl, fun k hk => ?_⟩
  match k, hk with
  | 0, _ => exact (h 0 _ rfl).1
  | 1, _ => exact (h 1 _ rfl).1
  | 2, _ => exact (h 2 _ rfl).1
theorem inv_cmQ {D : Int} {M T : Nat → Int} (h : ivQ D 9 M 3 T = true) : cmQ (ivD D M T) 9 (ivM D M T) 3 (ivT D M T) D 9 M 3 T = true ∧ cmQ D 9 M 3 T (ivD D M T) 9 (ivM D M T) 3 (ivT D M T) = true := by
  obtain ⟨h1, h2⟩ := ivQ_parts h
  obtain ⟨⟨a1, a2, a3⟩, ⟨b1, b2, b3⟩⟩ := inv_one h
  unfold cmQ
  rw [h1, h2, a1, b1, frmB_one a2 a3, frmB_one b2 b3]
  exact ⟨rfl, rfl⟩
theorem inv_sam {D : Int} {M T : Nat → Int} (h : ivQ D 9 M 3 T = true) : samB (cmD (ivD D M T) (ivM D M T) (ivT D M T) D M T) 9 (cmM (ivD D M T) (ivM D M T) (ivT D M T) D M T) 3 (cmT (ivD D M T) (ivM D M T) (ivT D M T) D M T) 1 9 oneM 3 (fun _ => 0) = true ∧ samB (cmD D M T (ivD D M T) (ivM D M T) (ivT D M T)) 9 (cmM D M T (ivD D M T) (ivM D M T) (ivT D M T)) 3 (cmT D M T (ivD D M T) (ivM D M T) (ivT D M T)) 1 9 oneM 3 (fun _ => 0) = true := by
  obtain ⟨⟨a1, a2, a3⟩, ⟨b1, b2, b3⟩⟩ := inv_one h
  exact ⟨sam_one a1 a2 a3 (fun _ _ => rfl) (fun _ _ => rfl), sam_one b1 b2 b3 (fun _ _ => rfl) (fun _ _ => rfl)⟩
theorem hnd_of {D : Int} {n0 : Nat} {M : Nat → Int} {n1 : Nat} {T : Nat → Int} : hndV D n0 M n1 T = 1 ∨ hndV D n0 M n1 T = -1 ∨ hndV D n0 M n1 T = 0 := by
  unfold hndV
  split
  · split
    · exact .inr (.inl rfl)
    · exact .inl rfl
  · exact .inr (.inr rfl)

end Go.Proofs.Ytjdbiaoheoialaa

/- An image from its lines, there and back: numbers alone. -/
import Derived.Test.YtcghjecnbingfaaFrm
namespace Go.Proofs.Ytcghjecnbingfaa
open Go.RowKit

theorem frS_lin {p : Nat} {f : Nat → Int} (h32 : p < 32) (hp : Lnm.isP p = true) {k : Nat} (hk : k < p * p) : frS p (Lnm.lin p f) k = (p : Int) * f k := by
  have hpos : 0 < p := by
    rcases Nat.eq_zero_or_pos p with h | h
    · rw [h] at hk; simp at hk
    · exact h
  have hx := Nat.mod_lt k hpos
  have hy : k / p < p := Nat.div_lt_of_lt_mul hk
  have hkk : k / p * p + k % p = k := by rw [Nat.mul_comm]; exact Nat.div_add_mod k p
  have e3 := Lnm.lin_thr h32 hp hx hy f
  have e4 := Lnm.lin_first hpos f
  rw [hkk] at e3
  unfold frS
  rw [e3, e4]
  omega
theorem frX_lin {p : Nat} {f : Nat → Int} (h32 : p < 32) (hp : Lnm.isP p = true) {k : Nat} (hk : k < p * p) : frX p (Lnm.lin p f) k = f k := by
  unfold frX
  rw [frS_lin h32 hp hk]
  refine Int.mul_tdiv_cancel_left _ ?_
  intro h
  have : p = 0 := by omega
  rw [this] at hk
  simp at hk
theorem alW_cg {f g : Nat → Int} {lo hi : Int} : ∀ {n : Nat}, (∀ k, k < n → f k = g k) → alW f lo hi n = alW g lo hi n
  | 0, _ => rfl
  | n + 1, h => by unfold alW; rw [alW_cg (fun k hk => h k (by omega)), h n (by omega)]
theorem allB_cg {f g : Nat → Int} : ∀ {n : Nat}, (∀ k, k < n → f k = g k) → allB f n = allB g n
  | 0, _ => rfl
  | n + 1, h => by unfold allB; rw [allB_cg (fun k hk => h k (by omega)), h n (by omega)]
theorem toneB_cg {W H : Int} {n : Nat} {f g : Nat → Int} (h : ∀ k, k < n → f k = g k) : toneB W H n f = toneB W H n g := by
  unfold toneB okB
  rw [alW_cg h, allB_cg h]
theorem lin_cg {p : Nat} {f g : Nat → Int} (hp : 0 < p) (h : ∀ k, k < p * p → f k = g k) (l : Nat) : Lnm.lin p f l = Lnm.lin p g l := Lnm.sm_congr fun _ hj => h _ (plc_lt hp hj)
theorem dsq_same (g : Nat → Int) : ∀ m, Lnm.sm (dsq g g) m = 0
  | 0 => rfl
  | m + 1 => by
    unfold Lnm.sm
    rw [dsq_same g m]
    unfold dsq
    simp
theorem alW_of6 {f : Nat → Int} {lo hi : Int} : ∀ {n : Nat}, (∀ k, k < n → lo ≤ f k ∧ f k ≤ hi) → alW f lo hi n = true
  | 0, _ => rfl
  | n + 1, h => by
    have := h n (by omega)
    unfold alW
    rw [alW_of6 (fun k hk => h k (by omega))]
    unfold inB
    simp [this.1, this.2]
/-- a tone image: its side, its lines, and that they give it back -/
theorem lines_back {W H : Int} {n : Nat} {f : Nat → Int} (h : toneB W H n f = true) :
    H = W ∧ 0 < n ∧ n ≤ 961 ∧ 0 < lnN W H n f ∧ lnN W H n f ≤ 992 ∧ (∀ k, -126945 ≤ lnF W f k ∧ lnF W f k ≤ 126945) ∧ frB (lnN W H n f) (lnF W f) = true ∧ (frP (lnN W H n f) : Int) = W ∧ frP (lnN W H n f) * frP (lnN W H n f) = n ∧ (∀ k, k < n → frX (frP (lnN W H n f)) (lnF W f) k = f k) ∧ msV W H n f (lnN W H n f) (lnF W f) = 0 ∧
    ∀ v, v = lnF W f 0 + 1 → frB (lnN W H n f) (Lnm.upd (lnF W f) 0 v) = false := by
  obtain ⟨p, hW, hH, hn, p1, p2, hP, hf⟩ := toneB_parts h
  subst hW hH
  have hpri : priB (p : Int) = true := by
    unfold toneB at h
    simp only [Bool.and_eq_true] at h
    exact h.2.2.1
  have hlN : lnN (p : Int) (p : Int) n f = (p + 1) * p := by unfold lnN; rw [if_pos h, Int.toNat_natCast]
  have hlF : lnF (p : Int) f = Lnm.lin p f := by unfold lnF; rw [Int.toNat_natCast]
  rw [hlN, hlF]
  have hsd : sdv (((p + 1) * p : Nat) : Int) = p := by
    have := sdv_yes hpri
    rw [Int.natCast_mul]
    exact this
  have hfrP : frP ((p + 1) * p) = p := by unfold frP; rw [hsd, Int.toNat_natCast]
  have hpp : n ≤ 31 * 31 := by rw [hn]; exact Nat.mul_le_mul p2 p2
  have hN : (p + 1) * p ≤ 32 * 31 := Nat.mul_le_mul (by omega) p2
  have hpos : 0 < n := by rw [hn]; exact Nat.mul_pos (by omega) (by omega)
  have hN0 : 0 < (p + 1) * p := Nat.mul_pos (by omega) (by omega)
  have hbd : ∀ k, -126945 ≤ Lnm.lin p f k ∧ Lnm.lin p f k ≤ 126945 := fun k => lin_bound (by omega) p2 (fun k hk => hf k (by omega)) k
  have hX : ∀ k, k < p * p → frX p (Lnm.lin p f) k = f k := fun k hk => frX_lin (by omega) hP hk
  have hal : ∀ g : Nat → Int, (∀ k, -200000 ≤ g k ∧ g k ≤ 200000) → l6sV ((p + 1) * p) g = p := fun g hg => by
    unfold l6sV
    rw [if_pos (alW_of6 fun k _ => hg k), hsd]
  have hT : frT p ((p + 1) * p) (Lnm.lin p f) = true := by
    unfold frT
    rw [Bool.and_eq_true]
    refine ⟨?_, eqL_of fun k _ => lin_cg (by omega) hX k⟩
    rw [toneB_cg hX, ← hn]
    exact h
  refine ⟨rfl, hpos, by omega, hN0, by omega, hbd, ?_, by rw [hfrP], by rw [hfrP, hn], fun k hk => by rw [hfrP]; exact hX k (by omega), ?_, fun v hv => ?_⟩
  · unfold frB
    rw [hfrP, hT, hal _ (fun k => by have := hbd k; omega)]
    have : ((p : Int) != 0) = true := by simp; omega
    rw [this]
    rfl
  · unfold msV msB lsB
    rw [h, Int.toNat_natCast, decide_eq_true rfl, alW_of6 (fun k _ => by have := hbd k; omega), hlF]
    exact dsq_same _ _
  · unfold frB
    rw [hfrP]
    have hF : frT p ((p + 1) * p) (Lnm.upd (Lnm.lin p f) 0 v) = false := by
      rw [Bool.eq_false_iff]
      intro hc
      have hD := frT_frD p1 (by omega) hP rfl hc
      have hkp : p < p * p := by
        have := Nat.mul_le_mul_right p p1
        omega
      have h0 := frD_at hD hkp
      have u0 : Lnm.upd (Lnm.lin p f) 0 v 0 = Lnm.lin p f 0 + 1 := by unfold Lnm.upd; rw [if_pos rfl]; exact hv
      have u1 : ∀ k, k ≠ 0 → Lnm.upd (Lnm.lin p f) 0 v k = Lnm.lin p f k := fun k hk => by unfold Lnm.upd; rw [if_neg hk]
      have e1 : Lnm.sm (fun i => Lnm.upd (Lnm.lin p f) 0 v (Lnm.thr p (p % p) (p / p) i)) (p + 1) = Lnm.sm (fun i => Lnm.lin p f (Lnm.thr p (p % p) (p / p) i)) (p + 1) := Lnm.sm_congr fun i hi => u1 _ (by
        rw [Nat.mod_self, Nat.div_self (by omega)]
        unfold Lnm.thr
        by_cases hip : i = p
        · rw [if_pos hip]; omega
        · rw [if_neg hip]
          by_cases hi0 : i = 0
          · subst hi0
            unfold Lnm.tt
            have : (((1 : Nat) : Int) - ((0 : Nat) : Int) * ((0 : Nat) : Int)) % (p : Int) = 1 := by
              rw [show (((1 : Nat) : Int) - ((0 : Nat) : Int) * ((0 : Nat) : Int)) = 1 by simp]
              exact Int.emod_eq_of_lt (by omega) (by omega)
            rw [this]
            simp
          · have := Nat.mul_le_mul_right p (show 1 ≤ i by omega)
            omega)
      have e2 : ∀ q, 0 < q → Lnm.sm (Lnm.upd (Lnm.lin p f) 0 v) q = Lnm.sm (Lnm.lin p f) q + 1 := fun q => by
        induction q with
        | zero => intro h; omega
        | succ q ih =>
          intro _
          unfold Lnm.sm
          by_cases hq : q = 0
          · subst hq
            rw [u0]
            show 0 + (Lnm.lin p f 0 + 1) = 0 + Lnm.lin p f 0 + 1
            omega
          · rw [ih (by omega), u1 q hq]
            omega
      have e3 := frS_lin (f := f) (show p < 32 by omega) hP hkp
      unfold frS at e3
      unfold frS at h0
      rw [e1, e2 p (by omega)] at h0
      have e4 : Lnm.sm (fun i => Lnm.lin p f (Lnm.thr p (p % p) (p / p) i)) (p + 1) - (Lnm.sm (Lnm.lin p f) p + 1) = (p : Int) * f p - 1 := by omega
      rw [e4] at h0
      have hdv : (p : Int) ∣ (p : Int) * f p - 1 := Int.dvd_of_tmod_eq_zero h0
      have hd1 : (p : Int) ∣ 1 := by
        have := Int.dvd_sub (Int.dvd_mul_right (p : Int) (f p)) hdv
        rwa [show (p : Int) * f p - ((p : Int) * f p - 1) = 1 by omega] at this
      have := Int.le_of_dvd (by omega) hd1
      omega
    rw [hF, Bool.and_false]

end Go.Proofs.Ytcghjecnbingfaa

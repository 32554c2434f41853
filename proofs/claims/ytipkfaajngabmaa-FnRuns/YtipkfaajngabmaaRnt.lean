/- Runs there and back: numbers alone. -/
import Derived.Test.YtipkfaajngabmaaRnm
namespace Go.Proofs.Ytipkfaajngabmaa
open Go.RowKit

theorem rsum_congr {r r' : Nat → Int} : ∀ {k : Nat}, (∀ j, j < k → r j = r' j) → rsum r k = rsum r' k
  | 0, _ => rfl
  | k + 1, h => by simp only [rsum]; rw [rsum_congr (fun j hj => h j (by omega)), h k (by omega)]
theorem rbit_congr {r r' : Nat → Int} (j : Nat) : ∀ {k : Nat}, (∀ i, i + 1 < k → r i = r' i) → rbit r k j = rbit r' k j
  | 0, _ => rfl
  | k + 1, h => by
    simp only [rbit]
    rw [rsum_congr (r := r) (r' := r') (fun i hi => h i (by omega)), rbit_congr j (fun i hi => h i (by omega))]

/-- what the runs of bits are -/
structure RunsAre (f : Nat → Int) (n : Nat) : Prop where
  sum : rsum (rval f n) (rcnt f n) = n
  pos : ∀ k, k < rcnt f n → 0 ≤ rval f n k ∧ (k = 0 ∨ 1 ≤ rval f n k)
  now : rnow f n = (((rcnt f n - 1) % 2 : Nat) : Int)
  bit : ∀ j, j < n → rbit (rval f n) (rcnt f n) j = f j
theorem runs_are {f : Nat → Int} : ∀ {n : Nat}, bit1 f n → RunsAre f n
  | 0, _ => ⟨by simp [rsum, rcnt, rval], fun k _ => ⟨by simp [rval], .inl (by simp only [rcnt] at *; omega)⟩, by simp [rnow, rcnt], fun j hj => absurd hj (Nat.not_lt_zero _)⟩
  | n + 1, h => by
    have ih := runs_are (n := n) (f := f) (fun k hk => h k (by omega))
    have hc := (rcnt_bd f n).1
    obtain ⟨c, hcc⟩ : ∃ c, rcnt f n = c + 1 := ⟨rcnt f n - 1, by omega⟩
    have hnb := rnow_bit (n := n + 1) h n (by omega)
    by_cases e : f n = rnow f n
    · have hr := rcnt_same e
      have hv := rval_same e
      have hpre : ∀ j, j < c → rval f (n + 1) j = rval f n j := fun j hj => by rw [hv j, if_neg (by omega)]
      have hlast : rval f (n + 1) c = rval f n c + 1 := by rw [hv c, if_pos (by omega)]; rw [show rcnt f n - 1 = c by omega]
      have hs : rsum (rval f (n + 1)) c = rsum (rval f n) c := rsum_congr hpre
      have hsum := ih.sum
      rw [hcc] at hsum
      simp only [rsum] at hsum
      refine ⟨?_, fun k hk => ?_, ?_, fun j hj => ?_⟩
      · rw [hr, hcc]; simp only [rsum]; rw [hs, hlast]; omega
      · rw [hr] at hk
        have := ih.pos k hk
        by_cases ek : k = c
        · subst ek; rw [hlast]; omega
        · rw [hpre k (by omega)]; exact this
      · rw [hr]; show f n = _; rw [e]; exact ih.now
      · rw [hr, rbit_congr j (r' := rval f n) (fun i hi => hpre i (by omega))]
        by_cases ej : j = n
        · subst ej
          rw [hcc, rbit_high (by have := (ih.pos c (by omega)).1; omega), e, ih.now, hcc]
          simp
        · exact ih.bit j (by omega)
    · have hr := rcnt_other e
      have hv := rval_other e
      have hpre : ∀ j, j < rcnt f n → rval f (n + 1) j = rval f n j := fun j hj => by rw [hv j, if_neg (by omega)]
      have hlast : rval f (n + 1) (rcnt f n) = 1 := by rw [hv, if_pos rfl]
      have hs : rsum (rval f (n + 1)) (rcnt f n) = rsum (rval f n) (rcnt f n) := rsum_congr hpre
      have hfn := h n (by omega)
      have hnow := ih.now
      have hfc : f n = ((rcnt f n % 2 : Nat) : Int) := by omega
      refine ⟨?_, fun k hk => ?_, ?_, fun j hj => ?_⟩
      · rw [hr]; simp only [rsum]; rw [hs, hlast, ih.sum]; omega
      · rw [hr] at hk
        by_cases ek : k = rcnt f n
        · subst ek; rw [hlast]; omega
        · rw [hpre k (by omega)]; exact ih.pos k (by omega)
      · rw [hr]; show f n = _; rw [hfc]; simp
      · rw [hr]
        by_cases ej : j = n
        · subst ej
          rw [rbit_high (by rw [hs, ih.sum]; omega)]
          exact hfc.symm
        · rw [rbit_low (by rw [hs, ih.sum]; omega), rbit_congr j (r' := rval f n) (fun i hi => hpre i (by omega))]
          exact ih.bit j (by omega)
theorem rsum_mono {r : Nat → Int} {m : Nat} (h : ∀ k, k < m → 0 ≤ r k) : ∀ k, k ≤ m → rsum r k ≤ rsum r m := by
  intro k hk
  induction m with
  | zero => rw [show k = 0 by omega]; exact Int.le_refl _
  | succ m ih =>
    by_cases e : k = m + 1
    · rw [e]; exact Int.le_refl _
    · have := ih (fun i hi => h i (by omega)) (by omega)
      simp only [rsum]
      have := h m (by omega)
      omega
theorem roks_of {r : Nat → Int} {n : Int} : ∀ {m : Nat}, (∀ k, k < m → rok r n k = true) → roks r n m = true
  | 0, _ => rfl
  | m + 1, h => by simp only [roks, Bool.and_eq_true]; exact ⟨roks_of fun k hk => h k (by omega), h m (by omega)⟩
/-- the runs of bits are right runs -/
theorem runs_right {f : Nat → Int} {n : Nat} (h : bit1 f n) : runB n (rcnt f n) (rval f n) = true := by
  have H := runs_are h
  unfold runB
  rw [Bool.and_eq_true]
  refine ⟨roks_of fun k hk => ?_, decide_eq_true H.sum⟩
  rw [rok_iff]
  have hp := H.pos k hk
  have hm := rsum_mono (fun i hi => (H.pos i hi).1) (k + 1) hk
  rw [H.sum] at hm
  simp only [rsum] at hm
  exact ⟨hp.1, by omega, by omega⟩

end Go.Proofs.Ytipkfaajngabmaa

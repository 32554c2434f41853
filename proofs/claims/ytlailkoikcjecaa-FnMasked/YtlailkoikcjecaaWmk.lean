/- Patients without those of small cells: what is counted of them: the theory. -/
import Derived.Test.YtlailkoikcjecaaWct
namespace Go.Proofs.Ytlailkoikcjecaa
open Go.RowKit

/-- a patient's cell -/
def clK (g : Nat → Int) (k : Nat) : Nat := (8 * g (k * 4 + 1) + g (k * 4 + 2)).toNat
/-- the patients among the first k whose cell has at least l -/
def kpL (g s : Nat → Int) (l : Int) : Nat → List Nat
  | 0 => []
  | k + 1 => if l ≤ s (clK g k) then kpL g s l k ++ [k] else kpL g s l k
/-- patients by their places, cell by cell -/
def tup (g : Nat → Int) : List Nat → List Int
  | [] => []
  | x :: A => [g (x * 4), g (x * 4 + 1), g (x * 4 + 2), g (x * 4 + 3)] ++ tup g A
theorem tup_snoc (g : Nat → Int) (k : Nat) : ∀ A, tup g (A ++ [k]) = tup g A ++ [g (k * 4), g (k * 4 + 1), g (k * 4 + 2), g (k * 4 + 3)]
  | [] => by simp [tup]
  | x :: A => by simp [tup, tup_snoc g k A]
theorem tup_len (g : Nat → Int) : ∀ A, (tup g A).length = A.length * 4
  | [] => rfl
  | x :: A => by simp [tup, tup_len g A]; omega
theorem tup_at (g : Nat → Int) : ∀ (A : List Nat) (j i : Nat), j < A.length → i < 4 → (tup g A).getD (j * 4 + i) 0 = g (A.getD j 0 * 4 + i)
  | x :: A, 0, i, _, hi => by
    have : i = 0 ∨ i = 1 ∨ i = 2 ∨ i = 3 := by omega
    rcases this with rfl | rfl | rfl | rfl <;> simp [tup]
  | x :: A, j + 1, i, hj, hi => by
    have ih := tup_at g A j i (by simpa using hj) hi
    have e : (j + 1) * 4 + i = (j * 4 + i) + 4 := by omega
    rw [e]
    simp only [tup, List.getD_eq_getElem?_getD] at ih ⊢
    rw [List.getElem?_append_right (by simp)]
    simpa using ih
theorem kpL_len (g s : Nat → Int) (l : Int) : ∀ k, (kpL g s l k).length ≤ k
  | 0 => by simp [kpL]
  | k + 1 => by have := kpL_len g s l k; simp only [kpL]; split <;> simp <;> omega
theorem kpL_lt (g s : Nat → Int) (l : Int) : ∀ k, ∀ x ∈ kpL g s l k, x < k
  | 0 => by simp [kpL]
  | k + 1 => by
    intro x hx
    simp only [kpL] at hx
    split at hx
    · rw [List.mem_append, List.mem_singleton] at hx
      rcases hx with h | h
      · have := kpL_lt g s l k x h; omega
      · omega
    · have := kpL_lt g s l k x hx; omega
theorem kpL_inc (g s : Nat → Int) (l : Int) : ∀ k, (kpL g s l k).Pairwise (· < ·)
  | 0 => by simp [kpL]
  | k + 1 => by
    simp only [kpL]
    split
    · rw [List.pairwise_append]
      refine ⟨kpL_inc g s l k, by simp, fun a ha b hb => ?_⟩
      rw [List.mem_singleton] at hb
      subst hb
      exact kpL_lt g s l _ a ha
    · exact kpL_inc g s l k
theorem getD_mem {A : List Nat} {j : Nat} (h : j < A.length) : A.getD j 0 ∈ A := by
  rw [List.getD_eq_getElem?_getD, List.getElem?_eq_getElem h]
  exact List.getElem_mem h
theorem pts_sub {g s : Nat → Int} {l : Int} {n : Nat} (h : ptsB g n = true) : ptsB (fun q => (tup g (kpL g s l n)).getD q 0) (kpL g s l n).length = true := by
  obtain ⟨h1, h2, h3⟩ := ptsB_at h
  have hl := kpL_len g s l n
  have hlt := kpL_lt g s l n
  have hinc := kpL_inc g s l n
  generalize kpL g s l n = A at *
  refine ptsB_ok (by omega) (fun k hk => ?_) (fun i hi j hj => ?_)
  · have := h2 _ (hlt _ (getD_mem hk))
    unfold ptAt at this ⊢
    have e0 := tup_at g A k 0 hk (by omega)
    have e1 := tup_at g A k 1 hk (by omega)
    have e2 := tup_at g A k 2 hk (by omega)
    have e3 := tup_at g A k 3 hk (by omega)
    rw [Nat.add_zero, Nat.add_zero] at e0
    simp only [e0, e1, e2, e3]
    exact this
  · have e0 := tup_at g A i 0 hi (by omega)
    have e1 := tup_at g A j 0 (by omega) (by omega)
    rw [Nat.add_zero, Nat.add_zero] at e0 e1
    simp only [e0, e1]
    have hij : A.getD j 0 < A.getD i 0 := by
      rw [List.pairwise_iff_getElem] at hinc
      have := hinc j i (by omega) hi hj
      rw [List.getD_eq_getElem?_getD, List.getD_eq_getElem?_getD, List.getElem?_eq_getElem hi, List.getElem?_eq_getElem (show j < A.length by omega)]
      exact this
    exact h3 _ (hlt _ (getD_mem hi)) _ hij
theorem clN_congr {g g' : Nat → Int} : ∀ {n : Nat}, (∀ q, q < n * 4 → g q = g' q) → ∀ c, clN g n c = clN g' n c
  | 0, _, _ => rfl
  | n + 1, h, c => by
    simp only [clN]
    rw [clN_congr (n := n) (fun q hq => h q (by omega)) c, h (n * 4 + 1) (by omega), h (n * 4 + 2) (by omega), h (n * 4 + 3) (by omega)]
theorem cl_kp {g s : Nat → Int} {l : Int} {N : Nat} (hp : ∀ k, k < N → ptAt g k = true) (c : Nat) : ∀ k, k ≤ N → clN (fun q => (tup g (kpL g s l k)).getD q 0) (kpL g s l k).length c = if l ≤ s c then clN g k c else 0
  | 0, _ => by simp [kpL, clN]
  | k + 1, hk => by
    have ih := cl_kp (s := s) (l := l) hp c k (by omega)
    obtain ⟨⟨v0, v1⟩, ⟨u0, u1⟩, -⟩ := ptAt_at (hp k (by omega))
    have hck : ((clK g k : Nat) : Int) = 8 * g (k * 4 + 1) + g (k * 4 + 2) := by unfold clK; omega
    by_cases hkeep : l ≤ s (clK g k)
    · have e : kpL g s l (k + 1) = kpL g s l k ++ [k] := by simp only [kpL]; rw [if_pos hkeep]
      rw [e, List.length_append, List.length_singleton, tup_snoc]
      have hlen := tup_len g (kpL g s l k)
      have hpre : ∀ q, q < (kpL g s l k).length * 4 → (tup g (kpL g s l k) ++ [g (k * 4), g (k * 4 + 1), g (k * 4 + 2), g (k * 4 + 3)]).getD q 0 = (tup g (kpL g s l k)).getD q 0 := fun q hq => by
        rw [List.getD_eq_getElem?_getD, List.getElem?_append_left (by omega), ← List.getD_eq_getElem?_getD]
      have hat : ∀ i, i < 4 → (tup g (kpL g s l k) ++ [g (k * 4), g (k * 4 + 1), g (k * 4 + 2), g (k * 4 + 3)]).getD ((kpL g s l k).length * 4 + i) 0 = g (k * 4 + i) := fun i hi => by
        rw [List.getD_eq_getElem?_getD, List.getElem?_append_right (by omega), hlen, Nat.add_sub_cancel_left]
        have : i = 0 ∨ i = 1 ∨ i = 2 ∨ i = 3 := by omega
        rcases this with rfl | rfl | rfl | rfl <;> simp
      simp only [clN]
      rw [clN_congr (n := (kpL g s l k).length) hpre c, ih]
      simp only [hat 1 (by omega), hat 2 (by omega), hat 3 (by omega)]
      by_cases hc : bitB (g (k * 4 + 3)) 2 = true ∧ 8 * g (k * 4 + 1) + g (k * 4 + 2) = (c : Int)
      · have : clK g k = c := by omega
        rw [this] at hkeep
        rw [if_pos hc, if_pos hkeep, if_pos hkeep, if_pos hc]
      · rw [if_neg hc, if_neg hc]
    · have e : kpL g s l (k + 1) = kpL g s l k := by simp only [kpL]; rw [if_neg hkeep]
      rw [e, ih]
      by_cases hs : l ≤ s c
      · rw [if_pos hs, if_pos hs]
        simp only [clN]
        rw [if_neg]
        rintro ⟨-, hc⟩
        have : clK g k = c := by omega
        rw [this] at hkeep
        exact hkeep hs
      · rw [if_neg hs, if_neg hs]
theorem ct_mask {s s' : Nat → Int} {x y l : Int} (hl : 1 ≤ l) (h : ∀ c, s' c = if l ≤ s c then s c else 0) : ∀ k, ctS s' x y l k = ctS s x y l k
  | 0 => rfl
  | k + 1 => by
    simp only [ctS]
    rw [ct_mask hl h k, h k]
    by_cases hs : l ≤ s k
    · rw [if_pos hs]
    · rw [if_neg hs]
      rw [if_neg (fun q => by have := q.2; omega), if_neg (fun q => hs q.2)]
/-- without the patients of small cells the count is the same -/
theorem cn_mask {g : Nat → Int} {n : Nat} {x y l : Int} (h : cnOk g n x y l = true) :
    cnV (fun q => (tup g (kpL g (clN g n) l n)).getD q 0) (kpL g (clN g n) l n).length x y l = cnV g n x y l := by
  have h0 := h
  unfold cnOk at h0
  simp only [Bool.and_eq_true] at h0
  obtain ⟨h1, h2, h3, h4⟩ := h0
  obtain ⟨-, hp, -⟩ := ptsB_at h1
  have hl := (inB_at h4).1
  unfold cnV
  rw [h, if_pos rfl]
  have : cnOk (fun q => (tup g (kpL g (clN g n) l n)).getD q 0) (kpL g (clN g n) l n).length x y l = true := by
    unfold cnOk
    rw [pts_sub h1, h2, h3, h4]; rfl
  rw [this, if_pos rfl]
  exact ct_mask hl (fun c => cl_kp hp c n (Nat.le_refl _)) 64

end Go.Proofs.Ytlailkoikcjecaa

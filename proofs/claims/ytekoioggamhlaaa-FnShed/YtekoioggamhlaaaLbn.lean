/- Labels: numbers. -/
import Derived.Test.YtekoioggamhlaaaVsl
import Derived.Test.YtekoioggamhlaaaUpd
namespace Go.Proofs.Ytekoioggamhlaaa
open Go.RowKit

/-- what is reached from s by steps to what is beside and free -/
inductive Rch (U : Nat → Prop) (nb : Nat → List Int) (s : Nat) : Nat → Prop
  | base : Rch U nb s s
  | step {j m : Nat} : Rch U nb s j → (m : Int) ∈ nb j → U m → Rch U nb s m
theorem Rch.closed {U : Nat → Prop} {nb : Nat → List Int} {s : Nat} {A : List Nat} (hs : s ∈ A) (hc : ∀ j ∈ A, ∀ m : Nat, (m : Int) ∈ nb j → U m → m ∈ A) {j : Nat} (h : Rch U nb s j) : j ∈ A := by
  induction h with
  | base => exact hs
  | step _ hm hu ih => exact hc _ ih _ hm hu
theorem Rch.free {U : Nat → Prop} {nb : Nat → List Int} {s : Nat} (hs : U s) {j : Nat} (h : Rch U nb s j) : U j := by
  cases h with
  | base => exact hs
  | step _ _ hu => exact hu

/-- the places beside -/
def nbs (W H : Int) (besF : Nat → Int) (k : Nat) : List Int := visL W H k besF (fun q => (q : Int)) 4
/-- is it a one without a label -/
def Fre (n : Nat) (f l : Nat → Int) (j : Nat) : Prop := j < n ∧ f j = 1 ∧ l j = 0

open Classical in
/-- the labels when the first k places are through, and how many there are -/
noncomputable def lb (n : Nat) (f : Nat → Int) (nb : Nat → List Int) : Nat → (Nat → Int) × Int
  | 0 => (fun _ => 0, 0)
  | k + 1 => if Fre n f (lb n f nb k).1 k then (fun j => if Rch (Fre n f (lb n f nb k).1) nb k j then (lb n f nb k).2 + 1 else (lb n f nb k).1 j, (lb n f nb k).2 + 1) else lb n f nb k
theorem lb_cnt (n : Nat) (f : Nat → Int) (nb : Nat → List Int) : ∀ k, 0 ≤ (lb n f nb k).2 ∧ (lb n f nb k).2 ≤ k
  | 0 => by simp [lb]
  | k + 1 => by
    have := lb_cnt n f nb k
    unfold lb
    split
    · simp only; omega
    · omega
theorem lb_bd (n : Nat) (f : Nat → Int) (nb : Nat → List Int) : ∀ k j, 0 ≤ (lb n f nb k).1 j ∧ (lb n f nb k).1 j ≤ k
  | 0, j => by simp [lb]
  | k + 1, j => by
    have h1 := lb_bd n f nb k j
    have h2 := lb_cnt n f nb k
    unfold lb
    split
    · simp only
      split <;> omega
    · omega
theorem lb_zero (n : Nat) (f : Nat → Int) (nb : Nat → List Int) : ∀ k j, ¬ f j = 1 → (lb n f nb k).1 j = 0
  | 0, j, _ => rfl
  | k + 1, j, h => by
    have h1 := lb_zero n f nb k j h
    unfold lb
    split
    · next hk =>
      simp only
      rw [if_neg (fun hr => h (hr.free hk).2.1)]
      exact h1
    · exact h1
theorem lb_keep (n : Nat) (f : Nat → Int) (nb : Nat → List Int) : ∀ k j, (lb n f nb k).1 j ≠ 0 → (lb n f nb (k + 1)).1 j ≠ 0 := by
  intro k j h
  have h2 := lb_cnt n f nb k
  rw [lb]
  split
  · simp only
    split
    · omega
    · exact h
  · exact h
theorem lb_done (n : Nat) (f : Nat → Int) (nb : Nat → List Int) : ∀ k j, j < k → j < n → f j = 1 → (lb n f nb k).1 j ≠ 0
  | k + 1, j, hj, hn, hf => by
    by_cases e : j = k
    · subst e
      have h2 := lb_cnt n f nb j
      rw [lb]
      split
      · simp only
        rw [if_pos Rch.base]
        omega
      · next hk => exact fun e => hk ⟨hn, hf, e⟩
    · exact lb_keep n f nb k j (lb_done n f nb k j (by omega) hn hf)
open Classical in
/-- with what is in A labelled -/
noncomputable def lbA (l : Nat → Int) (c : Int) (A : List Nat) (j : Nat) : Int := if j ∈ A then c else l j
open Classical in
theorem lb_flood {n : Nat} {f : Nat → Int} {nb : Nat → List Int} {k : Nat} {A : List Nat} (hk : Fre n f (lb n f nb k).1 k) (h1 : ∀ j ∈ A, Rch (Fre n f (lb n f nb k).1) nb k j) (h0 : k ∈ A)
    (hc : ∀ j ∈ A, ∀ m : Nat, (m : Int) ∈ nb j → Fre n f (lb n f nb k).1 m → m ∈ A) : (lb n f nb (k + 1)).1 = lbA (lb n f nb k).1 ((lb n f nb k).2 + 1) A ∧ (lb n f nb (k + 1)).2 = (lb n f nb k).2 + 1 := by
  rw [lb, if_pos hk]
  refine ⟨?_, rfl⟩
  funext j
  unfold lbA
  simp only
  by_cases hj : j ∈ A
  · rw [if_pos (h1 j hj), if_pos hj]
  · rw [if_neg (fun hr => hj (hr.closed h0 hc)), if_neg hj]
theorem lb_pass {n : Nat} {f : Nat → Int} {nb : Nat → List Int} {k : Nat} (hk : ¬ Fre n f (lb n f nb k).1 k) : lb n f nb (k + 1) = lb n f nb k := by
  rw [lb, if_neg hk]
theorem len_le_of_nodup {A : List Nat} {n : Nat} (h : A.Nodup) (hb : ∀ j ∈ A, j < n) : A.length ≤ n := by
  have := List.Nodup.length_le_of_subset h (l₂ := List.range n) (fun j hj => List.mem_range.2 (hb j hj))
  simpa using this
theorem lbA_nil (l : Nat → Int) (c : Int) : lbA l c [] = l := by funext j; simp [lbA]
theorem lbA_snoc (l : Nat → Int) (c : Int) (A : List Nat) (q : Nat) : updN (lbA l c A) q c = lbA l c (A ++ [q]) := by
  funext j
  unfold updN lbA
  by_cases h : j = q
  · subst h; simp
  · simp [h]

end Go.Proofs.Ytekoioggamhlaaa

/- The ward in numbers: flags, people, patients, who may see. -/
import Derived.Test.YtlailkoikcjecaaIls
namespace Go.Proofs.Ytlailkoikcjecaa
open Go.RowKit

/-- is a flag, a power of two, in a sum of flags -/
def bitB (n b : Int) : Bool := decide (n / b % 2 = 1)
/-- is it a person, a patient -/
def psB (i r d : Int) : Bool := inB i 0 1000000 && (inB r 0 7 && inB d 0 7)
def ptB (i d g c : Int) : Bool := inB i 0 1000000 && (inB d 0 7 && (inB g 0 7 && inB c 0 3))
theorem inB_iff (n lo hi : Int) : inB n lo hi = true ↔ lo ≤ n ∧ n ≤ hi := by unfold inB; simp
theorem psB_at {i r d : Int} (h : psB i r d = true) : (0 ≤ i ∧ i ≤ 1000000) ∧ (0 ≤ r ∧ r ≤ 7) ∧ (0 ≤ d ∧ d ≤ 7) := by
  unfold psB at h
  simp only [Bool.and_eq_true, inB_iff] at h
  exact h
theorem ptB_at {i d g c : Int} (h : ptB i d g c = true) : (0 ≤ i ∧ i ≤ 1000000) ∧ (0 ≤ d ∧ d ≤ 7) ∧ (0 ≤ g ∧ g ≤ 7) ∧ (0 ≤ c ∧ c ≤ 3) := by
  unfold ptB at h
  simp only [Bool.and_eq_true, inB_iff] at h
  exact h
/-- may a person see -/
def mayV (i r d j e g c k : Int) (b : Bool) : Int :=
  if (psB i r d && (ptB j e g c && inB k 1 3)) = false then 0
  else if bitB r 1 = true ∧ d = e then 1
  else if bitB r 1 = true ∧ b = true ∧ k ≠ 3 then 2
  else if bitB r 2 = true ∧ k = 1 ∧ bitB c 1 = true then 1
  else if bitB r 4 = true ∧ k = 3 ∧ bitB c 2 = true then 1
  else 0

end Go.Proofs.Ytlailkoikcjecaa

/- The specification's packed tones. -/
import Derived.Test.YtebcclmilplfcaaPks
namespace Go.Proofs.Ytebcclmilplfcaa
open Go.RowKit

/-- when tones can't be packed -/
theorem pk_no {f : Nat → Int} {n : Nat} {m : Int} (h : pkB f n m = false) (w w' : World) (a : Option Addr) (cap : Nat) (hb : Below w.heap.size w w') : LsU (pkN f n m) (pkS f n m) w (.returned (.slice a 0 cap)) w' := by
  have h0 : pkN f n m = 0 := by unfold pkN; rw [if_neg (by rw [h]; decide)]
  rw [h0]
  exact ⟨a, cap, 0, rfl, .inl rfl, .inl rfl, hb⟩
theorem pkB_tones {f : Nat → Int} {n : Nat} {m : Int} (h : pkB f n m = true) : (decide (n ≤ 65536) && allG (fun k => inB (f k) 0 65535) n) = true ∧ inB m 1 16 = true := by
  simp only [pkB, Bool.and_eq_true, decide_eq_true_eq] at h
  refine ⟨?_, h.1.2⟩
  have hm : m.toNat ≤ 16 := by have := h.1.2; simp only [inB, Bool.and_eq_true, decide_eq_true_eq] at this; omega
  have hp : (2 : Int) ^ m.toNat ≤ 2 ^ 16 := by exact_mod_cast Nat.pow_le_pow_right (by decide) hm
  simp only [Bool.and_eq_true, decide_eq_true_eq]
  refine ⟨h.1.1, allG_of fun k hk => ?_⟩
  have := allG_at h.2 k hk
  simp only [inB, Bool.and_eq_true, decide_eq_true_eq] at this ⊢
  omega

end Go.Proofs.Ytebcclmilplfcaa

/- Weights of an image: numbers, the specification and the program. -/
import Derived.Test.YtkjaemnnjfflfaaHom
import Derived.BigQuiet
namespace Go.Proofs.Ytkjaemnnjfflfaa
open Go.RowKit

def wgA (f : Nat → Int) : Nat → Int
  | 0 => 0
  | k + 1 => wgA f k + f k
def wgX (W : Int) (f : Nat → Int) : Nat → Int
  | 0 => 0
  | k + 1 => wgX W f k + (k : Int) % W * f k
def wgY (W : Int) (f : Nat → Int) : Nat → Int
  | 0 => 0
  | k + 1 => wgY W f k + (k : Int) / W * f k
theorem mul64 {p v : Int} (h0 : 0 ≤ p) (h1 : p ≤ 4096) (h2 : -1000000000 ≤ v) (h3 : v ≤ 1000000000) : -4096000000000 ≤ p * v ∧ p * v ≤ 4096000000000 := by
  have a := Int.mul_nonneg h0 (show 0 ≤ 1000000000 - v by omega)
  have b := Int.mul_nonneg h0 (show 0 ≤ 1000000000 + v by omega)
  rw [Int.mul_sub] at a
  rw [Int.mul_add] at b
  omega
theorem allB_at' {f : Nat → Int} : ∀ {n : Nat}, allB f n = true → ∀ k, k < n → -1000000000 ≤ f k ∧ f k ≤ 1000000000
  | n + 1, h, k, hk => by
    unfold allB at h
    rw [Bool.and_eq_true] at h
    by_cases e : k = n
    · subst e
      have := h.2
      unfold inB at this
      simpa using this
    · exact allB_at' h.1 k (by omega)
structure WgB (W : Int) (f : Nat → Int) (k : Nat) : Prop where
  a : -(1000000000 * (k : Int)) ≤ wgA f k ∧ wgA f k ≤ 1000000000 * (k : Int)
  x : -(4096000000000 * (k : Int)) ≤ wgX W f k ∧ wgX W f k ≤ 4096000000000 * (k : Int)
  y : -(4096000000000 * (k : Int)) ≤ wgY W f k ∧ wgY W f k ≤ 4096000000000 * (k : Int)
theorem wg_part {W : Int} (hW : 1 ≤ W ∧ W ≤ 64) {k : Nat} (hk : k < 4096) : (0 ≤ (k : Int) % W ∧ (k : Int) % W ≤ 4096) ∧ (0 ≤ (k : Int) / W ∧ (k : Int) / W ≤ 4096) := by
  have a0 := Int.emod_nonneg (k : Int) (show W ≠ 0 by omega)
  have a1 := Int.emod_lt_of_pos (k : Int) (show 0 < W by omega)
  have c0 : 0 ≤ (k : Int) / W := Int.ediv_nonneg (by omega) (by omega)
  have c1 : (k : Int) / W ≤ (k : Int) := Int.ediv_le_self W (by omega)
  omega
theorem wgB {W : Int} {f : Nat → Int} {n : Nat} (hW : 1 ≤ W ∧ W ≤ 64) (hn : n ≤ 4096) (h : ∀ k, k < n → -1000000000 ≤ f k ∧ f k ≤ 1000000000) : ∀ k, k ≤ n → WgB W f k
  | 0, _ => ⟨by simp [wgA], by simp [wgX], by simp [wgY]⟩
  | k + 1, hk => by
    obtain ⟨a, x, y⟩ := wgB hW hn h k (by omega)
    obtain ⟨p, q⟩ := wg_part hW (k := k) (by omega)
    have hf := h k (by omega)
    have m1 := mul64 p.1 p.2 hf.1 hf.2
    have m2 := mul64 q.1 q.2 hf.1 hf.2
    refine ⟨?_, ?_, ?_⟩
    · unfold wgA; omega
    · unfold wgX; omega
    · unfold wgY; omega

/-- what is told -/
def wgI (W H : Int) (n : Nat) (f : Nat → Int) (v : Int) : Int := if okB W H n f = true then v else 0

theorem wgOk {W H : Int} {n : Nat} {f : Nat → Int} (h : okB W H n f = true) : (1 ≤ W ∧ W ≤ 64) ∧ (1 ≤ H ∧ H ≤ 64) ∧ (n : Int) = W * H ∧ n ≤ 4096 ∧ allB f n = true := by
  unfold okB at h
  rw [Bool.and_eq_true, Bool.and_eq_true, Bool.and_eq_true] at h
  obtain ⟨⟨⟨h1, h2⟩, h3⟩, h4⟩ := h
  have e := of_decide_eq_true h3
  have p := prod_bounds h1 h2
  exact ⟨side_bounds h1, side_bounds h2, e, by omega, h4⟩

end Go.Proofs.Ytkjaemnnjfflfaa

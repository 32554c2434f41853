/- What counts of cells add up to: the theory. -/
import Derived.Test.YtlailkoikcjecaaWdk
namespace Go.Proofs.Ytlailkoikcjecaa
open Go.RowKit

set_option maxRecDepth 100000 in
theorem bit_co' : ∀ n : Fin 256, ∀ k : Fin 8, bitB (255 - (n.val : Int)) (((2 ^ k.val : Nat)) : Int) = !bitB (n.val : Int) (((2 ^ k.val : Nat)) : Int) := by decide +kernel
theorem bit_co {x : Int} (h0 : 0 ≤ x) (h1 : x ≤ 255) {k : Nat} (hk : k < 8) : bitB (255 - x) (2 ^ k) = !bitB x (2 ^ k) := by
  have := bit_co' ⟨x.toNat, by omega⟩ ⟨k, hk⟩
  simp only [show ((x.toNat : Nat) : Int) = x by omega] at this
  have e : (((2 ^ k : Nat)) : Int) = 2 ^ k := by simp
  rw [e] at this
  exact this
set_option maxRecDepth 100000 in
theorem bit_all' : ∀ k : Fin 8, bitB 255 (((2 ^ k.val : Nat)) : Int) = true := by decide +kernel
theorem bit_all {k : Nat} (hk : k < 8) : bitB 255 (2 ^ k) = true := by
  have := bit_all' ⟨k, hk⟩
  have e : (((2 ^ k : Nat)) : Int) = 2 ^ k := by simp
  rw [e] at this
  exact this
theorem ask_co {x y : Int} (h0 : 0 ≤ x) (h1 : x ≤ 255) {c : Nat} (hc : c < 64) : (askB x y c = true ∧ askB (255 - x) y c = false ∧ askB 255 y c = true) ∨ (askB x y c = false ∧ askB (255 - x) y c = true ∧ askB 255 y c = true) ∨ (askB x y c = false ∧ askB (255 - x) y c = false ∧ askB 255 y c = false) := by
  unfold askB
  rw [bit_co h0 h1 (k := c / 8) (by omega), bit_all (k := c / 8) (by omega)]
  cases bitB x (2 ^ (c / 8)) <;> cases bitB y (2 ^ (c % 8)) <;> simp
theorem ct_add {s : Nat → Int} {x y l : Int} (h0 : 0 ≤ x) (h1 : x ≤ 255) : ∀ k, k ≤ 64 → ctS s x y l k + ctS s (255 - x) y l k = ctS s 255 y l k
  | 0, _ => by simp [ctS]
  | k + 1, hk => by
    have ih := ct_add (s := s) (y := y) (l := l) h0 h1 k (by omega)
    simp only [ctS]
    rcases ask_co (y := y) h0 h1 (c := k) (by omega) with ⟨e1, e2, e3⟩ | ⟨e1, e2, e3⟩ | ⟨e1, e2, e3⟩ <;> rw [e1, e2, e3] <;> by_cases hl : l ≤ s k <;> simp [hl] <;> omega
theorem ct_ge {s : Nat → Int} (hs : ∀ c, 0 ≤ s c) {x y l : Int} (hl : 1 ≤ l) : ∀ k, ctS s x y l k = 0 ∨ l ≤ ctS s x y l k
  | 0 => .inl rfl
  | k + 1 => by
    have ih := ct_ge hs (x := x) (y := y) hl k
    have := hs k
    simp only [ctS]
    split
    · rename_i h; right; rcases ih with e | e <;> omega
    · exact ih
/-- the sum of the first k cells -/
def smC (s : Nat → Int) : Nat → Int
  | 0 => 0
  | k + 1 => smC s k + s k
theorem ct_all {s : Nat → Int} (hs : ∀ c, 0 ≤ s c) : ∀ k, k ≤ 64 → ctS s 255 255 1 k = smC s k
  | 0, _ => rfl
  | k + 1, hk => by
    have ih := ct_all hs k (by omega)
    have h0 := hs k
    have e : askB 255 255 k = true := by unfold askB; rw [bit_all (k := k / 8) (by omega), bit_all (k := k % 8) (by omega)]; rfl
    simp only [ctS, smC]
    rw [e]
    by_cases h : 1 ≤ s k
    · rw [if_pos ⟨rfl, h⟩, ih]
    · rw [if_neg (fun q => h q.2), ih]; omega
theorem smC_upd (s : Nat → Int) (V : Nat) (z : Int) : ∀ k, smC (updN s V z) k = smC s k + (if V < k then z - s V else 0)
  | 0 => by simp [smC]
  | k + 1 => by
    have ih := smC_upd s V z k
    simp only [smC]
    rw [ih]
    unfold updN
    by_cases e : k = V
    · subst e; rw [if_pos rfl, if_neg (by omega), if_pos (by omega)]; omega
    · rw [if_neg e]
      by_cases h : V < k
      · rw [if_pos h, if_pos (by omega)]; omega
      · rw [if_neg h, if_neg (by omega)]; omega
/-- how many of the first k patients are counted -/
def cnC (g : Nat → Int) : Nat → Int
  | 0 => 0
  | k + 1 => if 2 ≤ g (k * 4 + 3) then cnC g k + 1 else cnC g k
theorem cnC_bd (g : Nat → Int) : ∀ k, 0 ≤ cnC g k ∧ cnC g k ≤ k
  | 0 => by simp [cnC]
  | k + 1 => by have := cnC_bd g k; simp only [cnC]; split <;> omega
theorem bit_two {c : Int} (h0 : 0 ≤ c) (h1 : c ≤ 3) : bitB c 2 = decide (2 ≤ c) := by
  have : c = 0 ∨ c = 1 ∨ c = 2 ∨ c = 3 := by omega
  rcases this with rfl | rfl | rfl | rfl <;> decide
theorem sm_cells {g : Nat → Int} : ∀ n, (∀ k, k < n → ptAt g k = true) → smC (clN g n) 64 = cnC g n
  | 0, _ => by
    have : ∀ k, smC (clN g 0) k = 0 := fun k => by
      induction k with
      | zero => rfl
      | succ k ih => show smC (clN g 0) k + 0 = 0; rw [ih]; rfl
    exact this 64
  | n + 1, h => by
    have ih := sm_cells n (fun k hk => h k (by omega))
    obtain ⟨⟨v0, v1⟩, ⟨u0, u1⟩, ⟨t0, t1⟩⟩ := ptAt_at (h n (by omega))
    have hb := bit_two t0 t1
    simp only [cnC]
    by_cases hc : 2 ≤ g (n * 4 + 3)
    · rw [decide_eq_true hc] at hb
      obtain ⟨V, hV⟩ : ∃ V : Nat, 8 * g (n * 4 + 1) + g (n * 4 + 2) = (V : Int) := ⟨(8 * g (n * 4 + 1) + g (n * 4 + 2)).toNat, by omega⟩
      rw [← clN_step g n V hb hV, smC_upd, if_pos (by omega), ih, if_pos hc]
      omega
    · rw [decide_eq_false hc] at hb
      rw [← clN_skip g n hb, ih, if_neg hc]

end Go.Proofs.Ytlailkoikcjecaa

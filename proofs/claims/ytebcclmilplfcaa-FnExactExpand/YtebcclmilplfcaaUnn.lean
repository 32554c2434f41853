/- Tones out of bits: numbers alone. -/
import Derived.Test.YtebcclmilplfcaaPkn
namespace Go.Proofs.Ytebcclmilplfcaa
open Go.RowKit

/-- bits as a number -/
def sm (β : Nat → Int) : Nat → Int
  | 0 => 0
  | m + 1 => sm β m + β m * 2 ^ m
def isB (β : Nat → Int) : Prop := ∀ k, β k = 0 ∨ β k = 1
theorem bitv_sm (L : List Int) (o : Nat) : ∀ m, bitv L o m = sm (fun i => L.getD (o + i) 0) m
  | 0 => rfl
  | m + 1 => by simp only [bitv, sm]; rw [bitv_sm L o m]
theorem sm_bd {β : Nat → Int} (h : isB β) : ∀ m, 0 ≤ sm β m ∧ sm β m < 2 ^ m
  | 0 => ⟨Int.le_refl 0, by simp [sm]⟩
  | m + 1 => by
    have := sm_bd h m
    have hp := pow_pos2 m
    simp only [sm]
    rw [Int.pow_succ]
    rcases h m with e | e <;> rw [e] <;> omega
theorem sm_congr {β γ : Nat → Int} : ∀ {m : Nat}, (∀ k, k < m → β k = γ k) → sm β m = sm γ m
  | 0, _ => rfl
  | m + 1, h => by simp only [sm]; rw [sm_congr (fun k hk => h k (by omega)), h m (by omega)]
/-- a bit of bits -/
theorem sm_bit {β : Nat → Int} (h : isB β) : ∀ (m k : Nat), k < m → sm β m / 2 ^ k % 2 = β k
  | m + 1, k, hk => by
    simp only [sm]
    by_cases e : k = m
    · subst e
      have := sm_bd h k
      have hp := pow_pos2 k
      rw [Int.add_mul_ediv_right _ _ (by omega), Int.ediv_eq_zero_of_lt this.1 this.2]
      rcases h k with e | e <;> rw [e] <;> decide
    · have e2 : (2 : Int) ^ m = 2 ^ k * (2 * 2 ^ (m - k - 1)) := by
        rw [← Int.mul_assoc, ← Int.pow_succ, ← Int.pow_add]
        congr 1; omega
      have hp := pow_pos2 k
      have e3 : sm β m + β m * 2 ^ m = sm β m + 2 ^ k * (2 * (β m * 2 ^ (m - k - 1))) := by
        rw [e2]; congr 1
        rw [Int.mul_left_comm, Int.mul_left_comm (β m) 2]
      rw [e3, Int.add_mul_ediv_left _ _ (by omega), Int.add_mul_emod_self_left]
      exact sm_bit h m k (by omega)
theorem sm_inj {β γ : Nat → Int} (hb : isB β) (hg : isB γ) {m : Nat} (h : sm β m = sm γ m) (k : Nat) (hk : k < m) : β k = γ k := by
  rw [← sm_bit hb m k hk, ← sm_bit hg m k hk, h]
theorem isB_of (x : Int) : isB (fun k => x / 2 ^ k % 2) := fun k => bit_01 x k
/-- a number out of its own bits -/
theorem sm_of : ∀ (m : Nat) (x : Int), 0 ≤ x → x < 2 ^ m → sm (fun k => x / 2 ^ k % 2) m = x
  | 0, x, h0, h1 => by simp at h1; simp only [sm]; omega
  | m + 1, x, h0, h1 => by
    have hp := pow_pos2 m
    rw [Int.pow_succ] at h1
    have hd : x / 2 ^ m < 2 := Int.ediv_lt_of_lt_mul hp (by rw [Int.mul_comm]; exact h1)
    have hd0 : 0 ≤ x / 2 ^ m := Int.ediv_nonneg h0 (by omega)
    have hq := Int.emod_add_mul_ediv x (2 ^ m)
    have hr0 := Int.emod_nonneg x (show (2 : Int) ^ m ≠ 0 by omega)
    have hr1 := Int.emod_lt_of_pos x hp
    have ih := sm_of m (x % 2 ^ m) hr0 hr1
    simp only [sm]
    have e : sm (fun k => x / 2 ^ k % 2) m = sm (fun k => x % 2 ^ m / 2 ^ k % 2) m := by
      refine sm_congr fun k hk => ?_
      show x / 2 ^ k % 2 = x % 2 ^ m / 2 ^ k % 2
      have e2 : (2 : Int) ^ m = 2 ^ k * (2 * 2 ^ (m - k - 1)) := by
        rw [← Int.mul_assoc, ← Int.pow_succ, ← Int.pow_add]
        congr 1; omega
      have hpk := pow_pos2 k
      have : x / 2 ^ k = (x % 2 ^ m + 2 ^ k * (2 * (2 ^ (m - k - 1) * (x / 2 ^ m)))) / 2 ^ k := by
        congr 1
        rw [← Int.mul_assoc, ← Int.mul_assoc, Int.mul_assoc (2 ^ k), ← e2]
        exact hq.symm
      rw [this, Int.add_mul_ediv_left _ _ (by omega), Int.add_mul_emod_self_left]
    rw [e, ih]
    have : x / 2 ^ m % 2 = x / 2 ^ m := Int.emod_eq_of_lt hd0 hd
    rw [this, Int.mul_comm]
    exact hq

/-- bit number i of bytes -/
def bitU (g : Nat → Int) (i : Nat) : Int := g (i / 8) / 2 ^ (i % 8) % 2
theorem bitU_01 (g : Nat → Int) (i : Nat) : bitU g i = 0 ∨ bitU g i = 1 := bit_01 _ _
/-- the same, noughts behind the last one -/
def bitE (g : Nat → Int) (N i : Nat) : Int := if i < 8 * N then bitU g i else 0
theorem bitE_01 (g : Nat → Int) (N i : Nat) : bitE g N i = 0 ∨ bitE g N i = 1 := by
  unfold bitE; split
  · exact bitU_01 g i
  · exact .inl rfl
/-- m bits from place o on -/
def uvE (g : Nat → Int) (N o m : Nat) : Int := sm (fun k => bitE g N (o + k)) m
theorem uvE_bd (g : Nat → Int) (N o m : Nat) : 0 ≤ uvE g N o m ∧ uvE g N o m < 2 ^ m := sm_bd (fun _ => bitE_01 g N _) m
/-- the tones in bytes -/
def unT (g : Nat → Int) (N m : Nat) : Nat → Int := fun i => uvE g N (i * m) m

theorem tlB_at (f : Nat → Int) (m : Nat) : ∀ (n i k : Nat), i < n → k < m → (tlB f m n).getD (i * m + k) 0 = f i / 2 ^ k % 2
  | n + 1, i, k, hi, hk => by
    simp only [tlB]
    rw [getD_cat, tlB_len]
    by_cases e : i = n
    · subst e
      rw [if_neg (by omega), show i * m + k - i * m = k by omega]
      exact fl_at _ m k hk
    · have : (i + 1) * m ≤ n * m := Nat.mul_le_mul_right m (by omega)
      rw [Nat.add_mul] at this
      rw [if_pos (by omega)]
      exact tlB_at f m n i k (by omega) hk
theorem tlB_unT (g : Nat → Int) (N m n : Nat) (hm : 0 < m) (hN : n * m ≤ 8 * N) (p : Nat) : (tlB (unT g N m) m n).getD p 0 = if p < n * m then bitU g p else 0 := by
  by_cases h : p < n * m
  · rw [if_pos h]
    have h1 : p / m < n := Nat.div_lt_of_lt_mul (by rw [Nat.mul_comm]; exact h)
    have h2 : p % m < m := Nat.mod_lt _ hm
    have e : p / m * m + p % m = p := by rw [Nat.mul_comm]; exact Nat.div_add_mod p m
    have := tlB_at (unT g N m) m n (p / m) (p % m) h1 h2
    rw [e] at this
    rw [this]
    show sm (fun k => bitE g N (p / m * m + k)) m / 2 ^ (p % m) % 2 = bitU g p
    rw [sm_bit (fun _ => bitE_01 g N _) m _ h2, e]
    unfold bitE
    rw [if_pos (by omega)]
  · rw [if_neg h]
    exact getD_far (by rw [tlB_len]; omega)
/-- bytes are those of the tones in them just if no bit is left over -/
theorem unpk_iff (g : Nat → Int) (N m n : Nat) (hm : 0 < m) (hN : n * m ≤ 8 * N) (hg : ∀ j, j < N → 0 ≤ g j ∧ g j ≤ 255) :
    (∀ j, j < N → byA (tlB (unT g N m) m n) j = g j) ↔ ∀ i, n * m ≤ i → i < 8 * N → bitU g i = 0 := by
  have key : ∀ j, j < N → (byA (tlB (unT g N m) m n) j = g j ↔ ∀ t, t < 8 → n * m ≤ 8 * j + t → bitU g (8 * j + t) = 0) := by
    intro j hj
    have hgj := hg j hj
    have e1 : byA (tlB (unT g N m) m n) j = sm (fun t => if 8 * j + t < n * m then bitU g (8 * j + t) else 0) 8 := by
      unfold byA
      rw [bitv_sm]
      exact sm_congr fun k _ => tlB_unT g N m n hm hN (8 * j + k)
    have e2 : g j = sm (fun t => bitU g (8 * j + t)) 8 := by
      rw [← sm_of 8 (g j) hgj.1 (by omega)]
      refine sm_congr fun t ht => ?_
      show g j / 2 ^ t % 2 = bitU g (8 * j + t)
      unfold bitU
      rw [show (8 * j + t) / 8 = j by omega, show (8 * j + t) % 8 = t by omega]
    have b1 : isB (fun t => if 8 * j + t < n * m then bitU g (8 * j + t) else 0) := fun t => by
      show (if 8 * j + t < n * m then bitU g (8 * j + t) else 0) = (0 : Int) ∨ (if 8 * j + t < n * m then bitU g (8 * j + t) else 0) = (1 : Int)
      by_cases hlt : 8 * j + t < n * m
      · rw [if_pos hlt]; exact bitU_01 g _
      · rw [if_neg hlt]; exact .inl rfl
    have b2 : isB (fun t => bitU g (8 * j + t)) := fun t => bitU_01 g _
    rw [e1]
    constructor
    · intro h t ht hle
      have h' := h.trans e2
      have : (if 8 * j + t < n * m then bitU g (8 * j + t) else 0) = bitU g (8 * j + t) := sm_inj b1 b2 h' t ht
      rw [if_neg (by omega)] at this
      exact this.symm
    · intro h
      refine Eq.trans ?_ e2.symm
      refine sm_congr fun t ht => ?_
      by_cases hlt : 8 * j + t < n * m
      · rw [if_pos hlt]
      · rw [if_neg hlt, h t ht (by omega)]
  constructor
  · intro h i hi hiN
    have := (key (i / 8) (by omega)).1 (h _ (by omega)) (i % 8) (by omega) (by omega)
    rw [show 8 * (i / 8) + i % 8 = i by omega] at this
    exact this
  · intro h j hj
    exact (key j hj).2 fun t ht hle => h _ hle (by omega)

/-- are bits from place o on noughts -/
def padB (g : Nat → Int) (o : Nat) (c : Nat) : Bool := allG (fun k => decide (bitU g (o + k) = 0)) c
/-- are there tones of which these bytes are made -/
def unB (g : Nat → Int) (N : Nat) (n m : Int) : Bool := inB n 0 65536 && inB m 1 16 && decide (N = nB (n.toNat * m.toNat)) && padB g (n.toNat * m.toNat) (8 * N - n.toNat * m.toNat)
def unN (g : Nat → Int) (N : Nat) (n m : Int) : Nat := if unB g N n m = true then n.toNat else 0
def unS (g : Nat → Int) (N : Nat) (m : Int) : Nat → Int := unT g N m.toNat
theorem unN_le (g : Nat → Int) (N : Nat) (n m : Int) : unN g N n m ≤ 1048576 := by
  unfold unN
  split
  case isTrue h =>
    simp only [unB, inB, Bool.and_eq_true, decide_eq_true_eq] at h
    omega
  case isFalse => omega

end Go.Proofs.Ytebcclmilplfcaa

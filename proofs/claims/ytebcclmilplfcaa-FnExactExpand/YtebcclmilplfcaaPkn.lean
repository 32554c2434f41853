/- Bits one behind the other, and the bytes that they are: numbers alone. -/
import Derived.Test.YtebcclmilplfcaaBym
import Derived.Laws.Bits128
namespace Go.Proofs.Ytebcclmilplfcaa
open Go.RowKit

/-- m bits of a list from place o on, as a number -/
def bitv (L : List Int) (o : Nat) : Nat → Int
  | 0 => 0
  | m + 1 => bitv L o m + L.getD (o + m) 0 * 2 ^ m
/-- byte number j of bits -/
def byA (L : List Int) (j : Nat) : Int := bitv L (8 * j) 8
/-- how many bytes so many bits have -/
def nB (n : Nat) : Nat := (n + 7) / 8
def isBits (L : List Int) : Prop := ∀ k, L.getD k 0 = 0 ∨ L.getD k 0 = 1
theorem isBits_nil : isBits [] := fun k => .inl (by simp)
theorem getD_snoc (L : List Int) (b : Int) (k : Nat) : (L ++ [b]).getD k 0 = if k = L.length then b else L.getD k 0 := by
  simp only [List.getD_eq_getElem?_getD]
  by_cases h : k < L.length
  · rw [List.getElem?_append_left h, if_neg (by omega)]
  · rw [List.getElem?_append_right (by omega)]
    by_cases e : k = L.length
    · subst e; simp
    · rw [if_neg e, List.getElem?_eq_none (l := L) (by omega), List.getElem?_eq_none (by simp; omega)]
theorem isBits.snoc {L : List Int} (h : isBits L) {b : Int} (hb : b = 0 ∨ b = 1) : isBits (L ++ [b]) := fun k => by
  rw [getD_snoc]
  split
  · exact hb
  · exact h k
theorem getD_cat (L M : List Int) (k : Nat) : (L ++ M).getD k 0 = if k < L.length then L.getD k 0 else M.getD (k - L.length) 0 := by
  simp only [List.getD_eq_getElem?_getD]
  by_cases h : k < L.length
  · rw [List.getElem?_append_left h, if_pos h]
  · rw [List.getElem?_append_right (by omega), if_neg h]
theorem isBits.cat {L M : List Int} (h : isBits L) (hm : isBits M) : isBits (L ++ M) := fun k => by
  rw [getD_cat]
  split
  · exact h k
  · exact hm _
theorem getD_far {L : List Int} {k : Nat} (h : L.length ≤ k) : L.getD k 0 = 0 := by
  rw [List.getD_eq_getElem?_getD, List.getElem?_eq_none h]; rfl
theorem pow_pos2 (m : Nat) : (0 : Int) < 2 ^ m := Int.pow_pos (by decide)
theorem bitv_bd {L : List Int} (h : isBits L) (o : Nat) : ∀ m, 0 ≤ bitv L o m ∧ bitv L o m < 2 ^ m
  | 0 => ⟨Int.le_refl 0, by simp [bitv]⟩
  | m + 1 => by
    have := bitv_bd h o m
    have hp := pow_pos2 m
    simp only [bitv]
    rw [Int.pow_succ]
    rcases h (o + m) with e | e <;> rw [e] <;> omega
theorem bitv_snoc (L : List Int) (b : Int) (o : Nat) : ∀ m, bitv (L ++ [b]) o m = bitv L o m + (if o ≤ L.length ∧ L.length < o + m then b * 2 ^ (L.length - o) else 0)
  | 0 => by simp only [bitv]; rw [if_neg (by omega)]; rfl
  | m + 1 => by
    simp only [bitv]
    rw [bitv_snoc L b o m, getD_snoc]
    by_cases e : o + m = L.length
    · rw [if_neg (by omega), if_pos e, if_pos (by omega), getD_far (L := L) (by omega), ← e]
      rw [show o + m - o = m by omega]
      simp
    · rw [if_neg e]
      by_cases g : o ≤ L.length ∧ L.length < o + m
      · rw [if_pos g, if_pos (by omega)]; omega
      · rw [if_neg g, if_neg (by omega)]; omega
theorem bitv_cut (L : List Int) (o t : Nat) (h : ∀ i, t ≤ i → L.getD (o + i) 0 = 0) : ∀ m, t ≤ m → bitv L o m = bitv L o t
  | 0, hm => by rw [show t = 0 by omega]
  | m + 1, hm => by
    by_cases e : t = m + 1
    · rw [e]
    · simp only [bitv]
      rw [h m (by omega), bitv_cut L o t h m (by omega)]
      omega
theorem byA_far {L : List Int} {j : Nat} (h : L.length ≤ 8 * j) : byA L j = 0 := by
  unfold byA
  rw [bitv_cut L (8 * j) 0 (fun i _ => getD_far (by omega)) 8 (by omega)]
  rfl
theorem byA_bd {L : List Int} (h : isBits L) (j : Nat) : 0 ≤ byA L j ∧ byA L j ≤ 255 := by
  have := bitv_bd h (8 * j) 8
  unfold byA
  omega
theorem byA_low {L : List Int} (h : isBits L) : 0 ≤ byA L (L.length / 8) ∧ byA L (L.length / 8) < 2 ^ (L.length % 8) := by
  unfold byA
  rw [bitv_cut L (8 * (L.length / 8)) (L.length % 8) (fun i hi => getD_far (by omega)) 8 (by omega)]
  exact bitv_bd h _ _
theorem byA_snoc (L : List Int) (b : Int) (j : Nat) : byA (L ++ [b]) j = if j = L.length / 8 then byA L j + b * 2 ^ (L.length % 8) else byA L j := by
  unfold byA
  rw [bitv_snoc]
  by_cases e : j = L.length / 8
  · rw [if_pos (by omega), if_pos e, show L.length - 8 * j = L.length % 8 by omega]
  · rw [if_neg (by omega), if_neg e]; omega
/-- one bit more, by or -/
theorem or_bit (x : Int) (t : Nat) (ht : t < 8) (h0 : 0 ≤ x) (h1 : x < 2 ^ t) (b : Int) (hb : b = 0 ∨ b = 1) : bits .or .u8 x (IntKind.u8.wrap (b * 2 ^ t)) = x + b * 2 ^ t := by
  have hp : (2 : Int) ^ t ≤ 128 := by
    have : (2 : Int) ^ t ≤ 2 ^ 7 := by exact_mod_cast Nat.pow_le_pow_right (by decide) (by omega : t ≤ 7)
    omega
  have hp0 := pow_pos2 t
  have hc : ∀ z, bits .or .u8 x z = bits .or .u8 z x := fun z => by simp only [bits, BitVec.or_comm]
  have hw : IntKind.u8.wrap (b * 2 ^ t) = b * 2 ^ t := by rw [IntKind.wrap_u8]; rcases hb with rfl | rfl <;> omega
  rw [hw, hc, bits_join .u8 8 (by decide) wraps_u8 t (b * 2 ^ t) x (by rcases hb with rfl | rfl <;> omega) (Int.mul_emod_left _ _) (by rcases hb with rfl | rfl <;> omega) h0 h1 (by omega)]
  omega
theorem i64_and1 (n : Int) : bits .and .i64 n 1 = n % 2 := by
  have h1 : (BitVec.ofInt 64 1).toNat = 2 ^ 1 - 1 := by decide
  have key : (BitVec.ofInt 64 n &&& BitVec.ofInt 64 1).toNat = (n % ((2 ^ 64 : Nat) : Int)).toNat % 2 ^ 1 := by
    rw [BitVec.toNat_and, BitVec.toNat_ofInt, h1, Nat.and_two_pow_sub_one_eq_mod]
  show IntKind.i64.wrap ((BitVec.ofInt 64 n &&& BitVec.ofInt 64 1).toNat : Nat) = n % 2
  rw [key, IntKind.wrap_i64]
  omega

/-- the bits of a number, the lowest first -/
def bitK (v : Int) (m : Nat) : List Int := fl (fun k => v / 2 ^ k % 2) m
theorem bitK_len (v : Int) (m : Nat) : (bitK v m).length = m := fl_len _ _
theorem bitK_step (v : Int) (m : Nat) : bitK v (m + 1) = bitK v m ++ [v / 2 ^ m % 2] := rfl
theorem bit_01 (v : Int) (k : Nat) : v / 2 ^ k % 2 = 0 ∨ v / 2 ^ k % 2 = 1 := by omega
theorem bitK_bits (v : Int) : ∀ m, isBits (bitK v m)
  | 0 => isBits_nil
  | m + 1 => (bitK_bits v m).snoc (bit_01 v m)
/-- the bits of tones -/
def tlB (f : Nat → Int) (m : Nat) : Nat → List Int
  | 0 => []
  | n + 1 => tlB f m n ++ bitK (f n) m
theorem tlB_len (f : Nat → Int) (m : Nat) : ∀ n, (tlB f m n).length = n * m
  | 0 => by simp [tlB]
  | n + 1 => by simp only [tlB]; rw [List.length_append, tlB_len f m n, bitK_len, Nat.add_mul]; omega
theorem tlB_bits (f : Nat → Int) (m : Nat) : ∀ n, isBits (tlB f m n)
  | 0 => isBits_nil
  | n + 1 => (tlB_bits f m n).cat (bitK_bits _ _)

theorem allG_of {p : Nat → Bool} : ∀ {n : Nat}, (∀ k, k < n → p k = true) → allG p n = true
  | 0, _ => rfl
  | n + 1, h => by simp only [allG, Bool.and_eq_true]; exact ⟨allG_of fun k hk => h k (by omega), h n (by omega)⟩
/-- can tones be packed -/
def pkB (f : Nat → Int) (n : Nat) (m : Int) : Bool := decide (n ≤ 65536) && inB m 1 16 && allG (fun k => inB (f k) 0 (2 ^ m.toNat - 1)) n
/-- the bytes of tones -/
def pkN (f : Nat → Int) (n : Nat) (m : Int) : Nat := if pkB f n m = true then nB (n * m.toNat) else 0
def pkS (f : Nat → Int) (n : Nat) (m : Int) : Nat → Int := byA (tlB f m.toNat n)
theorem pkN_le (f : Nat → Int) (n : Nat) (m : Int) : pkN f n m ≤ 1048576 := by
  unfold pkN
  split
  case isTrue h =>
    simp only [pkB, inB, Bool.and_eq_true, decide_eq_true_eq] at h
    have h1 : n * m.toNat ≤ 65536 * 16 := Nat.mul_le_mul (by omega) (by omega)
    unfold nB
    omega
  case isFalse => omega

end Go.Proofs.Ytebcclmilplfcaa

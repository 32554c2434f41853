/- Plain arithmetic on the words of a 64 bit float: when the nearest word of an exact number is just that number's own word.
   Conditions: the number is one that the format has. -/
import Ieee.Arith
namespace Go.Proofs.Ytbhomfgponhemaa.Fl
open Ieee

/-- the significand of a rung, and the place of its last digit above the least one -/
def mag (r : Nat) : Nat := if r < 2 ^ 52 then r else 2 ^ 52 + r % 2 ^ 52
def sh (r : Nat) : Nat := if r < 2 ^ 52 then 0 else r / 2 ^ 52 - 1
/-- what the rung stands for, in units of the least number -/
def V (r : Nat) : Nat := mag r * 2 ^ sh r
def inf : Nat := 2047 * 2 ^ 52

theorem signWeight_eq : double.signWeight = 2 ^ 63 := rfl
theorem binade_eq : double.binade = 2 ^ 52 := rfl
theorem infRung_eq : double.infRung = inf := rfl
theorem leastPlace_eq : double.leastPlace = -1074 := rfl

theorem sh_mag (r : Nat) : sh r * 2 ^ 52 + mag r = r := by
  unfold sh mag
  split
  · omega
  · have := Nat.div_add_mod r (2 ^ 52)
    have h1 : 1 ≤ r / 2 ^ 52 := by omega
    omega

theorem mag_lt (r : Nat) : mag r < 2 ^ 53 := by unfold mag; split <;> omega

theorem mag_zero {r : Nat} (h : V r = 0) : r = 0 := by
  unfold V at h
  have h1 : mag r = 0 := by
    rcases Nat.mul_eq_zero.1 h with h | h
    · exact h
    · have := Nat.two_pow_pos (sh r); omega
  unfold mag at h1
  split at h1 <;> omega

theorem read_fin (b : Nat) (h : b % 2 ^ 63 < inf) :
    double.read b = .number (b / 2 ^ 63 % 2 == 1) (mag (b % 2 ^ 63)) (-1074 + (sh (b % 2 ^ 63) : Int)) := by
  unfold Format.read mag sh
  by_cases h1 : b % 2 ^ 63 < 2 ^ 52
  · have h1' : b % double.signWeight < double.binade := h1
    dsimp only
    rw [if_pos h1', if_pos h1, if_pos h1]
    show Datum.number (b / 2 ^ 63 % 2 == 1) (b % 2 ^ 63) (-1074) = _
    simp
  · have h1' : ¬ b % double.signWeight < double.binade := h1
    have h2' : b % double.signWeight < double.infRung := h
    dsimp only
    rw [if_neg h1', if_pos h2', if_neg h1, if_neg h1]
    rfl

theorem log2_mul_pow (n k : Nat) (h : n ≠ 0) : (n * 2 ^ k).log2 = n.log2 + k := by
  have h1 := Nat.log2_self_le h
  have h2 : n < 2 ^ (n.log2 + 1) := Nat.lt_log2_self
  have h3 : n * 2 ^ k ≠ 0 := Nat.mul_ne_zero h (by have := Nat.two_pow_pos k; omega)
  have a : n.log2 + k ≤ (n * 2 ^ k).log2 := (Nat.le_log2 h3).2 (by rw [Nat.pow_add]; exact Nat.mul_le_mul_right _ h1)
  have b : (n * 2 ^ k).log2 < n.log2 + k + 1 := (Nat.log2_lt h3).2 (by
    rw [show n.log2 + k + 1 = (n.log2 + 1) + k from by omega, Nat.pow_add]
    exact Nat.mul_lt_mul_of_pos_right h2 (Nat.two_pow_pos k))
  omega

theorem cut_zero (neg : Bool) (n : Nat) : Toward.even.cut neg n 0 = n := by
  unfold Toward.cut
  simp [Nat.mod_one]

theorem cut_exact (neg : Bool) (n d : Nat) (h : n ≠ 0) : Toward.even.cut neg (n * 2 ^ d) d = n := by
  have hl := log2_mul_pow n d h
  have hm : min d ((n * 2 ^ d).log2 + 2) = d := by omega
  unfold Toward.cut
  simp only [hm]
  have e1 : 1 <<< d = 2 ^ d := by simp [Nat.shiftLeft_eq]
  have hp := Nat.two_pow_pos d
  rw [e1, Nat.mul_div_cancel _ hp, Nat.mul_mod_left]
  have e2 : (2 ^ d == 0) = false := by rw [beq_eq_false_iff_ne]; omega
  simp [e2]

theorem nearest_exact (neg : Bool) (m : Nat) (place : Int) (r a b : Nat) (hr : r < inf)
    (hp : place = (a : Int) - b - 1074) (h : m * 2 ^ a = V r * 2 ^ b) : double.nearest neg m place = double.word neg r := by
  unfold Format.nearest
  by_cases hm : m = 0
  · rw [if_pos hm]
    subst hm
    have : V r = 0 := by
      rw [Nat.zero_mul] at h
      rcases Nat.mul_eq_zero.1 h.symm with h | h
      · exact h
      · have := Nat.two_pow_pos b; omega
    rw [mag_zero this]
  · rw [if_neg hm]
    have hb := Nat.two_pow_pos b
    have ha := Nat.two_pow_pos a
    have hV : V r ≠ 0 := by
      intro h0; rw [h0, Nat.zero_mul] at h
      rcases Nat.mul_eq_zero.1 h with h | h <;> omega
    have hmg : mag r ≠ 0 := by
      intro h0; apply hV; unfold V; rw [h0, Nat.zero_mul]
    have hlog : m.log2 + a = (mag r).log2 + sh r + b := by
      rw [← log2_mul_pow m a hm, h, log2_mul_pow _ b hV]
      unfold V; rw [log2_mul_pow _ _ hmg]
    have hlast : max (place + (m.log2 : Int) - (double.fractionBits : Nat)) double.leastPlace = (sh r : Int) - 1074 := by
      rw [leastPlace_eq]
      show max (place + (m.log2 : Int) - ((52 : Nat) : Int)) (-1074) = _
      have key : (sh r = 0 ∧ (mag r).log2 ≤ 52) ∨ (mag r).log2 = 52 := by
        by_cases hc : r < 2 ^ 52
        · left
          have e1 : sh r = 0 := by unfold sh; rw [if_pos hc]
          have e2 : mag r = r := by unfold mag; rw [if_pos hc]
          rw [e2] at hmg ⊢
          have := (Nat.log2_lt hmg).2 hc
          exact ⟨e1, by omega⟩
        · right
          have e2 : 2 ^ 52 ≤ mag r := by unfold mag; rw [if_neg hc]; omega
          have e3 := (Nat.le_log2 hmg).2 e2
          have e4 := (Nat.log2_lt hmg).2 (mag_lt r)
          omega
      omega
    have hlast' : max (place + (m.log2 : Int) - (double.fractionBits : Nat)) double.leastPlace = (sh r : Int) - 1074 := hlast
    simp only [hlast']
    have hkept : Toward.even.cut neg (m <<< (place - ((sh r : Int) - 1074)).toNat) (((sh r : Int) - 1074) - place).toNat = mag r := by
      rw [Nat.shiftLeft_eq]
      by_cases hc : sh r + b ≤ a
      · have e1 : (place - ((sh r : Int) - 1074)).toNat = a - (sh r + b) := by omega
        have e2 : (((sh r : Int) - 1074) - place).toNat = 0 := by omega
        rw [e1, e2, cut_zero]
        have e3 : m * 2 ^ (a - (sh r + b)) * 2 ^ (sh r + b) = mag r * 2 ^ (sh r + b) := by
          rw [Nat.mul_assoc, ← Nat.pow_add, Nat.sub_add_cancel hc, h]
          unfold V; rw [Nat.mul_assoc, ← Nat.pow_add]
        exact Nat.eq_of_mul_eq_mul_right (Nat.two_pow_pos _) e3
      · have e1 : (place - ((sh r : Int) - 1074)).toNat = 0 := by omega
        have e2 : (((sh r : Int) - 1074) - place).toNat = sh r + b - a := by omega
        rw [e1, e2]
        have e3 : m * 2 ^ 0 = mag r * 2 ^ (sh r + b - a) := by
          have : m * 2 ^ a = mag r * 2 ^ (sh r + b - a) * 2 ^ a := by
            rw [Nat.mul_assoc, ← Nat.pow_add, show sh r + b - a + a = sh r + b from by omega, h]
            unfold V; rw [Nat.mul_assoc, ← Nat.pow_add]
          rw [Nat.pow_zero, Nat.mul_one]
          exact Nat.eq_of_mul_eq_mul_right ha this
        rw [e3, cut_exact _ _ _ hmg]
    rw [hkept, leastPlace_eq, binade_eq, infRung_eq]
    have e5 : (((sh r : Int) - 1074) - -1074).toNat = sh r := by omega
    rw [e5, sh_mag, Nat.min_eq_left (Nat.le_of_lt hr)]

/-- sign and rung of a word -/
def neg (b : Nat) : Bool := b / 2 ^ 63 % 2 == 1
def rung (b : Nat) : Nat := b % 2 ^ 63

theorem read_fin' (b : Nat) (h : rung b < inf) : double.read b = .number (neg b) (mag (rung b)) (-1074 + (sh (rung b) : Int)) := read_fin b h

theorem read_inf (b : Nat) (h : rung b = inf) : double.read b = .infinity (neg b) := by
  have h0 : b % 2 ^ 63 = inf := h
  have e : inf = 2047 * 2 ^ 52 := rfl
  unfold Format.read
  have h1 : ¬ b % double.signWeight < double.binade := by show ¬ b % 2 ^ 63 < 2 ^ 52; omega
  have h2 : ¬ b % double.signWeight < double.infRung := by show ¬ b % 2 ^ 63 < inf; omega
  have h3 : b % double.signWeight = double.infRung := h0
  dsimp only
  rw [if_neg h1, if_neg h2, if_pos h3]; rfl

theorem read_nan (b : Nat) (h : inf < rung b) : double.read b = .nan (neg b) (rung b - inf) := by
  have h0 : inf < b % 2 ^ 63 := h
  have e : inf = 2047 * 2 ^ 52 := rfl
  unfold Format.read
  have h1 : ¬ b % double.signWeight < double.binade := by show ¬ b % 2 ^ 63 < 2 ^ 52; omega
  have h2 : ¬ b % double.signWeight < double.infRung := by show ¬ b % 2 ^ 63 < inf; omega
  have h3 : ¬ b % double.signWeight = double.infRung := by show ¬ b % 2 ^ 63 = inf; omega
  dsimp only
  rw [if_neg h1, if_neg h2, if_neg h3]; rfl

theorem word_eq (s : Bool) (r : Nat) : double.word s r = if s then 2 ^ 63 + r else r := rfl
theorem inf_lt : inf < 2 ^ 63 := by unfold inf; omega
theorem rung_word (s : Bool) (r : Nat) (h : r < 2 ^ 63) : rung (double.word s r) = r := by
  rw [word_eq]; unfold rung; split <;> omega
theorem neg_word (s : Bool) (r : Nat) (h : r < 2 ^ 63) : neg (double.word s r) = s := by
  rw [word_eq]; unfold neg
  cases s
  · have : r / 2 ^ 63 = 0 := by omega
    simp [this]
  · have : (2 ^ 63 + r) / 2 ^ 63 = 1 := by omega
    simp [this]
theorem word_of (b : Nat) (h : b < 2 ^ 64) : double.word (neg b) (rung b) = b := by
  rw [word_eq]; unfold neg rung
  by_cases h1 : b < 2 ^ 63
  · have : b / 2 ^ 63 = 0 := by omega
    simp [this]; omega
  · have : b / 2 ^ 63 = 1 := by omega
    simp [this]; omega
theorem word_false (r : Nat) : double.word false r = r := rfl
theorem rung_small (r : Nat) (h : r < 2 ^ 63) : rung r = r := Nat.mod_eq_of_lt h
theorem neg_small (r : Nat) (h : r < 2 ^ 63) : neg r = false := by
  unfold neg; have : r / 2 ^ 63 = 0 := by omega
  simp [this]

/-- a product that the format has -/
theorem mul_exact (x y r : Nat) (hx : rung x < inf) (hy : rung y < inf) (hr : r < inf)
    (h : V (rung x) * V (rung y) = V r * 2 ^ 1074) : double.mul x y = some (double.word (neg x ^^ neg y) r) := by
  unfold Format.mul
  rw [read_fin' x hx, read_fin' y hy]
  show (some (Datum.number _ _ _)).map double.write = _
  rw [Option.map_some]
  congr 1
  refine nearest_exact _ _ _ r (sh (rung x) + sh (rung y)) 1074 hr (by omega) ?_
  rw [← h]; unfold V
  rw [Nat.pow_add]; ac_rfl

/-- a quotient by a power of two that the format has -/
theorem div_exact (x y r k : Nat) (hx : rung x < inf) (hy : rung y < inf) (hr : r < inf) (hk : mag (rung y) = 2 ^ k)
    (h : V (rung x) * 2 ^ 1074 = V r * V (rung y)) : double.div x y = some (double.word (neg x ^^ neg y) r) := by
  unfold Format.div
  rw [read_fin' x hx, read_fin' y hy]
  have hn : mag (rung y) ≠ 0 := by rw [hk]; have := Nat.two_pow_pos k; omega
  have hlog : (mag (rung y)).log2 = k := by rw [hk]; exact Nat.log2_two_pow
  have hml : (mag (rung x)).log2 ≤ 52 := by
    by_cases h0 : mag (rung x) = 0
    · rw [h0]; decide
    · have := (Nat.log2_lt h0).2 (mag_lt (rung x)); omega
  unfold Datum.quotient
  simp only [if_neg hn, hlog]
  show (some (Datum.number _ _ _)).map double.write = _
  rw [Option.map_some]
  refine congrArg some ?_
  have hfb : double.fractionBits = 52 := rfl
  rw [hfb]
  obtain ⟨t, ht⟩ : ∃ t, 52 + 2 + k - (mag (rung x)).log2 = k + t := ⟨_, (Nat.add_sub_cancel' (by omega)).symm⟩
  rw [ht, hk, Nat.shiftLeft_eq]
  have e1 : mag (rung x) * 2 ^ (k + t) = mag (rung x) * 2 ^ t * 2 ^ k := by rw [Nat.pow_add]; ac_rfl
  rw [e1, Nat.mul_div_cancel _ (Nat.two_pow_pos k), Nat.mul_mod_left]
  refine nearest_exact _ _ _ r (sh (rung x) + 1074) (sh (rung y) + (k + t) + 1) hr (by omega) ?_
  have h' : mag (rung x) * 2 ^ sh (rung x) * 2 ^ 1074 = V r * (2 ^ k * 2 ^ sh (rung y)) := by
    rw [← hk]; exact h
  have e2 : (2 * (mag (rung x) * 2 ^ t) + (((0 : Nat) != 0)).toNat) * 2 ^ (sh (rung x) + 1074) = mag (rung x) * 2 ^ sh (rung x) * 2 ^ 1074 * (2 ^ t * 2) := by
    have e0 : (((0 : Nat) != 0)).toNat = 0 := rfl
    rw [e0, Nat.add_zero, Nat.pow_add]
    generalize 2 ^ 1074 = U
    ac_rfl
  rw [e2, h', Nat.pow_succ, Nat.pow_add, Nat.pow_add]
  generalize 2 ^ sh (rung y) = c1
  generalize 2 ^ k = c2
  generalize 2 ^ t = c3
  generalize V r = c4
  ac_rfl

/-- two finite words that are not negative -/
theorem order_pos (x y : Nat) (hx : rung x < inf) (hy : rung y < inf) (nx : neg x = false) (ny : neg y = false) :
    double.order x y = some (compare (V (rung x)) (V (rung y))) := by
  unfold Format.order
  rw [read_fin' x hx, read_fin' y hy, nx, ny]
  unfold Datum.order
  unfold signed
  simp only [Bool.false_eq_true, if_false, Nat.shiftLeft_eq]
  unfold V
  have aux : ∀ (m n a b : Nat), compare ((m * 2 ^ ((-1074 + (a : Int)) - min (-1074 + (a : Int)) (-1074 + (b : Int))).toNat : Nat) : Int) ((n * 2 ^ ((-1074 + (b : Int)) - min (-1074 + (a : Int)) (-1074 + (b : Int))).toNat : Nat) : Int) = compare (m * 2 ^ a) (n * 2 ^ b) := by
    intro m n a b
    obtain ⟨c, a', b', ha, hb, ea, eb⟩ : ∃ c a' b' : Nat, a = a' + c ∧ b = b' + c ∧ ((-1074 + (a : Int)) - min (-1074 + (a : Int)) (-1074 + (b : Int))).toNat = a' ∧ ((-1074 + (b : Int)) - min (-1074 + (a : Int)) (-1074 + (b : Int))).toNat = b' :=
      ⟨min a b, a - min a b, b - min a b, by omega, by omega, by omega, by omega⟩
    rw [ea, eb, ha, hb, Nat.pow_add, Nat.pow_add, ← Nat.mul_assoc, ← Nat.mul_assoc]
    have hc := Nat.two_pow_pos c
    have lt_iff : ∀ p q : Nat, p * 2 ^ c < q * 2 ^ c ↔ p < q := fun p q => Nat.mul_lt_mul_right hc
    have eq_iff : ∀ p q : Nat, p * 2 ^ c = q * 2 ^ c ↔ p = q := fun p q => ⟨fun h => Nat.eq_of_mul_eq_mul_right hc h, fun h => by rw [h]⟩
    simp only [compare, compareOfLessAndEq, lt_iff, eq_iff, Int.ofNat_lt, Int.ofNat_inj]
  exact congrArg some (aux _ _ _ _)

/-- a whole number cut out of a float that is one -/
theorem toInt_exact (x n : Nat) (hx : rung x < inf) (nx : neg x = false) (h : V (rung x) = n * 2 ^ 1074) :
    (double.read x).toInt .zero = some (n : Int) := by
  rw [read_fin' x hx, nx]
  unfold Datum.toInt Datum.integral
  have key : Toward.zero.cut false (mag (rung x) <<< (-1074 + (sh (rung x) : Int)).toNat) (-(-1074 + (sh (rung x) : Int))).toNat = n := by
    rw [Nat.shiftLeft_eq]
    unfold V at h
    by_cases hc : 1074 ≤ sh (rung x)
    · have e1 : (-1074 + (sh (rung x) : Int)).toNat = sh (rung x) - 1074 := by omega
      have e2 : (-(-1074 + (sh (rung x) : Int))).toNat = 0 := by omega
      rw [e1, e2]
      have e3 : mag (rung x) * 2 ^ (sh (rung x) - 1074) = n := by
        have : mag (rung x) * 2 ^ (sh (rung x) - 1074) * 2 ^ 1074 = n * 2 ^ 1074 := by
          rw [Nat.mul_assoc, ← Nat.pow_add 2 (sh (rung x) - 1074) 1074, Nat.sub_add_cancel hc, h]
        exact Nat.eq_of_mul_eq_mul_right (Nat.two_pow_pos 1074) this
      rw [e3]; unfold Toward.cut
      simp only [Nat.zero_min, Nat.shiftLeft_zero, Nat.div_one]
      rfl
    · have e1 : (-1074 + (sh (rung x) : Int)).toNat = 0 := by omega
      have e2 : (-(-1074 + (sh (rung x) : Int))).toNat = 1074 - sh (rung x) := by omega
      rw [e1, e2, Nat.pow_zero, Nat.mul_one]
      obtain ⟨d, hd⟩ : ∃ d, 1074 = d + sh (rung x) := ⟨1074 - sh (rung x), by omega⟩
      have e4 : mag (rung x) = n * 2 ^ d := by
        have : mag (rung x) * 2 ^ sh (rung x) = n * 2 ^ d * 2 ^ sh (rung x) := by
          rw [h, Nat.mul_assoc, ← Nat.pow_add, ← hd]
        exact Nat.eq_of_mul_eq_mul_right (Nat.two_pow_pos _) this
      have e5 : 1074 - sh (rung x) = d := by omega
      rw [e4, e5]
      unfold Toward.cut
      by_cases h0 : n = 0
      · subst h0; simp
      · have hl := log2_mul_pow n d h0
        have hm : min d ((n * 2 ^ d).log2 + 2) = d := by omega
        simp only [hm]
        have e1 : 1 <<< d = 2 ^ d := by simp [Nat.shiftLeft_eq]
        rw [e1, Nat.mul_div_cancel _ (Nat.two_pow_pos d)]
        rfl
  show some (signed false (Toward.zero.cut false (mag (rung x) <<< (-1074 + (sh (rung x) : Int)).toNat) (-(-1074 + (sh (rung x) : Int))).toNat) 0) = _
  rw [key]
  simp [signed]

/-- a whole number that the format has, made a float -/
theorem ofNat_exact (n r : Nat) (hr : r < inf) (h : V r = n * 2 ^ 1074) : double.write (.number false n 0) = r := by
  show double.nearest false n 0 = r
  rw [nearest_exact false n 0 r 1074 0 hr (by omega) (by rw [Nat.pow_zero, Nat.mul_one]; exact h.symm), word_false]

/-- a difference that the format has, of two words that are not negative -/
theorem sub_exact (x y r : Nat) (hx : rung x < inf) (hy : rung y < inf) (hr : r < inf) (nx : neg x = false) (ny : neg y = false)
    (h : V (rung x) = V (rung y) + V r) : double.sub x y = some r := by
  unfold Format.sub
  rw [read_fin' x hx, read_fin' y hy, nx, ny]
  unfold Datum.opposite Datum.sum
  rw [Option.map_some]
  congr 1
  unfold signed
  simp only [Bool.false_eq_true, Bool.not_false, if_false, if_true, Nat.shiftLeft_eq, Bool.false_and]
  obtain ⟨c, a', b', ha, hb, ea, eb, ec⟩ : ∃ c a' b' : Nat, sh (rung x) = a' + c ∧ sh (rung y) = b' + c ∧ ((-1074 + (sh (rung x) : Int)) - min (-1074 + (sh (rung x) : Int)) (-1074 + (sh (rung y) : Int))).toNat = a' ∧ ((-1074 + (sh (rung y) : Int)) - min (-1074 + (sh (rung x) : Int)) (-1074 + (sh (rung y) : Int))).toNat = b' ∧ min (-1074 + (sh (rung x) : Int)) (-1074 + (sh (rung y) : Int)) = (c : Int) - 1074 :=
    ⟨min (sh (rung x)) (sh (rung y)), sh (rung x) - min (sh (rung x)) (sh (rung y)), sh (rung y) - min (sh (rung x)) (sh (rung y)), by omega, by omega, by omega, by omega, by omega⟩
  rw [ea, eb, ec]
  unfold V at h
  rw [ha, hb, Nat.pow_add, Nat.pow_add, ← Nat.mul_assoc, ← Nat.mul_assoc] at h
  have hge : mag (rung y) * 2 ^ b' ≤ mag (rung x) * 2 ^ a' := by
    have : mag (rung y) * 2 ^ b' * 2 ^ c ≤ mag (rung x) * 2 ^ a' * 2 ^ c := by omega
    exact Nat.le_of_mul_le_mul_right this (Nat.two_pow_pos c)
  generalize hA : mag (rung x) * 2 ^ a' = A at *
  generalize hB : mag (rung y) * 2 ^ b' = B at *
  have e1 : (A : Int) + -(B : Int) = ((A - B : Nat) : Int) := by omega
  rw [e1, Int.natAbs_natCast]
  have e2 : (if ((A - B : Nat) : Int) = 0 then false else decide (((A - B : Nat) : Int) < 0)) = false := by
    split
    · rfl
    · simp
  rw [e2]
  show double.nearest false (A - B) ((c : Int) - 1074) = r
  rw [nearest_exact false (A - B) _ r c 0 hr (by omega) ?_, word_false]
  rw [Nat.pow_zero, Nat.mul_one, Nat.sub_mul, h]
  unfold V; omega

/-- every product of a number of 53 bits and a power of two, below the bound, has its rung -/
theorem exists_rung (n k : Nat) (hn : n < 2 ^ 53) (hb : n * 2 ^ k < 2 ^ 2098) : ∃ r, r < inf ∧ V r = n * 2 ^ k := by
  by_cases hs : n * 2 ^ k < 2 ^ 52
  · refine ⟨n * 2 ^ k, ?_, ?_⟩
    · unfold inf; omega
    · unfold V mag sh; rw [if_pos hs, if_pos hs, Nat.pow_zero, Nat.mul_one]
  · have hn0 : n ≠ 0 := by intro h; subst h; simp at hs
    have h0 : n * 2 ^ k ≠ 0 := by have := Nat.two_pow_pos k; exact Nat.mul_ne_zero hn0 (by omega)
    have hL := log2_mul_pow n k hn0
    have hl1 : n.log2 < 53 := (Nat.log2_lt hn0).2 hn
    have hl2 : 52 ≤ (n * 2 ^ k).log2 := (Nat.le_log2 h0).2 (by omega)
    have hl3 : (n * 2 ^ k).log2 < 2098 := (Nat.log2_lt h0).2 hb
    clear hb
    obtain ⟨s, hs'⟩ : ∃ s, n.log2 + k = 52 + s := ⟨n.log2 + k - 52, by omega⟩
    obtain ⟨t, ht⟩ : ∃ t, k = t + s := ⟨k - s, by omega⟩
    have hlt : n.log2 + t = 52 := by omega
    have hlq := log2_mul_pow n t hn0
    have hq0 : n * 2 ^ t ≠ 0 := Nat.mul_ne_zero hn0 (by have := Nat.two_pow_pos t; omega)
    have q1 : 2 ^ 52 ≤ n * 2 ^ t := (Nat.le_log2 hq0).1 (by omega)
    have q2 : n * 2 ^ t < 2 ^ 53 := (Nat.log2_lt hq0).1 (by omega)
    have hsb : s < 2046 := by omega
    generalize hq : n * 2 ^ t = q at *
    have em : (s * 2 ^ 52 + q) % 2 ^ 52 = q - 2 ^ 52 := by omega
    have ed : (s * 2 ^ 52 + q) / 2 ^ 52 = s + 1 := by omega
    refine ⟨s * 2 ^ 52 + q, ?_, ?_⟩
    · unfold inf; omega
    · unfold V mag sh
      rw [if_neg (by omega), if_neg (by omega), em, ed, ht, Nat.pow_add, ← Nat.mul_assoc, hq, Nat.add_sub_cancel, Nat.add_sub_cancel' q1]

theorem V_succ (r : Nat) : V r < V (r + 1) := by
  unfold V mag sh
  by_cases h1 : r + 1 < 2 ^ 52
  · rw [if_pos h1, if_pos h1, if_pos (by omega), if_pos (by omega)]; omega
  · rw [if_neg h1, if_neg h1]
    by_cases h2 : r < 2 ^ 52
    · rw [if_pos h2, if_pos h2]
      have e : r + 1 = 2 ^ 52 := by omega
      rw [e]; omega
    · rw [if_neg h2, if_neg h2]
      by_cases h3 : (r + 1) % 2 ^ 52 = 0
      · have e1 : (r + 1) / 2 ^ 52 - 1 = (r / 2 ^ 52 - 1) + 1 := by omega
        rw [h3, e1]
        have e2 : (2 ^ 52 + 0) * 2 ^ (r / 2 ^ 52 - 1 + 1) = 2 ^ 53 * 2 ^ (r / 2 ^ 52 - 1) := by
          rw [Nat.pow_add]; omega
        rw [e2]
        exact Nat.mul_lt_mul_of_pos_right (by omega) (Nat.two_pow_pos _)
      · have e1 : (r + 1) / 2 ^ 52 = r / 2 ^ 52 := by omega
        have e2 : (r + 1) % 2 ^ 52 = r % 2 ^ 52 + 1 := by omega
        rw [e1, e2]
        exact Nat.mul_lt_mul_of_pos_right (by omega) (Nat.two_pow_pos _)

theorem V_mono {r s : Nat} (h : r < s) : V r < V s := by
  induction s with
  | zero => omega
  | succ s ih =>
    by_cases e : r = s
    · subst e; exact V_succ r
    · exact Nat.lt_trans (ih (by omega)) (V_succ s)

theorem V_lt {r s : Nat} : V r < V s ↔ r < s := by
  constructor
  · intro h
    by_cases h1 : r < s
    · exact h1
    · exfalso
      by_cases h2 : r = s
      · subst h2; omega
      · have := V_mono (r := s) (s := r) (by omega); omega
  · exact V_mono

theorem V_inj {r s : Nat} (h : V r = V s) : r = s := by
  by_cases h1 : r < s
  · have := V_mono h1; omega
  · by_cases h2 : s < r
    · have := V_mono h2; omega
    · omega

/-- the rung of a power of two -/
theorem V_pow (p : Nat) : V ((p + 1) * 2 ^ 52) = 2 ^ (p + 52) := by
  have h1 : ¬ (p + 1) * 2 ^ 52 < 2 ^ 52 := by omega
  have h2 : (p + 1) * 2 ^ 52 % 2 ^ 52 = 0 := Nat.mul_mod_left _ _
  have h3 : (p + 1) * 2 ^ 52 / 2 ^ 52 = p + 1 := Nat.mul_div_cancel _ (by decide)
  unfold V mag sh
  rw [if_neg h1, if_neg h1, h2, h3, Nat.add_zero, Nat.add_sub_cancel, ← Nat.pow_add, Nat.add_comm]

theorem mag_pow (p : Nat) : mag ((p + 1) * 2 ^ 52) = 2 ^ 52 := by
  have h1 : ¬ (p + 1) * 2 ^ 52 < 2 ^ 52 := by omega
  have h2 : (p + 1) * 2 ^ 52 % 2 ^ 52 = 0 := Nat.mul_mod_left _ _
  unfold mag
  rw [if_neg h1, h2]

end Go.Proofs.Ytbhomfgponhemaa.Fl

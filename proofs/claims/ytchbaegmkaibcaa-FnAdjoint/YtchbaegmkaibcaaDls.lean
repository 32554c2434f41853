/- Dilate, the specification: the mask is spread, offset by offset. -/
import Derived.Test.YtchbaegmkaibcaaErs
import Derived.Test.YtchbaegmkaibcaaDlt
namespace Go.Proofs.Ytchbaegmkaibcaa
open Go.RowKit

theorem ifc {p q : Prop} [Decidable p] [Decidable q] {a b c d : Int} (h : p ↔ q) (e1 : a = b) (e2 : c = d) : (if p then a else c) = if q then b else d := by
  subst e1 e2
  by_cases hp : p
  · rw [if_pos hp, if_pos (h.1 hp)]
  · rw [if_neg hp, if_neg (fun hq => hp (h.2 hq))]
/-- where offset number i leads from pixel k -/
def dlx (W : Int) (g : Nat → Int) (k i : Nat) : Int := (k : Int) % W + g (i * 2)
def dly (W : Int) (g : Nat → Int) (k i : Nat) : Int := (k : Int) / W + g (i * 2 + 1)
/-- does it write -/
def dlB (W H : Int) (f g : Nat → Int) (k i : Nat) : Bool := decide (f k = 1) && hasB W H (dlx W g k i) (dly W g k i)
/-- pixel j when pixel k has been spread by its first i offsets, s what there was -/
def dlI (W H : Int) (f g : Nat → Int) (k : Nat) (s : Nat → Int) : Nat → Nat → Int
  | 0 => s
  | i + 1 => if dlB W H f g k i = true then updN (dlI W H f g k s i) (dly W g k i * W + dlx W g k i).toNat 1 else dlI W H f g k s i
def dlO (W H : Int) (f : Nat → Int) (m : Nat) (g : Nat → Int) : Nat → Nat → Int
  | 0 => fun _ => 0
  | k + 1 => dlI W H f g k (dlO W H f m g k) m

open Classical in
theorem dlI_iff (W H : Int) (f g : Nat → Int) (k : Nat) (s : Nat → Int) (j : Nat) : ∀ m, dlI W H f g k s m j = if ∃ i, i < m ∧ dlB W H f g k i = true ∧ (dly W g k i * W + dlx W g k i).toNat = j then 1 else s j
  | 0 => by rw [dlI, if_neg]; rintro ⟨i, h, _⟩; omega
  | m + 1 => by
    have ih := dlI_iff W H f g k s j m
    unfold dlI
    cases hb : dlB W H f g k m
    · simp only [Bool.false_eq_true, if_false]
      rw [ih]
      refine ifc ⟨fun ⟨i, h1, h2, h3⟩ => ⟨i, by omega, h2, h3⟩, fun ⟨i, h1, h2, h3⟩ => ⟨i, ?_, h2, h3⟩⟩ rfl rfl
      by_cases e : i = m
      · subst e; rw [hb] at h2; cases h2
      · omega
    · simp only [if_true]
      unfold updN
      by_cases e : j = (dly W g k m * W + dlx W g k m).toNat
      · rw [if_pos e, if_pos ⟨m, by omega, hb, e.symm⟩]
      · rw [if_neg e, ih]
        refine ifc ⟨fun ⟨i, h1, h2, h3⟩ => ⟨i, by omega, h2, h3⟩, fun ⟨i, h1, h2, h3⟩ => ⟨i, ?_, h2, h3⟩⟩ rfl rfl
        by_cases e2 : i = m
        · subst e2; exact absurd h3.symm e
        · omega
open Classical in
theorem dlO_iff (W H : Int) (f : Nat → Int) (m : Nat) (g : Nat → Int) (j : Nat) : ∀ n, dlO W H f m g n j = if ∃ k i, k < n ∧ i < m ∧ dlB W H f g k i = true ∧ (dly W g k i * W + dlx W g k i).toNat = j then 1 else 0
  | 0 => by rw [dlO, if_neg]; rintro ⟨k, i, h, _⟩; omega
  | n + 1 => by
    rw [dlO, dlI_iff, dlO_iff W H f m g j n]
    by_cases h1 : ∃ i, i < m ∧ dlB W H f g n i = true ∧ (dly W g n i * W + dlx W g n i).toNat = j
    · obtain ⟨i, a1, a2, a3⟩ := h1
      rw [if_pos ⟨i, a1, a2, a3⟩, if_pos ⟨n, i, by omega, a1, a2, a3⟩]
    · rw [if_neg h1]
      refine ifc ⟨fun ⟨k, i, b1, b2, b3, b4⟩ => ⟨k, i, by omega, b2, b3, b4⟩, fun ⟨k, i, b1, b2, b3, b4⟩ => ⟨k, i, ?_, b2, b3, b4⟩⟩ rfl rfl
      by_cases e : k = n
      · subst e; exact absurd ⟨i, b2, b3, b4⟩ h1
      · omega
open Classical in
theorem dil_iff {W H : Int} {n : Nat} {f : Nat → Int} (hn : (n : Int) = W * H) (hf : bit1 f n) (g : Nat → Int) (p : Int) : ∀ m, vis W H p (fun q => - g q) (fun _ q v => max v (f q.toNat)) 0 m = if ∃ i, i < m ∧ hasB W H (p % W - g (i * 2)) (p / W - g (i * 2 + 1)) = true ∧ f ((p / W - g (i * 2 + 1)) * W + (p % W - g (i * 2))).toNat = 1 then 1 else 0
  | 0 => by rw [vis, if_neg]; rintro ⟨i, h, _⟩; omega
  | m + 1 => by
    have ih := dil_iff hn hf g p m
    unfold vis
    have e1 : p % W + - g (m * 2) = p % W - g (m * 2) := by omega
    have e2 : p / W + - g (m * 2 + 1) = p / W - g (m * 2 + 1) := by omega
    rw [e1, e2, ih]
    cases hb : hasB W H (p % W - g (m * 2)) (p / W - g (m * 2 + 1))
    · simp only [Bool.false_eq_true, if_false]
      refine ifc ⟨fun ⟨i, h1, h2, h3⟩ => ⟨i, by omega, h2, h3⟩, fun ⟨i, h1, h2, h3⟩ => ⟨i, ?_, h2, h3⟩⟩ rfl rfl
      by_cases e : i = m
      · subst e; rw [hb] at h2; cases h2
      · omega
    · simp only [if_true]
      obtain ⟨q0, q1⟩ := place_lt hb hn
      have hbit := bit_at hf q0 q1
      by_cases h1 : ∃ i, i < m ∧ hasB W H (p % W - g (i * 2)) (p / W - g (i * 2 + 1)) = true ∧ f ((p / W - g (i * 2 + 1)) * W + (p % W - g (i * 2))).toNat = 1
      · obtain ⟨i, a1, a2, a3⟩ := h1
        rw [if_pos ⟨i, a1, a2, a3⟩, if_pos ⟨i, by omega, a2, a3⟩]
        omega
      · rw [if_neg h1]
        by_cases h2 : f ((p / W - g (m * 2 + 1)) * W + (p % W - g (m * 2))).toNat = 1
        · rw [if_pos ⟨m, by omega, hb, h2⟩, h2]; rfl
        · rw [if_neg]
          · omega
          · rintro ⟨i, b1, b2, b3⟩
            by_cases e : i = m
            · subst e; exact h2 b3
            · exact h1 ⟨i, by omega, b2, b3⟩
/-- a place by its spot, and back -/
theorem spot_place {W H x y : Int} (h : hasB W H x y = true) : (y * W + x) % W = x ∧ (y * W + x) / W = y := by
  obtain ⟨⟨a, b⟩, c, d⟩ := hasB_iff.1 h
  refine ⟨?_, ?_⟩
  · rw [Int.add_comm, Int.add_mul_emod_self_right, Int.emod_eq_of_lt a b]
  · rw [Int.add_comm, Int.add_mul_ediv_right _ _ (by omega), Int.ediv_eq_zero_of_lt a b]; omega
theorem place_spot {W H : Int} {n k : Nat} (hW : 1 ≤ W) (hn : (n : Int) = W * H) (hk : k < n) : hasB W H ((k : Int) % W) ((k : Int) / W) = true ∧ (k : Int) / W * W + (k : Int) % W = k := by
  have h0 : 0 ≤ (k : Int) % W := Int.emod_nonneg _ (by omega)
  have h1 : (k : Int) % W < W := Int.emod_lt_of_pos _ (by omega)
  have h2 : 0 ≤ (k : Int) / W := Int.ediv_nonneg (by omega) (by omega)
  have h3 : (k : Int) / W < H := Int.ediv_lt_of_lt_mul (by omega) (by rw [Int.mul_comm, ← hn]; omega)
  refine ⟨hasB_iff.2 ⟨⟨h0, h1⟩, h2, h3⟩, ?_⟩
  have := Int.mul_ediv_add_emod (k : Int) W
  rw [Int.mul_comm] at this
  exact this
open Classical in
theorem dlO_eq {W H : Int} {n : Nat} {f : Nat → Int} (hW : 1 ≤ W) (hn : (n : Int) = W * H) (hf : bit1 f n) (m : Nat) (g : Nat → Int) (j : Nat) (hj : j < n) : dlO W H f m g n j = dilS W H f m g j := by
  unfold dilS
  rw [dlO_iff, dil_iff hn hf g j m]
  obtain ⟨hj1, hj2⟩ := place_spot hW hn hj
  refine ifc ⟨?_, ?_⟩ rfl rfl
  · rintro ⟨k, i, h1, h2, h3, h4⟩
    unfold dlB at h3
    rw [Bool.and_eq_true, decide_eq_true_eq] at h3
    obtain ⟨hp1, hp2⟩ := spot_place h3.2
    obtain ⟨q0, q1⟩ := place_lt h3.2 hn
    have ej : (j : Int) = dly W g k i * W + dlx W g k i := by omega
    obtain ⟨hk1, hk2⟩ := place_spot hW hn h1
    refine ⟨i, h2, ?_, ?_⟩
    · rw [ej, hp1, hp2]
      unfold dlx dly
      rw [show (k : Int) % W + g (i * 2) - g (i * 2) = (k : Int) % W by omega, show (k : Int) / W + g (i * 2 + 1) - g (i * 2 + 1) = (k : Int) / W by omega]
      exact hk1
    · rw [ej, hp1, hp2]
      unfold dlx dly
      rw [show (k : Int) % W + g (i * 2) - g (i * 2) = (k : Int) % W by omega, show (k : Int) / W + g (i * 2 + 1) - g (i * 2 + 1) = (k : Int) / W by omega, hk2]
      exact h3.1
  · rintro ⟨i, h1, h2, h3⟩
    obtain ⟨hp1, hp2⟩ := spot_place h2
    obtain ⟨q0, q1⟩ := place_lt h2 hn
    generalize hk : (j : Int) / W - g (i * 2 + 1) = y at *
    generalize hk' : (j : Int) % W - g (i * 2) = x at *
    refine ⟨(y * W + x).toNat, i, by omega, h1, ?_, ?_⟩
    · unfold dlB dlx dly
      rw [Int.toNat_of_nonneg q0, hp1, hp2, h3, ← hk, ← hk']
      rw [show (j : Int) % W - g (i * 2) + g (i * 2) = (j : Int) % W by omega, show (j : Int) / W - g (i * 2 + 1) + g (i * 2 + 1) = (j : Int) / W by omega, hj1]
      rfl
    · unfold dlx dly
      rw [Int.toNat_of_nonneg q0, hp1, hp2, ← hk, ← hk']
      rw [show (j : Int) % W - g (i * 2) + g (i * 2) = (j : Int) % W by omega, show (j : Int) / W - g (i * 2 + 1) + g (i * 2 + 1) = (j : Int) / W by omega, hj2]
      simp

end Go.Proofs.Ytchbaegmkaibcaa

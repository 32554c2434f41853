/- The specification's decoder of UTF-8. -/
import Derived.Test.YteadhhhhnihoaaaSgi
namespace Go.Proofs.Yteadhhhhnihoaaa
open Go.RowKit

/-- the number that is read when j bytes behind the first are through -/
def vl (v0 : Int) (l : List Nat) : Nat → Int
  | 0 => v0
  | j + 1 => vl v0 l j * 64 + (l.getD (j + 1) 0 : Int) - 128
theorem vl1 (v0 : Int) (l : List Nat) : vl v0 l 1 = v0 * 64 + (l.getD 1 0 : Int) - 128 := rfl
theorem vl2 (v0 : Int) (l : List Nat) : vl v0 l 2 = (v0 * 64 + (l.getD 1 0 : Int) - 128) * 64 + (l.getD 2 0 : Int) - 128 := rfl
theorem vl3 (v0 : Int) (l : List Nat) : vl v0 l 3 = ((v0 * 64 + (l.getD 1 0 : Int) - 128) * 64 + (l.getD 2 0 : Int) - 128) * 64 + (l.getD 3 0 : Int) - 128 := rfl
/-- a byte that goes on -/
def ctn (l : List Nat) (j : Nat) : Prop := 128 ≤ l.getD j 0 ∧ l.getD j 0 ≤ 191
theorem vl_bd {v0 : Int} {l : List Nat} (h0 : 0 ≤ v0) (h1 : v0 < 32) : ∀ j, j ≤ 3 → (∀ i, 1 ≤ i → i ≤ j → ctn l i) → 0 ≤ vl v0 l j ∧ vl v0 l j < 8388608
  | 0, _, _ => by simp only [vl]; omega
  | 1, _, h => by
    have a := h 1 (by omega) (by omega)
    rw [vl1]
    unfold ctn at *
    omega
  | 2, _, h => by
    have a := h 1 (by omega) (by omega)
    have b := h 2 (by omega) (by omega)
    rw [vl2]
    unfold ctn at *
    omega
  | 3, _, h => by
    have a := h 1 (by omega) (by omega)
    have b := h 2 (by omega) (by omega)
    have c := h 3 (by omega) (by omega)
    rw [vl3]
    unfold ctn at *
    omega
/-- a number that may be told by so many bytes -/
def fine (low : Int) (V : Int) : Prop := low ≤ V ∧ V ≤ 1114111 ∧ ¬ (55296 ≤ V ∧ V ≤ 57343)

theorem dec_one {l : List Nat} (h : l.getD 0 0 < 128) : dec l = (l.getD 0 0, 1) := by unfold dec; rw [if_pos h]
theorem dec_none {l : List Nat} (h : 128 ≤ l.getD 0 0) (h' : l.getD 0 0 < 192 ∨ 248 ≤ l.getD 0 0) (hb : l.getD 0 0 < 256) : dec l = (65533, 1) := by
  unfold dec
  have a1 : (l.getD 0 0 / 32 == 6) = false := beq_false_of_ne (by omega)
  have a2 : (l.getD 0 0 / 16 == 14) = false := beq_false_of_ne (by omega)
  have a3 : (l.getD 0 0 / 8 == 30) = false := beq_false_of_ne (by omega)
  rw [if_neg (by omega), a1, a2, a3]
  simp
theorem two_ok (x : Nat) : (x / 64 == 2) = true ↔ 128 ≤ x ∧ x ≤ 191 := by simp; omega
theorem valid_iff (c : Nat) : Utf8.valid (c : Int) = true ↔ (c : Int) ≤ 1114111 ∧ ¬ (55296 ≤ (c : Int) ∧ (c : Int) ≤ 57343) := by
  unfold Utf8.valid
  simp
  omega
theorem dec_two_num {l : List Nat} (h : 192 ≤ l.getD 0 0) (h' : l.getD 0 0 < 224) (hc : 1 < l.length ∧ ctn l 1) : vl (l.getD 0 0 - 192) l 1 = (((l.getD 0 0 % 32) * 64 + l.getD 1 0 % 64 : Nat) : Int) := by
  have x1 := hc.2
  rw [vl1]
  unfold ctn at *
  omega
theorem dec_two {l : List Nat} (h : 192 ≤ l.getD 0 0) (h' : l.getD 0 0 < 224) (hc : 1 < l.length ∧ ctn l 1) (hf : fine 128 (vl (l.getD 0 0 - 192) l 1)) : dec l = ((vl (l.getD 0 0 - 192) l 1).toNat, 2) := by
  have a1 : (l.getD 0 0 / 32 == 6) = true := beq_iff_eq.2 (by omega)
  have a2 : (l.getD 0 0 / 16 == 14) = false := beq_false_of_ne (by omega)
  have a3 : (l.getD 0 0 / 8 == 30) = false := beq_false_of_ne (by omega)
  have c1 := (two_ok (l.getD 1 0)).2 hc.2
  have hv := dec_two_num h h' hc
  have hB : (l.getD 0 0 / 32 == 6 && (decide (1 < l.length) && l.getD 1 0 / 64 == 2)) = true := by rw [a1, decide_eq_true (show 1 < l.length by have := hc.1; omega), c1]; rfl
  rw [hv] at hf ⊢
  unfold dec
  rw [if_neg (by omega), if_pos hB, if_pos (show (l.getD 0 0 % 32) * 64 + l.getD 1 0 % 64 ≥ 128 by have := hf.1; omega), Int.toNat_natCast]
theorem dec_two_no {l : List Nat} (h : 192 ≤ l.getD 0 0) (h' : l.getD 0 0 < 224) (hn : ¬ ((1 < l.length ∧ ctn l 1) ∧ fine 128 (vl (l.getD 0 0 - 192) l 1))) : dec l = (65533, 1) := by
  have a1 : (l.getD 0 0 / 32 == 6) = true := beq_iff_eq.2 (by omega)
  have a2 : (l.getD 0 0 / 16 == 14) = false := beq_false_of_ne (by omega)
  have a3 : (l.getD 0 0 / 8 == 30) = false := beq_false_of_ne (by omega)
  by_cases hc : 1 < l.length ∧ ctn l 1
  · have hf : ¬ fine 128 (vl (l.getD 0 0 - 192) l 1) := fun x => hn ⟨hc, x⟩
    have c1 := (two_ok (l.getD 1 0)).2 hc.2
    have hv := dec_two_num h h' hc
    have hB : (l.getD 0 0 / 32 == 6 && (decide (1 < l.length) && l.getD 1 0 / 64 == 2)) = true := by rw [a1, decide_eq_true (show 1 < l.length by have := hc.1; omega), c1]; rfl
    rw [hv] at hf
    unfold dec
    rw [if_neg (by omega), if_pos hB, if_neg (show ¬ (l.getD 0 0 % 32) * 64 + l.getD 1 0 % 64 ≥ 128 from fun x => hf ⟨by omega, by omega, by omega⟩)]
  · have hB : ¬ (l.getD 0 0 / 32 == 6 && (decide (1 < l.length) && l.getD 1 0 / 64 == 2)) = true := fun x => by
      simp only [Bool.and_eq_true] at x
      refine hc ?_
      exact ⟨of_decide_eq_true x.2.1, (two_ok _).1 x.2.2⟩
    unfold dec
    rw [if_neg (by omega), if_neg hB, if_neg (by rw [a2]; exact Bool.false_ne_true), if_neg (by rw [a3]; exact Bool.false_ne_true)]
theorem dec_three_num {l : List Nat} (h : 224 ≤ l.getD 0 0) (h' : l.getD 0 0 < 240) (hc : 2 < l.length ∧ ctn l 1 ∧ ctn l 2) : vl (l.getD 0 0 - 224) l 2 = (((l.getD 0 0 % 16) * 4096 + (l.getD 1 0 % 64) * 64 + l.getD 2 0 % 64 : Nat) : Int) := by
  have x1 := hc.2.1
  have x2 := hc.2.2
  rw [vl2]
  unfold ctn at *
  omega
theorem dec_three {l : List Nat} (h : 224 ≤ l.getD 0 0) (h' : l.getD 0 0 < 240) (hc : 2 < l.length ∧ ctn l 1 ∧ ctn l 2) (hf : fine 2048 (vl (l.getD 0 0 - 224) l 2)) : dec l = ((vl (l.getD 0 0 - 224) l 2).toNat, 3) := by
  have a1 : (l.getD 0 0 / 32 == 6) = false := beq_false_of_ne (by omega)
  have a2 : (l.getD 0 0 / 16 == 14) = true := beq_iff_eq.2 (by omega)
  have a3 : (l.getD 0 0 / 8 == 30) = false := beq_false_of_ne (by omega)
  have c1 := (two_ok (l.getD 1 0)).2 hc.2.1
  have c2 := (two_ok (l.getD 2 0)).2 hc.2.2
  have hv := dec_three_num h h' hc
  have hB : (l.getD 0 0 / 16 == 14 && (decide (1 < l.length) && l.getD 1 0 / 64 == 2) && (decide (2 < l.length) && l.getD 2 0 / 64 == 2)) = true := by rw [a2, decide_eq_true (show 1 < l.length by have := hc.1; omega), decide_eq_true (show 2 < l.length by have := hc.1; omega), c1, c2]; rfl
  rw [hv] at hf ⊢
  unfold dec
  rw [if_neg (by omega), if_neg (by rw [a1]; exact Bool.false_ne_true), if_pos hB, if_pos (show (decide ((l.getD 0 0 % 16) * 4096 + (l.getD 1 0 % 64) * 64 + l.getD 2 0 % 64 ≥ 2048) && Utf8.valid ((l.getD 0 0 % 16) * 4096 + (l.getD 1 0 % 64) * 64 + l.getD 2 0 % 64 : Nat)) = true by rw [(valid_iff _).2 hf.2, Bool.and_true]; exact decide_eq_true (by have := hf.1; omega)), Int.toNat_natCast]
theorem dec_three_no {l : List Nat} (h : 224 ≤ l.getD 0 0) (h' : l.getD 0 0 < 240) (hn : ¬ ((2 < l.length ∧ ctn l 1 ∧ ctn l 2) ∧ fine 2048 (vl (l.getD 0 0 - 224) l 2))) : dec l = (65533, 1) := by
  have a1 : (l.getD 0 0 / 32 == 6) = false := beq_false_of_ne (by omega)
  have a2 : (l.getD 0 0 / 16 == 14) = true := beq_iff_eq.2 (by omega)
  have a3 : (l.getD 0 0 / 8 == 30) = false := beq_false_of_ne (by omega)
  by_cases hc : 2 < l.length ∧ ctn l 1 ∧ ctn l 2
  · have hf : ¬ fine 2048 (vl (l.getD 0 0 - 224) l 2) := fun x => hn ⟨hc, x⟩
    have c1 := (two_ok (l.getD 1 0)).2 hc.2.1
    have c2 := (two_ok (l.getD 2 0)).2 hc.2.2
    have hv := dec_three_num h h' hc
    have hB : (l.getD 0 0 / 16 == 14 && (decide (1 < l.length) && l.getD 1 0 / 64 == 2) && (decide (2 < l.length) && l.getD 2 0 / 64 == 2)) = true := by rw [a2, decide_eq_true (show 1 < l.length by have := hc.1; omega), decide_eq_true (show 2 < l.length by have := hc.1; omega), c1, c2]; rfl
    rw [hv] at hf
    unfold dec
    rw [if_neg (by omega), if_neg (by rw [a1]; exact Bool.false_ne_true), if_pos hB, if_neg (show ¬ (decide ((l.getD 0 0 % 16) * 4096 + (l.getD 1 0 % 64) * 64 + l.getD 2 0 % 64 ≥ 2048) && Utf8.valid ((l.getD 0 0 % 16) * 4096 + (l.getD 1 0 % 64) * 64 + l.getD 2 0 % 64 : Nat)) = true from fun x => by rw [Bool.and_eq_true] at x; exact hf ⟨by have := of_decide_eq_true x.1; omega, (valid_iff _).1 x.2⟩)]
  · have hB : ¬ (l.getD 0 0 / 16 == 14 && (decide (1 < l.length) && l.getD 1 0 / 64 == 2) && (decide (2 < l.length) && l.getD 2 0 / 64 == 2)) = true := fun x => by
      simp only [Bool.and_eq_true] at x
      refine hc ?_
      exact ⟨of_decide_eq_true x.2.1, (two_ok _).1 x.1.2.2, (two_ok _).1 x.2.2⟩
    unfold dec
    rw [if_neg (by omega), if_neg (by rw [a1]; exact Bool.false_ne_true), if_neg hB, if_neg (by rw [a3]; exact Bool.false_ne_true)]
theorem dec_four_num {l : List Nat} (h : 240 ≤ l.getD 0 0) (h' : l.getD 0 0 < 248) (hc : 3 < l.length ∧ ctn l 1 ∧ ctn l 2 ∧ ctn l 3) : vl (l.getD 0 0 - 240) l 3 = (((l.getD 0 0 % 8) * 262144 + (l.getD 1 0 % 64) * 4096 + (l.getD 2 0 % 64) * 64 + l.getD 3 0 % 64 : Nat) : Int) := by
  have x1 := hc.2.1
  have x2 := hc.2.2.1
  have x3 := hc.2.2.2
  rw [vl3]
  unfold ctn at *
  omega
theorem dec_four {l : List Nat} (h : 240 ≤ l.getD 0 0) (h' : l.getD 0 0 < 248) (hc : 3 < l.length ∧ ctn l 1 ∧ ctn l 2 ∧ ctn l 3) (hf : fine 65536 (vl (l.getD 0 0 - 240) l 3)) : dec l = ((vl (l.getD 0 0 - 240) l 3).toNat, 4) := by
  have a1 : (l.getD 0 0 / 32 == 6) = false := beq_false_of_ne (by omega)
  have a2 : (l.getD 0 0 / 16 == 14) = false := beq_false_of_ne (by omega)
  have a3 : (l.getD 0 0 / 8 == 30) = true := beq_iff_eq.2 (by omega)
  have c1 := (two_ok (l.getD 1 0)).2 hc.2.1
  have c2 := (two_ok (l.getD 2 0)).2 hc.2.2.1
  have c3 := (two_ok (l.getD 3 0)).2 hc.2.2.2
  have hv := dec_four_num h h' hc
  have hB : (l.getD 0 0 / 8 == 30 && (decide (1 < l.length) && l.getD 1 0 / 64 == 2) && (decide (2 < l.length) && l.getD 2 0 / 64 == 2) && (decide (3 < l.length) && l.getD 3 0 / 64 == 2)) = true := by rw [a3, decide_eq_true (show 1 < l.length by have := hc.1; omega), decide_eq_true (show 2 < l.length by have := hc.1; omega), decide_eq_true (show 3 < l.length by have := hc.1; omega), c1, c2, c3]; rfl
  rw [hv] at hf ⊢
  unfold dec
  rw [if_neg (by omega), if_neg (by rw [a1]; exact Bool.false_ne_true), if_neg (by rw [a2]; exact Bool.false_ne_true), if_pos hB, if_pos (show (decide ((l.getD 0 0 % 8) * 262144 + (l.getD 1 0 % 64) * 4096 + (l.getD 2 0 % 64) * 64 + l.getD 3 0 % 64 ≥ 65536) && Utf8.valid ((l.getD 0 0 % 8) * 262144 + (l.getD 1 0 % 64) * 4096 + (l.getD 2 0 % 64) * 64 + l.getD 3 0 % 64 : Nat)) = true by rw [(valid_iff _).2 hf.2, Bool.and_true]; exact decide_eq_true (by have := hf.1; omega)), Int.toNat_natCast]
theorem dec_four_no {l : List Nat} (h : 240 ≤ l.getD 0 0) (h' : l.getD 0 0 < 248) (hn : ¬ ((3 < l.length ∧ ctn l 1 ∧ ctn l 2 ∧ ctn l 3) ∧ fine 65536 (vl (l.getD 0 0 - 240) l 3))) : dec l = (65533, 1) := by
  have a1 : (l.getD 0 0 / 32 == 6) = false := beq_false_of_ne (by omega)
  have a2 : (l.getD 0 0 / 16 == 14) = false := beq_false_of_ne (by omega)
  have a3 : (l.getD 0 0 / 8 == 30) = true := beq_iff_eq.2 (by omega)
  by_cases hc : 3 < l.length ∧ ctn l 1 ∧ ctn l 2 ∧ ctn l 3
  · have hf : ¬ fine 65536 (vl (l.getD 0 0 - 240) l 3) := fun x => hn ⟨hc, x⟩
    have c1 := (two_ok (l.getD 1 0)).2 hc.2.1
    have c2 := (two_ok (l.getD 2 0)).2 hc.2.2.1
    have c3 := (two_ok (l.getD 3 0)).2 hc.2.2.2
    have hv := dec_four_num h h' hc
    have hB : (l.getD 0 0 / 8 == 30 && (decide (1 < l.length) && l.getD 1 0 / 64 == 2) && (decide (2 < l.length) && l.getD 2 0 / 64 == 2) && (decide (3 < l.length) && l.getD 3 0 / 64 == 2)) = true := by rw [a3, decide_eq_true (show 1 < l.length by have := hc.1; omega), decide_eq_true (show 2 < l.length by have := hc.1; omega), decide_eq_true (show 3 < l.length by have := hc.1; omega), c1, c2, c3]; rfl
    rw [hv] at hf
    unfold dec
    rw [if_neg (by omega), if_neg (by rw [a1]; exact Bool.false_ne_true), if_neg (by rw [a2]; exact Bool.false_ne_true), if_pos hB, if_neg (show ¬ (decide ((l.getD 0 0 % 8) * 262144 + (l.getD 1 0 % 64) * 4096 + (l.getD 2 0 % 64) * 64 + l.getD 3 0 % 64 ≥ 65536) && Utf8.valid ((l.getD 0 0 % 8) * 262144 + (l.getD 1 0 % 64) * 4096 + (l.getD 2 0 % 64) * 64 + l.getD 3 0 % 64 : Nat)) = true from fun x => by rw [Bool.and_eq_true] at x; exact hf ⟨by have := of_decide_eq_true x.1; omega, (valid_iff _).1 x.2⟩)]
  · have hB : ¬ (l.getD 0 0 / 8 == 30 && (decide (1 < l.length) && l.getD 1 0 / 64 == 2) && (decide (2 < l.length) && l.getD 2 0 / 64 == 2) && (decide (3 < l.length) && l.getD 3 0 / 64 == 2)) = true := fun x => by
      simp only [Bool.and_eq_true] at x
      refine hc ?_
      exact ⟨of_decide_eq_true x.2.1, (two_ok _).1 x.1.1.2.2, (two_ok _).1 x.1.2.2, (two_ok _).1 x.2.2⟩
    unfold dec
    rw [if_neg (by omega), if_neg (by rw [a1]; exact Bool.false_ne_true), if_neg (by rw [a2]; exact Bool.false_ne_true), if_neg hB]

/-- what the decoder answers -/
def UtfR (l : List Nat) (w : World) (e : Ending) (w' : World) : Prop := w' = w ∧ ∃ v n : Nat, e = .returned (.tuple #[.int .i64 v, .int .i64 n]) ∧ n ≤ 4 ∧ ((n = 0 ∧ dec l = (65533, 1)) ∨ (0 < n ∧ dec l = (v, n)))

theorem idx_strA (s : ByteArray) (k j : Nat) (h : k + j < s.size) (w : World) : (Instr.index 9 (.string s) (.int .i64 ((k : Int) + j))).run Try.prog w = .ok (.int .u8 ((bl s).getD (k + j) 0 : Nat)) w := by
  have := idx_str s (k + j) h w
  rw [Int.natCast_add] at this
  exact this

end Go.Proofs.Yteadhhhhnihoaaa

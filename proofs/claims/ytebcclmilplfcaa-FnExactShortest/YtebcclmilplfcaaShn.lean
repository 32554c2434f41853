/- The shortest codec: numbers alone, and bytes that are answered with a text. -/
import Derived.Test.YtebcclmilplfcaaCmv
namespace Go.Proofs.Ytebcclmilplfcaa
open Go.RowKit

/-- the best codec of the first j: the least number of bytes, the first of several -/
def bestC (f : Nat → Int) (n : Nat) : Nat → Nat
  | 0 => 0
  | j + 1 => if bestC f n j = 0 ∨ (cmL (j + 1) f n).length < (cmL (bestC f n j) f n).length then j + 1 else bestC f n j
theorem bestC_le (f : Nat → Int) (n : Nat) : ∀ j, bestC f n j ≤ j
  | 0 => Nat.le_refl _
  | j + 1 => by
    have := bestC_le f n j
    simp only [bestC]
    split <;> omega
/-- the same, 0 where they are no tones -/
def curC (f : Nat → Int) (n j : Nat) : Nat := if tonB f n = true then bestC f n j else 0
theorem curC_le (f : Nat → Int) (n j : Nat) : curC f n j ≤ j := by
  unfold curC
  split
  · exact bestC_le f n j
  · omega
def nmC (c : Nat) : ByteArray := if c = 0 then ⟨#[]⟩ else g4 (c - 1)
theorem nmC_0 : (nmC 0).toList.isEmpty = true := by rw [ByteArray.toList_eq]; rfl
theorem nmC_pos {c : Nat} (h : c ≠ 0) (h4 : c ≤ 4) : (nmC c).toList.isEmpty = false := by
  rw [ByteArray.toList_eq]
  obtain rfl | rfl | rfl | rfl : c = 1 ∨ c = 2 ∨ c = 3 ∨ c = 4 := by omega
  all_goals rfl
theorem nmC_at (j : Nat) : nmC (j + 1) = g4 j := by unfold nmC; rw [if_neg (by omega), Nat.add_sub_cancel]
theorem cdN_g4 {j : Nat} (h : j < 4) : cdN (g4 j) = j + 1 := by
  obtain rfl | rfl | rfl | rfl : j = 0 ∨ j = 1 ∨ j = 2 ∨ j = 3 := by omega
  all_goals decide
theorem cmOk_j {f : Nat → Int} {n j : Nat} : cmOk (j + 1) f n = tonB f n := by unfold cmOk; simp
theorem curC_step (f : Nat → Int) (n j : Nat) (h : tonB f n = true) (hs : curC f n j = 0 ∨ (cmL (j + 1) f n).length < (cmL (curC f n j) f n).length) : curC f n (j + 1) = j + 1 := by
  unfold curC at hs ⊢
  rw [if_pos h] at hs ⊢
  simp only [bestC]
  rw [if_pos hs]
theorem curC_stay (f : Nat → Int) (n j : Nat) (h : tonB f n = true) (hs : ¬ (curC f n j = 0 ∨ (cmL (j + 1) f n).length < (cmL (curC f n j) f n).length)) : curC f n (j + 1) = curC f n j := by
  unfold curC at hs ⊢
  rw [if_pos h] at hs ⊢
  rw [if_pos h]
  simp only [bestC]
  rw [if_neg hs]
theorem curC_no (f : Nat → Int) (n j : Nat) (h : tonB f n = false) : curC f n j = 0 := by unfold curC; rw [if_neg (by rw [h]; decide)]
theorem cmL_0 (f : Nat → Int) (n : Nat) : cmL 0 f n = [] := by unfold cmL; rw [if_neg (by simp [cmOk])]

/-- bytes of the call's own, as a value -/
def LsV (L : List Int) (w0 : World) (v : Value) (w : World) : Prop := ∃ a cap b, v = .slice a L.length cap ∧ OwV a b L.length (u8V fun k => L.getD k 0) w ∧ (L.length = 0 ∨ w0.heap.size ≤ b)
theorem OwV.belowB {a : Option Addr} {b len : Nat} {f : Nat → Value} {w w' : World} (h : OwV a b len f w) (hb : Below w.heap.size w w') : OwV a b len f w' := by
  rcases h with h | ⟨ha, hr⟩
  · exact .inl h
  · refine .inr ⟨ha, fun j hj => ?_⟩
    obtain ⟨h1, h2⟩ := hr j hj
    have hl : b < w.heap.size := World.block_lt_of_cell? w _ h1
    exact ⟨(hb.cell (p := ⟨b, j, none⟩) hl).trans h1, (hb.frozen (p := ⟨b, j, none⟩) hl).trans h2⟩
theorem LsV.below {L : List Int} {w0 : World} {v : Value} {w w' : World} (h : LsV L w0 v w) (hb : Below w.heap.size w w') : LsV L w0 v w' := by
  obtain ⟨a, cap, b, hv, ho, hB⟩ := h
  exact ⟨a, cap, b, hv, ho.belowB hb, hB⟩
/-- a text and bytes are answered -/
def ShR (f : Nat → Int) (n : Nat) (w : World) (e : Ending) (w' : World) : Prop :=
  ∃ v, e = .returned (.tuple #[.string (nmC (curC f n 4)), v]) ∧ LsV (cmL (curC f n 4) f n) w v w' ∧ Below w.heap.size w w'
theorem CmR.ls {c : Nat} {f : Nat → Int} {n : Nat} {w w' : World} {e : Ending} (h : CmR c f n w e w') : ∃ a cap, e = .returned (.tuple #[.slice a (cmL c f n).length cap, .bool (cmOk c f n)]) ∧ LsV (cmL c f n) w (.slice a (cmL c f n).length cap) w' ∧ Below w.heap.size w w' := by
  obtain ⟨a, cap, b, rfl, ho, hB, hb⟩ := h
  exact ⟨a, cap, rfl, ⟨a, cap, b, rfl, ho, hB⟩, hb⟩

end Go.Proofs.Ytebcclmilplfcaa

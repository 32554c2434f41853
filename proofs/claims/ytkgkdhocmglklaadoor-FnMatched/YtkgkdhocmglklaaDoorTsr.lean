/- The matrix and the last place of a cube that is turned: a region that draws. -/
import Derived.Test.YtkgkdhocmglklaaDoorRgb
import Derived.Test.YtkgkdhocmglklaaDoorTsv
import Derived.Test.YtkgkdhocmglklaaDoorVex
namespace Go.Proofs.YtkgkdhocmglklaaDoor
open Go.RowKit

/-- the matrix's cells -/
abbrev mL (m : Nat → Int) : List Value := [.int .i64 (m 0), .int .i64 (m 1), .int .i64 (m 2), .int .i64 (m 3), .int .i64 (m 4), .int .i64 (m 5), .int .i64 (m 6), .int .i64 (m 7), .int .i64 (m 8)]
/-- values that are left -/
def tvG (V : Nat) (a b c d X : Int) : Nat → Value → Prop
  | 0, v => v = tv a b c d
  | 1, v => v = mat9 (mtx a b c d)
  | 2, v => v = .pointer (some ⟨V, 0, none⟩)
  | 3, v => v = .int .i64 X
  | 4, v => v = .int .i64 (X - 1)
  | 5, v => v = .pointer (some ⟨V, 0, none⟩)
  | 6, v => v = .int .i64 X
  | 7, v => v = .int .i64 (X - 1)
  | 8, v => v = .pointer (some ⟨V, 0, none⟩)
  | 9, v => v = .int .i64 X
  | 10, v => v = .int .i64 (X - 1)
  | 11, v => v = v3v (X - 1) (X - 1) (X - 1)
  | _, _ => True
/-- what each operation leaves -/
def tvF (wB : World) (V : Nat) (a b c d X : Int) (j : Nat) (u : Nat → Value) (w : World) : Prop :=
  tvG V a b c d X j (u j) ∧
  (j = 12 → ∃ M vs, u 12 = .pointer (some ⟨M, 0, none⟩) ∧ wB.heap.size ≤ M ∧ vs.length = 9 ∧ BxZ M vs w) ∧
  (j = 13 → ∃ P vs, u 13 = .pointer (some ⟨P, 0, none⟩) ∧ wB.heap.size ≤ P ∧ vs.length = 3 ∧ BxZ P vs w) ∧
  (j = 14 → ∃ M, u 12 = .pointer (some ⟨M, 0, none⟩) ∧ BxZ M (mL (mtx a b c d)) w) ∧
  (j = 15 → ∃ P, u 13 = .pointer (some ⟨P, 0, none⟩) ∧ BxZ P [.int .i64 (X - 1), .int .i64 (X - 1), .int .i64 (X - 1)] w)
theorem tvF_val {wB : World} {V : Nat} {a b c d X : Int} {j : Nat} {u : Nat → Value} {w : World} (h : tvG V a b c d X j (u j)) (hj : j < 12) : tvF wB V a b c d X j u w := ⟨h, fun e => by omega, fun e => by omega, fun e => by omega, fun e => by omega⟩
theorem tvF_up {wB : World} {V : Nat} {a b c d X : Int} {u : Nat → Value} {w w' : World} (hb : Below w.heap.size w w') (i : Nat) (v : Value) (j : Nat) (hj : j ≠ i) (h14 : j = 14 → i ≠ 12) (h15 : j = 15 → i ≠ 13) (h : tvF wB V a b c d X j u w) : tvF wB V a b c d X j (upU u i v) w' := by
  obtain ⟨h0, h1, h2, h3, h4⟩ := h
  have up : ∀ k, k ≠ i → upU u i v k = u k := fun k hk => upU_other u v hk
  refine ⟨by rw [up j hj]; exact h0, fun e => ?_, fun e => ?_, fun e => ?_, fun e => ?_⟩
  · obtain ⟨M, vs, a1, a2, a3, a4⟩ := h1 e
    exact ⟨M, vs, (up 12 (fun e' => hj (e.trans e'))).trans a1, a2, a3, a4.up hb⟩
  · obtain ⟨M, vs, a1, a2, a3, a4⟩ := h2 e
    exact ⟨M, vs, (up 13 (fun e' => hj (e.trans e'))).trans a1, a2, a3, a4.up hb⟩
  · obtain ⟨M, a1, a4⟩ := h3 e
    exact ⟨M, (up 12 (Ne.symm (h14 e))).trans a1, a4.up hb⟩
  · obtain ⟨M, a1, a4⟩ := h4 e
    exact ⟨M, (up 13 (Ne.symm (h15 e))).trans a1, a4.up hb⟩
/-- a box of another size is written -/
theorem tvF_put {wB : World} {V : Nat} {a b c d X : Int} {u : Nat → Value} {w w' : World} {M P : Nat} (hM : u 12 = .pointer (some ⟨M, 0, none⟩)) (hP : u 13 = .pointer (some ⟨P, 0, none⟩)) (i : Nat) (hi : i = 14 ∨ i = 15) (v : Value)
    (kM : ∀ vs, BxZ M vs w → ∃ vs', vs'.length = vs.length ∧ BxZ M vs' w' ∧ (i = 15 → vs' = vs)) (kP : ∀ vs, BxZ P vs w → ∃ vs', vs'.length = vs.length ∧ BxZ P vs' w' ∧ (i = 14 → vs' = vs)) (j : Nat) (hj : j ≠ i) (h : tvF wB V a b c d X j u w) : tvF wB V a b c d X j (upU u i v) w' := by
  have n12 : 12 ≠ i := by omega
  have n13 : 13 ≠ i := by omega
  obtain ⟨h0, h1, h2, h3, h4⟩ := h
  have up : ∀ k, k ≠ i → upU u i v k = u k := fun k hk => upU_other u v hk
  refine ⟨by rw [up j hj]; exact h0, fun e => ?_, fun e => ?_, fun e => ?_, fun e => ?_⟩
  · obtain ⟨M', vs, a1, a2, a3, a4⟩ := h1 e
    rw [hM] at a1
    cases a1
    obtain ⟨vs', b1, b2, -⟩ := kM vs a4
    exact ⟨M, vs', (up 12 n12).trans hM, a2, b1.trans a3, b2⟩
  · obtain ⟨P', vs, a1, a2, a3, a4⟩ := h2 e
    rw [hP] at a1
    cases a1
    obtain ⟨vs', b1, b2, -⟩ := kP vs a4
    exact ⟨P, vs', (up 13 n13).trans hP, a2, b1.trans a3, b2⟩
  · obtain ⟨M', a1, a4⟩ := h3 e
    rw [hM] at a1
    cases a1
    obtain ⟨vs', -, b2, b3⟩ := kM _ a4
    rw [b3 (hi.resolve_left (fun h => hj (e.trans h.symm)))] at b2
    exact ⟨M, (up 12 n12).trans hM, b2⟩
  · obtain ⟨P', a1, a4⟩ := h4 e
    rw [hP] at a1
    cases a1
    obtain ⟨vs', -, b2, b3⟩ := kP _ a4
    rw [b3 (hi.resolve_right (fun h => hj (e.trans h.symm)))] at b2
    exact ⟨P, (up 13 n13).trans hP, b2⟩

end Go.Proofs.YtkgkdhocmglklaaDoor

/- The twelve turns are right and unlike: the matrices held against one another, a region that draws. -/
import Derived.Test.YtggiegfkmkaaeaaDoorTgr
import Derived.Test.YtggiegfkmkaaeaaDoorLawTurns
namespace Go.Proofs.YtggiegfkmkaaeaaDoor
open Go.RowKit

/-- a turn of the table, and its matrix -/
def tbq (i r : Nat) : Int := tbA.getD (i * 4 + r) 0
def tbm (i : Nat) : Nat → Int := mtx (tbq i 0) (tbq i 1) (tbq i 2) (tbq i 3)
theorem tb_ok : ∀ i, i < 12 → tkB (tbq i 0) (tbq i 1) (tbq i 2) (tbq i 3) = true := by decide +kernel
set_option maxRecDepth 100000 in
theorem tb_dif : ∀ i, i < 12 → ∀ k, k < i → eqF (tbm i) (tbm k) 9 = false := by decide +kernel
/-- a matrix of a right turn -/
theorem mtR_any (a b c d : Int) (h : tkB a b c d = true) (w : World) : Calls Tryd.prog 17 #[tv a b c d] w fun e w' => ∃ b' cp, e = .returned (.slice (some ⟨b', 0, none⟩) 9 cp) ∧ w.heap.size ≤ b' ∧ Row b' 9 (mtx a b c d) w' ∧ Below w.heap.size w w' := by
  have h9 : tmN a b c d = 9 := by unfold tmN; rw [if_pos h]
  refine (implTurnMatrix_any a b c d w).mono ?_
  rw [h9]
  rintro e w' ⟨a', cp, b', rfl, ho, hB, hb⟩
  rcases ho with ho | ⟨rfl, hr⟩
  · omega
  · exact ⟨b', cp, rfl, hB.resolve_left (by omega), hr, hb⟩
/-- what each operation leaves -/
def tmF (tt tc i k : Nat) (j : Nat) (u : Nat → Value) (w : World) : Prop :=
  match j with
  | 0 => u 0 = .slice (some ⟨tt, 0, none⟩) 12 tc
  | 1 => u 1 = .int .i64 (i : Int)
  | 2 => u 2 = .pointer (some ⟨tt, i * 4, none⟩)
  | 3 => u 3 = tv (tbq i 0) (tbq i 1) (tbq i 2) (tbq i 3)
  | 4 => ∃ b cp, u 4 = .slice (some ⟨b, 0, none⟩) 9 cp ∧ Row b 9 (tbm i) w
  | 5 => u 5 = .slice (some ⟨tt, 0, none⟩) 12 tc
  | 6 => u 6 = .int .i64 (k : Int)
  | 7 => u 7 = .pointer (some ⟨tt, k * 4, none⟩)
  | 8 => u 8 = tv (tbq k 0) (tbq k 1) (tbq k 2) (tbq k 3)
  | 9 => ∃ b cp, u 9 = .slice (some ⟨b, 0, none⟩) 9 cp ∧ Row b 9 (tbm k) w
  | 10 => u 10 = .bool false
  | _ => True
theorem tmF_stab {tt tc i k : Nat} {w w' : World} (hb : Below w.heap.size w w') (u : Nat → Value) (q : Nat) (v : Value) (j : Nat) (hj : j ≠ q) (h : tmF tt tc i k j u w) : tmF tt tc i k j (upU u q v) w' := by
  have up : upU u q v j = u j := upU_other u v hj
  match j, up, h with
  | 0, up, h => exact up.trans h
  | 1, up, h => exact up.trans h
  | 2, up, h => exact up.trans h
  | 3, up, h => exact up.trans h
  | 4, up, h => obtain ⟨b, cp, e, hr⟩ := h; exact ⟨b, cp, up.trans e, hr.below hb (hr.lt (by omega))⟩
  | 5, up, h => exact up.trans h
  | 6, up, h => exact up.trans h
  | 7, up, h => exact up.trans h
  | 8, up, h => exact up.trans h
  | 9, up, h => obtain ⟨b, cp, e, hr⟩ := h; exact ⟨b, cp, up.trans e, hr.below hb (hr.lt (by omega))⟩
  | 10, up, h => exact up.trans h
  | _ + 11, _, _ => trivial

end Go.Proofs.YtggiegfkmkaaeaaDoor

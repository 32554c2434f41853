/- A region that draws, in which values are made and one of them is put into a new box: in general form, without volumes. -/
import Derived.Test.YtjdbiaoheoialaaRgu
import Derived.Test.YtjdbiaoheoialaaHom
namespace Go.Proofs.Ytjdbiaoheoialaa
open Go.RowKit

theorem Bx.lt {b : Nat} {v : Value} {vs : List Value} {w : World} (h : Bx b (v :: vs) w) : b < w.heap.size := World.block_lt_of_cell? w ⟨b, 0, none⟩ (h 0 v rfl).1
/-- a box out of what a law keeps in hand -/
theorem St.bxAt {w0 : World} {L : List BoxT} {O : List OwnT} {w : World} (h : St w0 L O w) (i : Nat) {b : Nat} {vs : List Value} (hm : L[i]? = some (b, vs)) : Bx b vs w := fun j _ hv => ⟨h.cell i hm j hv, h.free i hm j hv⟩
/-- what stays: the box that operation A made is empty until operation S has run -/
def bR (A S : Nat) (z : Value) (zs : List Value) (wB : World) (u : Nat → Value) (w : World) : Prop :=
  Below wB.heap.size wB w ∧ ∀ M, u A = .pointer (some ⟨M, 0, none⟩) → wB.heap.size ≤ M → u S ≠ undef ∨ Bx M (z :: zs) w
/-- what each operation leaves -/
def bG (A S : Nat) (wB : World) (G : Nat → Value → Prop) (P : Nat → World → Prop) (j : Nat) (u : Nat → Value) (w : World) : Prop :=
  G j (u j) ∧ (j = A → ∃ M, u A = .pointer (some ⟨M, 0, none⟩) ∧ wB.heap.size ≤ M) ∧ (j = S → ∃ M, u A = .pointer (some ⟨M, 0, none⟩) ∧ wB.heap.size ≤ M ∧ P M w)
theorem bR_up {A S : Nat} {z : Value} {zs : List Value} {wB : World} {u : Nat → Value} {w w' : World} (h : bR A S z zs wB u w) (hb : Below w.heap.size w w') (i : Nat) (hA : A ≠ i) (hS : S ≠ i) (v : Value) : bR A S z zs wB (upU u i v) w' := by
  refine ⟨h.1.trans (hb.mono h.1.size), fun M hM hMB => ?_⟩
  rw [upU_other u v hA] at hM
  rw [upU_other u v hS]
  rcases h.2 M hM hMB with h1 | h1
  · exact .inl h1
  · exact .inr (h1.below hb h1.lt)
theorem bG_up {A S : Nat} {wB : World} {G : Nat → Value → Prop} {P : Nat → World → Prop} {u : Nat → Value} {w w' : World} (hP : ∀ M, P M w → P M w') (i : Nat) (hA : A ≠ i) (v : Value) (j : Nat) (hj : j ≠ i) (h : bG A S wB G P j u w) : bG A S wB G P j (upU u i v) w' := by
  obtain ⟨h1, h3, h4⟩ := h
  refine ⟨by rw [upU_other u v hj]; exact h1, fun e => ?_, fun e => ?_⟩
  · rw [upU_other u v hA]; exact h3 e
  · obtain ⟨M, a1, a2, a3⟩ := h4 e
    exact ⟨M, by rw [upU_other u v hA]; exact a1, a2, hP M a3⟩
/-- a new box -/
theorem bR_al {A S : Nat} {z : Value} {zs : List Value} {wB : World} {u : Nat → Value} {w : World} (h : bR A S z zs wB u w) {o : Obj} (ho : Bx w.heap.size (z :: zs) (w.alloc o)) : bR A S z zs wB (upU u A (.pointer (some ⟨w.heap.size, 0, none⟩))) (w.alloc o) := by
  refine ⟨h.1.trans ((bnew w o).mono h.1.size), fun M hM _ => ?_⟩
  rw [upU_same] at hM
  cases hM
  exact .inr ho
theorem bG_al {A S : Nat} {wB : World} {G : Nat → Value → Prop} {P : Nat → World → Prop} {u : Nat → Value} {w w' : World} {v : Value} (j : Nat) (hj : j ≠ A) (hjS : j ≠ S) (h : bG A S wB G P j u w) : bG A S wB G P j (upU u A v) w' := by
  obtain ⟨h1, h3, h4⟩ := h
  exact ⟨by rw [upU_other _ _ hj]; exact h1, fun e => absurd e hj, fun e => absurd e hjS⟩
theorem bG_ptr {A S : Nat} {wB : World} {G : Nat → Value → Prop} {P : Nat → World → Prop} {u : Nat → Value} {w : World} (hAS : A ≠ S) (hG : ∀ v, G A v) {M : Nat} (hM : wB.heap.size ≤ M) : bG A S wB G P A (upU u A (.pointer (some ⟨M, 0, none⟩))) w :=
  ⟨hG _, fun _ => ⟨M, upU_same _ _ _, hM⟩, fun e => absurd e hAS⟩
/-- the box is filled -/
theorem bR_st {A S : Nat} {z : Value} {zs : List Value} {wB : World} {u : Nat → Value} {w : World} (h : Below wB.heap.size wB w) {v : Value} (hv : v ≠ undef) : bR A S z zs wB (upU u S v) w :=
  ⟨h, fun _ _ _ => .inl (by rw [upU_same]; exact hv)⟩
theorem bG_st {A S : Nat} {wB : World} {G : Nat → Value → Prop} {P : Nat → World → Prop} {u : Nat → Value} {w w' : World} {v : Value} (hAS : A ≠ S) (j : Nat) (hj : j ≠ S) (h : bG A S wB G P j u w) : bG A S wB G P j (upU u S v) w' := by
  obtain ⟨h1, h3, h4⟩ := h
  exact ⟨by rw [upU_other _ _ hj]; exact h1, fun e => by rw [upU_other _ _ hAS]; exact h3 e, fun e => absurd e hj⟩
theorem bG_done {A S : Nat} {wB : World} {G : Nat → Value → Prop} {P : Nat → World → Prop} {u : Nat → Value} {w : World} {v : Value} (hAS : A ≠ S) (hG : ∀ v, G S v) {M : Nat} (h : u A = .pointer (some ⟨M, 0, none⟩)) (hM : wB.heap.size ≤ M) (hP : P M w) : bG A S wB G P S (upU u S v) w :=
  ⟨hG _, fun e => absurd e.symm hAS, fun _ => ⟨M, (upU_other _ _ hAS).trans h, hM, hP⟩⟩
/-- a value is told -/
theorem bG_val {A S : Nat} {wB : World} {G : Nat → Value → Prop} {P : Nat → World → Prop} {u : Nat → Value} {w : World} (j : Nat) (hA : j ≠ A) (hS : j ≠ S) {v : Value} (h : G j v) : bG A S wB G P j (upU u j v) w :=
  ⟨by rw [upU_same]; exact h, fun e => absurd e hA, fun e => absurd e hS⟩

/-- what each operation leaves, where none of them writes -/
def hF (H : Nat → Value → World → Prop) (j : Nat) (u : Nat → Value) (w : World) : Prop := H j (u j) w
theorem hF_up {H : Nat → Value → World → Prop} {u : Nat → Value} {w w' : World} (hH : ∀ j v, H j v w → H j v w') (i : Nat) (v : Value) (j : Nat) (hj : j ≠ i) (h : hF H j u w) : hF H j (upU u i v) w' := by
  show H j (upU u i v j) w'
  rw [upU_other u v hj]
  exact hH _ _ h
theorem hF_val {H : Nat → Value → World → Prop} {u : Nat → Value} {w : World} (j : Nat) {v : Value} (h : H j v w) : hF H j (upU u j v) w := by
  show H j (upU u j v j) w
  rw [upU_same]
  exact h

end Go.Proofs.Ytjdbiaoheoialaa

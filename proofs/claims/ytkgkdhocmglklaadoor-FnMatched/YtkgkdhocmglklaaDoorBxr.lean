/- A region that draws, in which values are made and one of them is put into a new box: in general form. -/
import Derived.Test.YtkgkdhocmglklaaDoorTgq
namespace Go.Proofs.YtkgkdhocmglklaaDoor
open Go.RowKit

/-- what stays: the box that operation A made is empty until operation S has run -/
def bR (A S : Nat) (z : Value) (zs : List Value) (wB : World) (u : Nat → Value) (w : World) : Prop :=
  Below wB.heap.size wB w ∧ ∀ M, u A = .pointer (some ⟨M, 0, none⟩) → wB.heap.size ≤ M → u S ≠ undef ∨ Bx M (z :: zs) w
/-- a volume of the call's own, apart from the box -/
def VoB (A : Nat) (wB : World) (X : Int) (n : Nat) (u : Nat → Value) (v : Value) (f : Nat → Int) (w : World) : Prop :=
  ∃ b cp, v = vVolume X X X (some ⟨b, 0, none⟩) n cp ∧ Row b n f w ∧ wB.heap.size ≤ b ∧ ∀ M, u A = .pointer (some ⟨M, 0, none⟩) → M ≠ b
/-- what each operation leaves -/
def bF (A S : Nat) (wB : World) (X : Int) (n : Nat) (G : Nat → Value → Prop) (fo : Nat → Option (Nat → Int)) (P : Nat → World → Prop) (j : Nat) (u : Nat → Value) (w : World) : Prop :=
  G j (u j) ∧ (∀ f, fo j = some f → u S ≠ undef ∨ VoB A wB X n u (u j) f w) ∧ (j = A → ∃ M, u A = .pointer (some ⟨M, 0, none⟩) ∧ wB.heap.size ≤ M) ∧ (j = S → ∃ M, u A = .pointer (some ⟨M, 0, none⟩) ∧ wB.heap.size ≤ M ∧ P M w)
theorem bR_up {A S : Nat} {z : Value} {zs : List Value} {wB : World} {u : Nat → Value} {w w' : World} (h : bR A S z zs wB u w) (hb : Below w.heap.size w w') (i : Nat) (hA : A ≠ i) (hS : S ≠ i) (v : Value) : bR A S z zs wB (upU u i v) w' := by
  refine ⟨h.1.trans (hb.mono h.1.size), fun M hM hMB => ?_⟩
  rw [upU_other u v hA] at hM
  rw [upU_other u v hS]
  rcases h.2 M hM hMB with h1 | h1
  · exact .inl h1
  · exact .inr (h1.below hb h1.lt)
theorem VoB.up {A : Nat} {wB : World} {X : Int} {n : Nat} {u : Nat → Value} {x : Value} {f : Nat → Int} {w w' : World} (hn : 1 ≤ n) (h : VoB A wB X n u x f w) (hb : Below w.heap.size w w') (i : Nat) (hi : A ≠ i) (v : Value) : VoB A wB X n (upU u i v) x f w' := by
  obtain ⟨b, cp, e, hr, hB, hM⟩ := h
  exact ⟨b, cp, e, hr.below hb (hr.lt hn), hB, fun M h => hM M (by rwa [upU_other u v hi] at h)⟩
theorem bF_up {A S : Nat} {wB : World} {X : Int} {n : Nat} {G : Nat → Value → Prop} {fo : Nat → Option (Nat → Int)} {P : Nat → World → Prop} {u : Nat → Value} {w w' : World} (hn : 1 ≤ n) (hP : ∀ M, P M w → P M w') (hb : Below w.heap.size w w') (i : Nat) (hA : A ≠ i) (hS : S ≠ i) (v : Value) (j : Nat) (hj : j ≠ i) (h : bF A S wB X n G fo P j u w) : bF A S wB X n G fo P j (upU u i v) w' := by
  obtain ⟨h1, h2, h3, h4⟩ := h
  refine ⟨by rw [upU_other u v hj]; exact h1, fun f hf => ?_, fun e => ?_, fun e => ?_⟩
  · rw [upU_other u v hj, upU_other u v hS]
    exact (h2 f hf).imp id fun h => h.up hn hb i hA v
  · rw [upU_other u v hA]; exact h3 e
  · obtain ⟨M, a1, a2, a3⟩ := h4 e
    exact ⟨M, by rw [upU_other u v hA]; exact a1, a2, hP M a3⟩
/-- a new box -/
theorem bR_al {A S : Nat} {z : Value} {zs : List Value} {wB : World} {u : Nat → Value} {w : World} (h : bR A S z zs wB u w) {o : Obj} (ho : Bx w.heap.size (z :: zs) (w.alloc o)) : bR A S z zs wB (upU u A (.pointer (some ⟨w.heap.size, 0, none⟩))) (w.alloc o) := by
  refine ⟨h.1.trans ((bnew w o).mono h.1.size), fun M hM _ => ?_⟩
  rw [upU_same] at hM
  cases hM
  exact .inr ho
theorem bF_al {A S : Nat} {wB : World} {X : Int} {n : Nat} {G : Nat → Value → Prop} {fo : Nat → Option (Nat → Int)} {P : Nat → World → Prop} {u : Nat → Value} {w : World} (hn : 1 ≤ n) (hAS : S ≠ A) (o : Obj) (j : Nat) (hj : j ≠ A) (hjS : j ≠ S) (h : bF A S wB X n G fo P j u w) : bF A S wB X n G fo P j (upU u A (.pointer (some ⟨w.heap.size, 0, none⟩))) (w.alloc o) := by
  have hb := bnew w o
  obtain ⟨h1, h2, h3, h4⟩ := h
  refine ⟨by rw [upU_other _ _ hj]; exact h1, fun f hf => ?_, fun e => absurd e hj, fun e => absurd e hjS⟩
  rw [upU_other _ _ hj, upU_other _ _ hAS]
  refine (h2 f hf).imp id fun h => ?_
  obtain ⟨b, cp, e, hr, hB, hM⟩ := h
  refine ⟨b, cp, e, hr.below hb (hr.lt hn), hB, fun M hM' => ?_⟩
  rw [upU_same] at hM'
  cases hM'
  have := hr.lt hn
  omega
theorem bF_ptr {A S : Nat} {wB : World} {X : Int} {n : Nat} {G : Nat → Value → Prop} {fo : Nat → Option (Nat → Int)} {P : Nat → World → Prop} {u : Nat → Value} {w : World} (hAS : A ≠ S) (hG : ∀ v, G A v) (hf : fo A = none) {M : Nat} (hM : wB.heap.size ≤ M) : bF A S wB X n G fo P A (upU u A (.pointer (some ⟨M, 0, none⟩))) w :=
  ⟨hG _, fun f h => (by rw [hf] at h; cases h), fun _ => ⟨M, upU_same _ _ _, hM⟩, fun e => absurd e hAS⟩
/-- the box is filled -/
theorem bR_st {A S : Nat} {z : Value} {zs : List Value} {wB : World} {u : Nat → Value} {w : World} (h : Below wB.heap.size wB w) {v : Value} (hv : v ≠ undef) : bR A S z zs wB (upU u S v) w :=
  ⟨h, fun _ _ _ => .inl (by rw [upU_same]; exact hv)⟩
theorem bF_st {A S : Nat} {wB : World} {X : Int} {n : Nat} {G : Nat → Value → Prop} {fo : Nat → Option (Nat → Int)} {P : Nat → World → Prop} {u : Nat → Value} {w w' : World} {v : Value} (hAS : A ≠ S) (hv : v ≠ undef) (j : Nat) (hj : j ≠ S) (h : bF A S wB X n G fo P j u w) : bF A S wB X n G fo P j (upU u S v) w' := by
  obtain ⟨h1, h2, h3, h4⟩ := h
  exact ⟨by rw [upU_other _ _ hj]; exact h1, fun f hf => .inl (by rw [upU_same]; exact hv), fun e => by rw [upU_other _ _ hAS]; exact h3 e, fun e => absurd e hj⟩
theorem bF_done {A S : Nat} {wB : World} {X : Int} {n : Nat} {G : Nat → Value → Prop} {fo : Nat → Option (Nat → Int)} {P : Nat → World → Prop} {u : Nat → Value} {w : World} {v : Value} (hAS : A ≠ S) (hG : ∀ v, G S v) (hf : fo S = none) {M : Nat} (h : u A = .pointer (some ⟨M, 0, none⟩)) (hM : wB.heap.size ≤ M) (hP : P M w) : bF A S wB X n G fo P S (upU u S v) w :=
  ⟨hG _, fun f h => (by rw [hf] at h; cases h), fun e => absurd e.symm hAS, fun _ => ⟨M, (upU_other _ _ hAS).trans h, hM, hP⟩⟩
/-- a value is told -/
theorem bF_val {A S : Nat} {wB : World} {X : Int} {n : Nat} {G : Nat → Value → Prop} {fo : Nat → Option (Nat → Int)} {P : Nat → World → Prop} {u : Nat → Value} {w : World} (j : Nat) (hA : j ≠ A) (hS : j ≠ S) (hf : fo j = none) {v : Value} (h : G j v) : bF A S wB X n G fo P j (upU u j v) w :=
  ⟨by rw [upU_same]; exact h, fun f h => (by rw [hf] at h; cases h), fun e => absurd e hA, fun e => absurd e hS⟩
/-- a volume is made -/
theorem bF_vol {A S : Nat} {z : Value} {zs : List Value} {wB : World} {X : Int} {n : Nat} {G : Nat → Value → Prop} {fo : Nat → Option (Nat → Int)} {P : Nat → World → Prop} {u : Nat → Value} {w w' : World} (j : Nat) (hA : j ≠ A) (hS : j ≠ S) {f : Nat → Int} (hf : fo j = some f) (hG : ∀ v, G j v) (hR : bR A S z zs wB u w) (h7 : u S = undef) {b cp : Nat} (hB : w.heap.size ≤ b) (hr : Row b n f w') :
    bF A S wB X n G fo P j (upU u j (vVolume X X X (some ⟨b, 0, none⟩) n cp)) w' := by
  refine ⟨hG _, fun f' h => ?_, fun e => absurd e hA, fun e => absurd e hS⟩
  rw [hf] at h
  cases h
  refine .inr ⟨b, cp, upU_same _ _ _, hr, Nat.le_trans hR.1.size hB, fun M hM => ?_⟩
  rw [upU_other _ _ (Ne.symm hA)] at hM
  by_cases hMB : wB.heap.size ≤ M
  · rcases hR.2 M hM hMB with h1 | h1
    · exact absurd h7 h1
    · have := h1.lt
      omega
  · have := hR.1.size
    omega

/-- what each operation leaves, where none of them writes -/
def hF (H : Nat → Value → World → Prop) (j : Nat) (u : Nat → Value) (w : World) : Prop := H j (u j) w
theorem hF_up {H : Nat → Value → World → Prop} {u : Nat → Value} {w w' : World} (hH : ∀ j v, H j v w → H j v w') (i : Nat) (v : Value) (j : Nat) (hj : j ≠ i) (h : hF H j u w) : hF H j (upU u i v) w' := by
  show H j (upU u i v j) w'
  rw [upU_other u v hj]
  exact hH _ _ h
theorem hF_val {H : Nat → Value → World → Prop} {u : Nat → Value} {w : World} (j : Nat) {v : Value} (h : H j v w) : hF H j (upU u j v) w := by
  show H j (upU u j v j) w
  rw [upU_same]
  exact h

end Go.Proofs.YtkgkdhocmglklaaDoor

/- A region that draws, in which two boxes of different sizes are made and filled: in general form. -/
import Derived.Test.YtedhaakjgnpehaaRgb
import Derived.Test.YtedhaakjgnpehaaRgv
namespace Go.Proofs.Ytedhaakjgnpehaa
open Go.RowKit

/-- the two boxes: where they are made, where they are filled, with what -/
structure TwoB where
  A1 : Nat
  A2 : Nat
  S1 : Nat
  S2 : Nat
  n1 : Nat
  n2 : Nat
  L1 : List Value
  L2 : List Value
/-- what each operation leaves -/
def tF (b : TwoB) (wB : World) (G : Nat → Value → Prop) (j : Nat) (u : Nat → Value) (w : World) : Prop :=
  G j (u j) ∧
  (j = b.A1 → ∃ M vs, u b.A1 = .pointer (some ⟨M, 0, none⟩) ∧ wB.heap.size ≤ M ∧ vs.length = b.n1 ∧ BxZ M vs w) ∧
  (j = b.A2 → ∃ P vs, u b.A2 = .pointer (some ⟨P, 0, none⟩) ∧ wB.heap.size ≤ P ∧ vs.length = b.n2 ∧ BxZ P vs w) ∧
  (j = b.S1 → ∃ M, u b.A1 = .pointer (some ⟨M, 0, none⟩) ∧ BxZ M b.L1 w) ∧
  (j = b.S2 → ∃ P, u b.A2 = .pointer (some ⟨P, 0, none⟩) ∧ BxZ P b.L2 w)
theorem tF_val {b : TwoB} {wB : World} {G : Nat → Value → Prop} {j : Nat} {u : Nat → Value} {w : World} {v : Value} (h : G j v) (h1 : j ≠ b.A1) (h2 : j ≠ b.A2) (h3 : j ≠ b.S1) (h4 : j ≠ b.S2) : tF b wB G j (upU u j v) w :=
  ⟨by rw [upU_same]; exact h, fun e => absurd e h1, fun e => absurd e h2, fun e => absurd e h3, fun e => absurd e h4⟩
theorem tF_up {b : TwoB} {wB : World} {G : Nat → Value → Prop} {u : Nat → Value} {w w' : World} (hb : Below w.heap.size w w') (i : Nat) (v : Value) (j : Nat) (hj : j ≠ i) (h1 : j = b.S1 → i ≠ b.A1) (h2 : j = b.S2 → i ≠ b.A2) (h : tF b wB G j u w) : tF b wB G j (upU u i v) w' := by
  obtain ⟨k0, k1, k2, k3, k4⟩ := h
  have up : ∀ k, k ≠ i → upU u i v k = u k := fun k hk => upU_other u v hk
  refine ⟨by rw [up j hj]; exact k0, fun e => ?_, fun e => ?_, fun e => ?_, fun e => ?_⟩
  · obtain ⟨M, vs, a1, a2, a3, a4⟩ := k1 e
    exact ⟨M, vs, (up _ (fun e' => hj (e.trans e'))).trans a1, a2, a3, a4.up hb⟩
  · obtain ⟨M, vs, a1, a2, a3, a4⟩ := k2 e
    exact ⟨M, vs, (up _ (fun e' => hj (e.trans e'))).trans a1, a2, a3, a4.up hb⟩
  · obtain ⟨M, a1, a4⟩ := k3 e
    exact ⟨M, (up _ (Ne.symm (h1 e))).trans a1, a4.up hb⟩
  · obtain ⟨M, a1, a4⟩ := k4 e
    exact ⟨M, (up _ (Ne.symm (h2 e))).trans a1, a4.up hb⟩
/-- a box of another size is written -/
theorem tF_put {b : TwoB} {wB : World} {G : Nat → Value → Prop} {u : Nat → Value} {w w' : World} {M P : Nat} (hM : u b.A1 = .pointer (some ⟨M, 0, none⟩)) (hP : u b.A2 = .pointer (some ⟨P, 0, none⟩)) (i : Nat) (hi : i = b.S1 ∨ i = b.S2) (n1 : b.A1 ≠ i) (n2 : b.A2 ≠ i) (v : Value)
    (kM : ∀ vs, BxZ M vs w → ∃ vs', vs'.length = vs.length ∧ BxZ M vs' w' ∧ (i = b.S2 → vs' = vs)) (kP : ∀ vs, BxZ P vs w → ∃ vs', vs'.length = vs.length ∧ BxZ P vs' w' ∧ (i = b.S1 → vs' = vs)) (j : Nat) (hj : j ≠ i) (h : tF b wB G j u w) : tF b wB G j (upU u i v) w' := by
  obtain ⟨h0, h1, h2, h3, h4⟩ := h
  have up : ∀ k, k ≠ i → upU u i v k = u k := fun k hk => upU_other u v hk
  refine ⟨by rw [up j hj]; exact h0, fun e => ?_, fun e => ?_, fun e => ?_, fun e => ?_⟩
  · obtain ⟨M', vs, a1, a2, a3, a4⟩ := h1 e
    rw [hM] at a1
    cases a1
    obtain ⟨vs', b1, b2, -⟩ := kM vs a4
    exact ⟨M, vs', (up _ n1).trans hM, a2, b1.trans a3, b2⟩
  · obtain ⟨P', vs, a1, a2, a3, a4⟩ := h2 e
    rw [hP] at a1
    cases a1
    obtain ⟨vs', b1, b2, -⟩ := kP vs a4
    exact ⟨P, vs', (up _ n2).trans hP, a2, b1.trans a3, b2⟩
  · obtain ⟨M', a1, a4⟩ := h3 e
    rw [hM] at a1
    cases a1
    obtain ⟨vs', -, b2, b3⟩ := kM _ a4
    rw [b3 (hi.resolve_left (fun h => hj (e.trans h.symm)))] at b2
    exact ⟨M, (up _ n1).trans hM, b2⟩
  · obtain ⟨P', a1, a4⟩ := h4 e
    rw [hP] at a1
    cases a1
    obtain ⟨vs', -, b2, b3⟩ := kP _ a4
    rw [b3 (hi.resolve_right (fun h => hj (e.trans h.symm)))] at b2
    exact ⟨P, (up _ n2).trans hP, b2⟩
/-- the end: both boxes are taken in hand -/
theorem tF_end {b : TwoB} {w0 wB : World} {L : List BoxT} {O : List OwnT} {G : Nat → Value → Prop} {u : Nat → Value} {w : World} (hs : St w0 L O wB) (hb : Below wB.heap.size wB w) (h1 : tF b wB G b.A1 u w) (h2 : tF b wB G b.A2 u w) (h3 : tF b wB G b.S1 u w) (h4 : tF b wB G b.S2 u w) (hl : b.L1.length ≠ b.L2.length) :
    ∃ M P, u b.A1 = .pointer (some ⟨M, 0, none⟩) ∧ u b.A2 = .pointer (some ⟨P, 0, none⟩) ∧ St w0 ((P, b.L2) :: (M, b.L1) :: L) O w := by
  obtain ⟨M, hM1, hM2⟩ := h3.2.2.2.1 rfl
  obtain ⟨P, hP1, hP2⟩ := h4.2.2.2.2 rfl
  obtain ⟨M', vs, hm1, hm2, -, -⟩ := h1.2.1 rfl
  obtain ⟨P', ps, hp1, hp2, -, -⟩ := h2.2.2.1 rfl
  rw [hM1] at hm1
  rw [hP1] at hp1
  cases hm1
  cases hp1
  have hMP : P ≠ M := hP2.ne hM2 (Ne.symm hl)
  have hMn : M ∉ blocks L O := fun h => by have := (hs.lt M h).2; omega
  have hPn : P ∉ blocks L O := fun h => by have := (hs.lt P h).2; omega
  have hw3 := hs.below.size
  refine ⟨M, P, hM1, hP1, ((hs.next hb).take hM2 hMn (by omega)).take hP2 (fun h => ?_) (by omega)⟩
  rcases List.mem_cons.1 h with h | h
  · exact hMP h
  · exact hPn h

end Go.Proofs.Ytedhaakjgnpehaa

/- A region that makes one box and fills it. -/
import Derived.Test.YtkgkdhocmglklaaDoorRgb
namespace Go.Proofs.YtkgkdhocmglklaaDoor
open Go.RowKit

/-- what each operation leaves: a value each, and the box -/
def oneF (G : Nat → Value → Prop) (al st : Nat) (L : List Value) (wB : World) (j : Nat) (u : Nat → Value) (w : World) : Prop :=
  G j (u j) ∧
  (j = al → ∃ P vs, u al = .pointer (some ⟨P, 0, none⟩) ∧ wB.heap.size ≤ P ∧ vs.length = L.length ∧ BxZ P vs w) ∧
  (j = st → ∃ P, u al = .pointer (some ⟨P, 0, none⟩) ∧ BxZ P L w)
theorem oneF_val {G : Nat → Value → Prop} {al st : Nat} {L : List Value} {wB : World} {j : Nat} {u : Nat → Value} {w : World} (h : G j (u j)) (h1 : j ≠ al) (h2 : j ≠ st) : oneF G al st L wB j u w := ⟨h, fun e => absurd e h1, fun e => absurd e h2⟩
theorem oneF_up {G : Nat → Value → Prop} {al st : Nat} {L : List Value} {wB : World} {u : Nat → Value} {w w' : World} (hb : Below w.heap.size w w') (i : Nat) (v : Value) (j : Nat) (hj : j ≠ i) (h14 : j = st → i ≠ al) (h : oneF G al st L wB j u w) : oneF G al st L wB j (upU u i v) w' := by
  obtain ⟨h0, h1, h3⟩ := h
  have up : ∀ k, k ≠ i → upU u i v k = u k := fun k hk => upU_other u v hk
  refine ⟨by rw [up j hj]; exact h0, fun e => ?_, fun e => ?_⟩
  · obtain ⟨M, vs, a1, a2, a3, a4⟩ := h1 e
    exact ⟨M, vs, (up al (fun e' => hj (e.trans e'))).trans a1, a2, a3, a4.up hb⟩
  · obtain ⟨M, a1, a4⟩ := h3 e
    exact ⟨M, (up al (Ne.symm (h14 e))).trans a1, a4.up hb⟩
theorem oneF_put {G : Nat → Value → Prop} {al st : Nat} {L : List Value} {wB : World} {u : Nat → Value} {w : World} {P : Nat} {ps : List Value} (hP : u al = .pointer (some ⟨P, 0, none⟩)) (hps : ps.length = L.length) (hx : BxZ P ps w) (hne : al ≠ st) (v : Value) (j : Nat) (hj : j ≠ st) (h : oneF G al st L wB j u w) : oneF G al st L wB j (upU u st v) (w.setCells P 0 L) := by
  obtain ⟨h0, h1, -⟩ := h
  refine ⟨by rw [upU_other u v hj]; exact h0, fun e => ?_, fun e => absurd e hj⟩
  obtain ⟨M, vs, a1, a2, a3, a4⟩ := h1 e
  rw [hP] at a1
  cases a1
  exact ⟨P, L, (upU_other u v hne).trans hP, a2, rfl, hx.sets L hps⟩
theorem oneF_done {G : Nat → Value → Prop} {al st : Nat} {L : List Value} {wB : World} {u : Nat → Value} {w : World} {P : Nat} {ps : List Value} (hP : u al = .pointer (some ⟨P, 0, none⟩)) (hps : ps.length = L.length) (hx : BxZ P ps w) (hne : al ≠ st) (v : Value) (hG : G st v) : oneF G al st L wB st (upU u st v) (w.setCells P 0 L) :=
  ⟨by rw [upU_same]; exact hG, fun e => absurd e.symm hne, fun _ => ⟨P, (upU_other u v hne).trans hP, hx.sets L hps⟩⟩

end Go.Proofs.YtkgkdhocmglklaaDoor

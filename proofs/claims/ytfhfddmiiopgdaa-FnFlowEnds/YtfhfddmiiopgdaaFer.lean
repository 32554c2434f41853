/- A flow is copied and acted upon, in a region that draws: what each operation leaves. -/
import Derived.Test.YtfhfddmiiopgdaaRgi
import Derived.Test.YtfhfddmiiopgdaaFle
namespace Go.Proofs.Ytfhfddmiiopgdaa
open Go.RowKit

theorem ow_at {a : Option Addr} {b m : Nat} {s : Nat → Int} {w : World} (h : Ow a b m s w) (q : Addr) (hq : m ≠ 0 → b ≠ q.block) (u : Value) : Ow a b m s (w.setCell q u) := by
  by_cases h0 : m = 0
  · exact .inl h0
  · exact (h.v.kept ((Kept.refl q.block w).setCell rfl u) (hq h0)).i
/-- what each operation leaves -/
def feF (wB : World) (F8 : Nat) (c : Int) (fa : Option Addr) (n fc : Nat) (g : Nat → Int) (kd id du K : Int) (M : Nat) (G : Nat → Int) : Nat → (Nat → Value) → World → Prop
  | 0, u, _ => u 0 = .pointer (some ⟨F8, 0, none⟩)
  | 1, u, _ => u 1 = .int .i64 c
  | 2, u, w => u 5 ≠ undef ∨ ∃ b, u 2 = .slice (some ⟨b, 0, none⟩) 0 0 ∧ w.ownsRow wB.heap.size 41 4 (.slice (some ⟨b, 0, none⟩) 0 0) 0 (ints [])
  | 3, u, _ => u 3 = .pointer (some ⟨F8, 1, none⟩)
  | 4, u, _ => u 4 = .slice fa n fc
  | 5, u, w => u 8 ≠ undef ∨ ∃ ad cp, u 5 = .slice ad n cp ∧ Px ad (n * 4) g w
  | 6, u, w => u 8 ≠ undef ∨ ∃ ad cp, u 6 = vFlow c ad n cp ∧ Px ad (n * 4) g w
  | 7, u, _ => u 7 = vAct kd id du
  | 8, u, w => ∃ ha hc hb code, u 8 = .tuple #[vFlow K ha M hc, .int .i64 code] ∧ (u 13 ≠ undef ∨ Ow ha hb (M * 4) G w)
  | 9, u, w => ∃ ha hc hb code, u 9 = .tuple #[vFlow K ha M hc, .int .i64 code] ∧ (u 13 ≠ undef ∨ Ow ha hb (M * 4) G w)
  | 10, u, w => ∃ ha hc hb, u 10 = vFlow K ha M hc ∧ (u 13 ≠ undef ∨ Ow ha hb (M * 4) G w)
  | 11, u, _ => ∃ code, u 11 = .int .i64 code
  | 12, u, w => ∃ X, u 12 = .pointer (some ⟨X, 0, none⟩) ∧ wB.heap.size ≤ X ∧ (u 13 ≠ undef ∨ Bx X [.int .i64 0, .slice none 0 0] w)
  | 13, u, w => ∃ X ha hc hb, u 12 = .pointer (some ⟨X, 0, none⟩) ∧ Bx X [.int .i64 K, .slice ha M hc] w ∧ Ow ha hb (M * 4) G w
  | _, _, _ => True
theorem upU_ne {u : Nat → Value} {i : Nat} {v : Value} {k : Nat} (h : u k ≠ undef) (hv : i = k → v ≠ undef) : upU u i v k ≠ undef := by
  by_cases e : k = i
  · subst e; rw [upU_same]; exact hv rfl
  · rw [upU_other u v e]; exact h
section
variable {wB : World} {F8 : Nat} {c : Int} {fa : Option Addr} {n fc : Nat} {g : Nat → Int} {kd id du K : Int} {M : Nat} {G : Nat → Int}
theorem feF_up {u : Nat → Value} {w w' : World} (hb : Below w.heap.size w w') (i : Nat) (v : Value) (h5 : i = 5 → v ≠ undef) (h8 : i = 8 → v ≠ undef) (h13 : i ≠ 13) : ∀ j, j ≠ i → (j = 13 → i ≠ 12) → feF wB F8 c fa n fc g kd id du K M G j u w → feF wB F8 c fa n fc g kd id du K M G j (upU u i v) w' := by
  intro j hj hx h
  have up : ∀ k, k ≠ i → upU u i v k = u k := fun k hk => upU_other u v hk
  have u13 : upU u i v 13 = u 13 := up 13 (Ne.symm h13)
  match j, hj, h, hx with
  | 0, hj, h, _ => exact (up 0 hj).trans h
  | 1, hj, h, _ => exact (up 1 hj).trans h
  | 2, hj, h, _ =>
    rcases h with h | ⟨b, h1, h2⟩
    · exact .inl (upU_ne h h5)
    · exact .inr ⟨b, (up 2 hj).trans h1, ownsRow_below' h2 hb⟩
  | 3, hj, h, _ => exact (up 3 hj).trans h
  | 4, hj, h, _ => exact (up 4 hj).trans h
  | 5, hj, h, _ =>
    rcases h with h | ⟨ad, cp, h1, h2⟩
    · exact .inl (upU_ne h h8)
    · exact .inr ⟨ad, cp, (up 5 hj).trans h1, h2.below hb⟩
  | 6, hj, h, _ =>
    rcases h with h | ⟨ad, cp, h1, h2⟩
    · exact .inl (upU_ne h h8)
    · exact .inr ⟨ad, cp, (up 6 hj).trans h1, h2.below hb⟩
  | 7, hj, h, _ => exact (up 7 hj).trans h
  | 8, hj, h, _ =>
    obtain ⟨a1, a2, a3, a4, h1, h2⟩ := h
    exact ⟨a1, a2, a3, a4, (up 8 hj).trans h1, h2.imp (fun h => by rw [u13]; exact h) (fun h => h.below' hb)⟩
  | 9, hj, h, _ =>
    obtain ⟨a1, a2, a3, a4, h1, h2⟩ := h
    exact ⟨a1, a2, a3, a4, (up 9 hj).trans h1, h2.imp (fun h => by rw [u13]; exact h) (fun h => h.below' hb)⟩
  | 10, hj, h, _ =>
    obtain ⟨a1, a2, a3, h1, h2⟩ := h
    exact ⟨a1, a2, a3, (up 10 hj).trans h1, h2.imp (fun h => by rw [u13]; exact h) (fun h => h.below' hb)⟩
  | 11, hj, h, _ => obtain ⟨code, h⟩ := h; exact ⟨code, (up 11 hj).trans h⟩
  | 12, hj, h, _ =>
    obtain ⟨X, h1, h2, h3⟩ := h
    refine ⟨X, (up 12 hj).trans h1, h2, ?_⟩
    rcases h3 with h3 | h3
    · exact .inl (by rw [u13]; exact h3)
    · exact .inr (h3.below hb (World.block_lt_of_cell? w ⟨X, 0, none⟩ (h3 0 _ rfl).1))
  | 13, hj, h, hx =>
    obtain ⟨X, a1, a2, a3, h1, h2, h3⟩ := h
    exact ⟨X, a1, a2, a3, (up 12 (Ne.symm (hx rfl))).trans h1, h2.below hb (World.block_lt_of_cell? w ⟨X, 0, none⟩ (h2 0 _ rfl).1), h3.below' hb⟩
  | _ + 14, _, _, _ => trivial
theorem row_none {w : World} {B b : Nat} {e : TypeId} (h : w.ownsRow B e 4 (.slice (some ⟨b, 0, none⟩) 0 0) 0 (ints [])) : w.cell? ⟨b, 0, none⟩ = none := by
  obtain ⟨-, hv | ⟨b', cap', cur, hv, -, hh, -, -, hs, -⟩⟩ := h
  · cases hv.1
  · cases hv
    have : cur = #[] := by simpa using hs
    subst this
    simp [World.cell?, hh]
theorem feF_grow {u : Nat → Value} {w w' : World} {b : Nat} (hg : w.grownBy w' (some b)) (hr : w.cell? ⟨b, 0, none⟩ = none) (v : Value) (h5 : v ≠ undef) : ∀ j, j ≠ 5 → j ≠ 6 → j ≠ 8 → j ≠ 9 → j ≠ 10 → j ≠ 13 → feF wB F8 c fa n fc g kd id du K M G j u w → feF wB F8 c fa n fc g kd id du K M G j (upU u 5 v) w' := by
  intro j hj j6 j8 j9 j10 j13 h
  have up : ∀ k, k ≠ 5 → upU u 5 v k = u k := fun k hk => upU_other u v hk
  match j, h with
  | 0, h => exact (up 0 (by omega)).trans h
  | 1, h => exact (up 1 (by omega)).trans h
  | 2, _ => exact .inl (by rw [upU_same]; exact h5)
  | 3, h => exact (up 3 (by omega)).trans h
  | 4, h => exact (up 4 (by omega)).trans h
  | 5, _ => exact absurd rfl hj
  | 6, _ => exact absurd rfl j6
  | 7, h => exact (up 7 (by omega)).trans h
  | 8, _ => exact absurd rfl j8
  | 9, _ => exact absurd rfl j9
  | 10, _ => exact absurd rfl j10
  | 11, h => obtain ⟨code, h⟩ := h; exact ⟨code, (up 11 (by omega)).trans h⟩
  | 12, h =>
    obtain ⟨X, h1, h2, h3⟩ := h
    refine ⟨X, (up 12 (by omega)).trans h1, h2, ?_⟩
    rcases h3 with h3 | h3
    · exact .inl (by rw [up 13 (by omega)]; exact h3)
    · have hX : some X ≠ some b := fun e => by
        cases e
        rw [(h3 0 _ rfl).1] at hr; cases hr
      have hl := World.block_lt_of_cell? w ⟨X, 0, none⟩ (h3 0 _ rfl).1
      exact .inr fun j u hj => ⟨(hg.cell_far ⟨X, j, none⟩ hl hX).trans (h3 j u hj).1, (hg.frozen_far ⟨X, j, none⟩ hl hX).trans (h3 j u hj).2⟩
  | 13, _ => exact absurd rfl j13
  | _ + 14, _ => trivial
theorem feF_put {u : Nat → Value} {w : World} {X : Nat} {ha : Option Addr} {hc hb : Nat} (hX : Bx X [.int .i64 0, .slice none 0 0] w) (hO : Ow ha hb (M * 4) G w) (h8 : u 8 ≠ undef) (h12 : u 12 = .pointer (some ⟨X, 0, none⟩)) :
    feF wB F8 c fa n fc g kd id du K M G 13 (upU u 13 (.int .i64 0)) ((w.setCell ⟨X, 0, none⟩ (.int .i64 K)).setCell ⟨X, 1, none⟩ (.slice ha M hc)) ∧
    ∀ j, j ≠ 13 → feF wB F8 c fa n fc g kd id du K M G j u w → feF wB F8 c fa n fc g kd id du K M G j (upU u 13 (.int .i64 0)) ((w.setCell ⟨X, 0, none⟩ (.int .i64 K)).setCell ⟨X, 1, none⟩ (.slice ha M hc)) := by
  have up : ∀ k, k ≠ 13 → upU u 13 (.int .i64 0) k = u k := fun k hk => upU_other u _ hk
  have d13 : upU u 13 (.int .i64 0) 13 ≠ undef := by rw [upU_same]; intro h; cases h
  have ne : M * 4 ≠ 0 → hb ≠ X := fun h0 e => by
    subst e
    rcases hO with h | ⟨-, h⟩
    · exact h0 h
    · have h1 := (h 1 (by omega)).1
      rw [(hX 1 _ rfl).1] at h1
      cases h1
  refine ⟨⟨X, ha, hc, hb, (up 12 (by omega)).trans h12, (hX.set 0 (.int .i64 K)).set 1 (.slice ha M hc), ow_at (ow_at hO ⟨X, 0, none⟩ ne _) ⟨X, 1, none⟩ ne _⟩, fun j hj h => ?_⟩
  match j, h with
  | 0, h => exact (up 0 (by omega)).trans h
  | 1, h => exact (up 1 (by omega)).trans h
  | 2, h =>
    rcases h with h | ⟨b, h1, h2⟩
    · exact .inl (by rw [up 5 (by omega)]; exact h)
    · have hbX : b ≠ X := fun e => by
        have hr := row_none h2
        rw [e, (hX 0 _ rfl).1] at hr; cases hr
      have hne : ∀ b', Value.ownBlock (.slice (some ⟨b, 0, none⟩) 0 0) = some b' → b' ≠ X := fun b' e => by cases e; exact hbX
      exact .inr ⟨b, (up 2 (by omega)).trans h1, owns_set (owns_set h2 (q := ⟨X, 0, none⟩) hne _) (q := ⟨X, 1, none⟩) hne _⟩
  | 3, h => exact (up 3 (by omega)).trans h
  | 4, h => exact (up 4 (by omega)).trans h
  | 5, _ => exact .inl (by rw [up 8 (by omega)]; exact h8)
  | 6, _ => exact .inl (by rw [up 8 (by omega)]; exact h8)
  | 7, h => exact (up 7 (by omega)).trans h
  | 8, h => obtain ⟨a1, a2, a3, a4, h1, -⟩ := h; exact ⟨a1, a2, a3, a4, (up 8 (by omega)).trans h1, .inl d13⟩
  | 9, h => obtain ⟨a1, a2, a3, a4, h1, -⟩ := h; exact ⟨a1, a2, a3, a4, (up 9 (by omega)).trans h1, .inl d13⟩
  | 10, h => obtain ⟨a1, a2, a3, h1, -⟩ := h; exact ⟨a1, a2, a3, (up 10 (by omega)).trans h1, .inl d13⟩
  | 11, h => obtain ⟨code, h⟩ := h; exact ⟨code, (up 11 (by omega)).trans h⟩
  | 12, h => obtain ⟨X', h1, h2, -⟩ := h; exact ⟨X', (up 12 (by omega)).trans h1, h2, .inl d13⟩
  | 13, _ => exact absurd rfl hj
  | _ + 14, _ => trivial
end

end Go.Proofs.Ytfhfddmiiopgdaa

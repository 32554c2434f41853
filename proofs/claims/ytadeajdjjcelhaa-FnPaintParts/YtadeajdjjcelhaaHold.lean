/- What the law keeps in hand: boxes of images and lists of its own, all in blocks apart. -/
import Derived.Test.YtadeajdjjcelhaaAddS2
namespace Go.Proofs.Ytadeajdjjcelhaa
open Go.RowKit

abbrev BoxT := Nat × Int × Int × Value
abbrev OwnT := Option Addr × Nat × Nat × (Nat → Int)
def blocks (L : List BoxT) (O : List OwnT) : List Nat := L.map (fun x => x.1) ++ O.map (fun x => x.2.1)

structure St (w0 : World) (L : List BoxT) (O : List OwnT) (w : World) : Prop where
  below : Below w0.heap.size w0 w
  im : ∀ x ∈ L, Im x.1 x.2.1 x.2.2.1 x.2.2.2 w
  fr : ∀ x ∈ L, Free x.1 w
  ow : ∀ x ∈ O, Ow x.1 x.2.1 x.2.2.1 x.2.2.2 w
  lt : ∀ b ∈ blocks L O, w0.heap.size ≤ b ∧ b < w.heap.size
  nd : (blocks L O).Nodup

theorem mem_blocks_own {L : List BoxT} {O : List OwnT} {x : OwnT} (h : x ∈ O) : x.2.1 ∈ blocks L O := by
  unfold blocks; exact List.mem_append.2 (.inr (List.mem_map.2 ⟨x, h, rfl⟩))
theorem mem_blocks_box {L : List BoxT} {O : List OwnT} {x : BoxT} (h : x ∈ L) : x.1 ∈ blocks L O := by
  unfold blocks; exact List.mem_append.2 (.inl (List.mem_map.2 ⟨x, h, rfl⟩))

theorem Free.below {b : Nat} {w w' : World} (h : Free b w) (hb : Below w.heap.size w w') (hl : b < w.heap.size) : Free b w' :=
  ⟨(hb.frozen (p := ⟨b, 0, none⟩) hl).trans h.1, (hb.frozen (p := ⟨b, 1, none⟩) hl).trans h.2.1, (hb.frozen (p := ⟨b, 2, none⟩) hl).trans h.2.2⟩

theorem Free.kept {b p : Nat} {W H : Int} {s : Value} {w w' : World} (h : Free b w) (hi : Im b W H s w) (hk : Kept p w w') (hp : b ≠ p) : Free b w' :=
  ⟨(hk.frozen (a := ⟨b, 0, none⟩) hp hi.1).trans h.1, (hk.frozen (a := ⟨b, 1, none⟩) hp hi.2.1).trans h.2.1, (hk.frozen (a := ⟨b, 2, none⟩) hp hi.2.2).trans h.2.2⟩

theorem Free.new (W H : Int) (s : Value) (t : TypeId) (w : World) : Free w.heap.size (w.alloc (.cells #[.int .i64 W, .int .i64 H, s] t)) := by
  refine ⟨?_, ?_, ?_⟩ <;> simp [go_sem]

theorem St.start (w : World) : St w [] [] w := ⟨Below.refl _ _, fun _ h => (by cases h), fun _ h => (by cases h), fun _ h => (by cases h), fun _ h => (by cases h), List.nodup_nil⟩

theorem St.next {w0 : World} {L : List BoxT} {O : List OwnT} {w w' : World} (h : St w0 L O w) (hb : Below w.heap.size w w') : St w0 L O w' :=
  ⟨Below.next h.below (Nat.le_refl _) hb, fun x hx => (h.im x hx).below hb, fun x hx => (h.fr x hx).below hb (h.lt _ (mem_blocks_box hx)).2, fun x hx => (h.ow x hx).below hb (h.lt _ (mem_blocks_own hx)).2,
    fun b hb' => ⟨(h.lt b hb').1, Nat.lt_of_lt_of_le (h.lt b hb').2 hb.size⟩, h.nd⟩

theorem St.drew {w0 : World} {L : List BoxT} {O : List OwnT} {w : World} (h : St w0 L O w) : St w0 L O w.drew := h.next (Below.refl _ _).drew

theorem St.box {w0 : World} {L : List BoxT} {O : List OwnT} {w : World} (h : St w0 L O w) (W H : Int) (s : Value) (t : TypeId) :
    St w0 ((w.heap.size, W, H, s) :: L) O (w.alloc (.cells #[.int .i64 W, .int .i64 H, s] t)) := by
  have k := h.next (w' := w.alloc (.cells #[.int .i64 W, .int .i64 H, s] t)) ((Below.refl _ _).alloc (Nat.le_refl _) _)
  refine ⟨k.below, ?_, ?_, k.ow, ?_, ?_⟩
  · intro x hx
    rcases List.mem_cons.1 hx with rfl | hx
    · exact Im.new _ _ _ _ _
    · exact k.im x hx
  · intro x hx
    rcases List.mem_cons.1 hx with rfl | hx
    · exact Free.new _ _ _ _ _
    · exact k.fr x hx
  · intro b hb
    rcases List.mem_cons.1 hb with rfl | hb
    · exact ⟨h.below.size, by simp⟩
    · exact k.lt b hb
  · refine List.nodup_cons.2 ⟨fun hb => ?_, k.nd⟩
    exact Nat.lt_irrefl _ (h.lt _ hb).2

theorem St.own {w0 : World} {L : List BoxT} {O : List OwnT} {w w' : World} (h : St w0 L O w) (hb : Below w.heap.size w w') {a : Option Addr} {b n : Nat} {f : Nat → Int} (ho : Ow a b n f w') (h1 : w.heap.size ≤ b) (h2 : b < w'.heap.size) :
    St w0 L ((a, b, n, f) :: O) w' := by
  have k := h.next hb
  have pm : (blocks L ((a, b, n, f) :: O)).Perm (b :: blocks L O) := List.perm_middle
  refine ⟨k.below, k.im, k.fr, ?_, ?_, ?_⟩
  · intro x hx
    rcases List.mem_cons.1 hx with rfl | hx
    · exact ho
    · exact k.ow x hx
  · intro c hc
    rcases List.mem_cons.1 (pm.mem_iff.1 hc) with rfl | hc
    · exact ⟨Nat.le_trans h.below.size h1, h2⟩
    · exact k.lt c hc
  · rw [pm.nodup_iff]
    refine List.nodup_cons.2 ⟨fun hb => ?_, k.nd⟩
    exact absurd (h.lt _ hb).2 (by omega)

theorem St.mark {w0 : World} {L : List BoxT} {O1 O2 : List OwnT} {w w' : World} {a : Option Addr} {b n : Nat} {f f' : Nat → Int} (h : St w0 L (O1 ++ (a, b, n, f) :: O2) w) (hk : Kept b w w') (ho : Ow a b n f' w') :
    St w0 L (O1 ++ (a, b, n, f') :: O2) w' := by
  have e : blocks L (O1 ++ (a, b, n, f') :: O2) = blocks L (O1 ++ (a, b, n, f) :: O2) := by unfold blocks; simp
  have pm : (blocks L (O1 ++ (a, b, n, f) :: O2)).Perm (b :: (blocks L O1 ++ O2.map (fun x => x.2.1))) := by
    unfold blocks
    rw [List.map_append, List.map_cons, ← List.append_assoc]
    exact List.perm_middle
  have nd := h.nd
  rw [pm.nodup_iff] at nd
  have hnot := (List.nodup_cons.1 nd).1
  have hb0 := (h.lt b (pm.mem_iff.2 (List.mem_cons_self ..)))
  have hne : ∀ x ∈ L, x.1 ≠ b := fun x hx e2 => by
    refine hnot ?_
    rw [← e2]
    exact List.mem_append.2 (.inl (mem_blocks_box hx))
  refine ⟨h.below.trans (hk.below hb0.1 h.below.size), fun x hx => (h.im x hx).kept hk (hne x hx), fun x hx => (h.fr x hx).kept (h.im x hx) hk (hne x hx), fun x hx => ?_, ?_, by rw [e]; exact h.nd⟩
  · rcases List.mem_append.1 hx with hx | hx
    · refine (h.ow x (List.mem_append.2 (.inl hx))).kept hk ?_
      intro e2
      refine hnot ?_
      rw [← e2]
      exact List.mem_append.2 (.inl (mem_blocks_own hx))
    · rcases List.mem_cons.1 hx with rfl | hx
      · exact ho
      · refine (h.ow x (List.mem_append.2 (.inr (List.mem_cons_of_mem _ hx)))).kept hk ?_
        intro e2
        refine hnot ?_
        rw [← e2]
        exact List.mem_append.2 (.inr (List.mem_map.2 ⟨x, hx, rfl⟩))
  · intro c hc
    rw [e] at hc
    exact ⟨(h.lt c hc).1, Nat.lt_of_lt_of_le (h.lt c hc).2 hk.size⟩

end Go.Proofs.Ytadeajdjjcelhaa

/- What a law keeps in hand: boxes and lists of its own, all in blocks apart; cells of any kind. -/
import Derived.Test.YtjdbiaoheoialaaLst
namespace Go.Proofs.Ytjdbiaoheoialaa
open Go.RowKit

/-- a row of its own at block b holds these values, and may be written -/
def RowV (b len : Nat) (f : Nat → Value) (w : World) : Prop :=
  ∀ k, k < len → w.cell? ⟨b, k, none⟩ = some (f k) ∧ w.frozen? ⟨b, k, none⟩ = false
/-- a list of its own: nothing, or a row at block b -/
def OwV (a : Option Addr) (b len : Nat) (f : Nat → Value) (w : World) : Prop := len = 0 ∨ (a = some ⟨b, 0, none⟩ ∧ RowV b len f w)
theorem RowV.below {b len B : Nat} {f : Nat → Value} {w w' : World} (h : RowV b len f w) (hb : Below B w w') (hB : b < B) : RowV b len f w' := fun k hk => by
  rw [hb.cell (p := ⟨b, k, none⟩) hB, hb.frozen (p := ⟨b, k, none⟩) hB]
  exact h k hk
theorem RowV.lt {b len : Nat} {f : Nat → Value} {w : World} (h : RowV b len f w) (h0 : len ≠ 0) : b < w.heap.size := World.block_lt_of_cell? w ⟨b, 0, none⟩ (h 0 (by omega)).1
theorem OwV.below {a : Option Addr} {b len : Nat} {f : Nat → Value} {w w' : World} (h : OwV a b len f w) (hb : Below w.heap.size w w') : OwV a b len f w' := by
  rcases h with h | ⟨rfl, h⟩
  · exact .inl h
  · by_cases h0 : len = 0
    · exact .inl h0
    · exact .inr ⟨rfl, h.below hb (h.lt h0)⟩
theorem OwV.lt {a : Option Addr} {b len : Nat} {f : Nat → Value} {w : World} (h : OwV a b len f w) (h0 : len ≠ 0) : b < w.heap.size := by
  rcases h with h | ⟨rfl, h⟩
  · exact absurd h h0
  · exact h.lt h0
theorem OwV.any {a : Option Addr} {b len : Nat} {f : Nat → Value} {w : World} (h : OwV a b len f w) (b' : Nat) (hb : len ≠ 0 → b' = b) : OwV a b' len f w := by
  by_cases h0 : len = 0
  · exact .inl h0
  · rw [hb h0]; exact h
theorem Ow.below' {a : Option Addr} {b len : Nat} {f : Nat → Int} {w w' : World} (h : Ow a b len f w) (hb : Below w.heap.size w w') : Ow a b len f w' := OwV.below h hb
/-- the block of a list, or one that is not there if the list is empty -/
def bk (n b : Nat) (w : World) : Nat := if n = 0 then w.heap.size else b
theorem bk_pos {n b : Nat} {w : World} (h : n ≠ 0) : bk n b w = b := if_neg h
theorem OwV.bk {a : Option Addr} {b len : Nat} {f : Nat → Value} {w : World} (h : OwV a b len f w) : OwV a (bk len b w) len f w := h.any _ (fun h0 => bk_pos h0)
theorem OwV.kept {a : Option Addr} {b len p : Nat} {f : Nat → Value} {w w' : World} (h : OwV a b len f w) (hk : Kept p w w') (hb : b ≠ p) : OwV a b len f w' := by
  rcases h with h | ⟨rfl, h⟩
  · exact .inl h
  · refine .inr ⟨rfl, fun j hj => ⟨hk.cell hb (h j hj).1, ?_⟩⟩
    rw [hk.frozen hb (h j hj).1]; exact (h j hj).2
theorem Ow.v {a : Option Addr} {b len : Nat} {f : Nat → Int} {w : World} (h : Ow a b len f w) : OwV a b len (fun k => .int .i64 (f k)) w := h
theorem OwV.i {a : Option Addr} {b len : Nat} {f : Nat → Int} {w : World} (h : OwV a b len (fun k => .int .i64 (f k)) w) : Ow a b len f w := h
theorem Row.v {b len : Nat} {f : Nat → Int} {w : World} (h : Row b len f w) : OwV (some ⟨b, 0, none⟩) b len (fun k => .int .i64 (f k)) w := .inr ⟨rfl, h⟩
theorem OwV.px {a : Option Addr} {b len : Nat} {f : Nat → Int} {w : World} (h : OwV a b len (fun k => .int .i64 (f k)) w) : Px a len f w := Ow.px h

/-- a box holds these values, and may be written -/
def Bx (b : Nat) (vs : List Value) (w : World) : Prop := ∀ j v, vs[j]? = some v → w.cell? ⟨b, j, none⟩ = some v ∧ w.frozen? ⟨b, j, none⟩ = false
theorem Bx.below {b B : Nat} {vs : List Value} {w w' : World} (h : Bx b vs w) (hb : Below B w w') (hl : b < B) : Bx b vs w' := fun j v hv => by
  rw [hb.cell (p := ⟨b, j, none⟩) hl, hb.frozen (p := ⟨b, j, none⟩) hl]
  exact h j v hv
theorem Bx.kept {b p : Nat} {vs : List Value} {w w' : World} (h : Bx b vs w) (hk : Kept p w w') (hp : b ≠ p) : Bx b vs w' := fun j v hv => by
  have := h j v hv
  exact ⟨hk.cell hp this.1, (hk.frozen (a := ⟨b, j, none⟩) hp this.1).trans this.2⟩
theorem Bx.new (vs : List Value) (t : TypeId) (w : World) : Bx w.heap.size vs (w.alloc (.cells vs.toArray t)) := fun j v hv => by
  refine ⟨?_, ?_⟩ <;> simp [go_sem, hv]
theorem Bx.set {b : Nat} {vs : List Value} {w : World} (h : Bx b vs w) (j : Nat) (v : Value) : Bx b (vs.set j v) (w.setCell ⟨b, j, none⟩ v) := fun i u hu => by
  by_cases e : i = j
  · subst e
    have hl : i < vs.length := by
      have := (List.getElem?_eq_some_iff.1 hu).1
      simpa using this
    have hv : u = v := by
      rw [List.getElem?_set_self hl] at hu
      exact (Option.some.inj hu).symm
    obtain ⟨y, hy⟩ : ∃ y, vs[i]? = some y := ⟨_, List.getElem?_eq_getElem hl⟩
    refine ⟨?_, by simpa using (h i y hy).2⟩
    rw [hv]
    exact World.cell?_setCell_same _ _ _ (h i y hy).1
  · rw [List.getElem?_set_ne (by omega)] at hu
    refine ⟨?_, by simpa using (h i u hu).2⟩
    rw [World.cell?_setCell_other _ _ _ _ (by simp; try omega)]
    exact (h i u hu).1

abbrev BoxT := Nat × List Value
abbrev OwnT := Option Addr × Nat × Nat × (Nat → Value)
def blocks (L : List BoxT) (O : List OwnT) : List Nat := L.map (fun x => x.1) ++ (O.filter (fun x => x.2.2.1 != 0)).map (fun x => x.2.1)

structure St (w0 : World) (L : List BoxT) (O : List OwnT) (w : World) : Prop where
  below : Below w0.heap.size w0 w
  bx : ∀ x ∈ L, Bx x.1 x.2 w
  ow : ∀ x ∈ O, OwV x.1 x.2.1 x.2.2.1 x.2.2.2 w
  lt : ∀ b ∈ blocks L O, w0.heap.size ≤ b ∧ b < w.heap.size
  nd : (blocks L O).Nodup

theorem mem_blocks_own {L : List BoxT} {O : List OwnT} {x : OwnT} (h : x ∈ O) (h0 : x.2.2.1 ≠ 0) : x.2.1 ∈ blocks L O := by
  unfold blocks; exact List.mem_append.2 (.inr (List.mem_map.2 ⟨x, List.mem_filter.2 ⟨h, by simpa using h0⟩, rfl⟩))
theorem OwV.keptO {x : OwnT} {p : Nat} {w w' : World} (h : OwV x.1 x.2.1 x.2.2.1 x.2.2.2 w) (hk : Kept p w w') (hb : x.2.2.1 ≠ 0 → x.2.1 ≠ p) : OwV x.1 x.2.1 x.2.2.1 x.2.2.2 w' := by
  by_cases h0 : x.2.2.1 = 0
  · exact .inl h0
  · exact h.kept hk (hb h0)
theorem mem_blocks_box {L : List BoxT} {O : List OwnT} {x : BoxT} (h : x ∈ L) : x.1 ∈ blocks L O := by
  unfold blocks; exact List.mem_append.2 (.inl (List.mem_map.2 ⟨x, h, rfl⟩))

theorem St.start (w : World) : St w [] [] w := ⟨Below.refl _ _, fun _ h => (by cases h), fun _ h => (by cases h), fun _ h => (by cases h), List.nodup_nil⟩

theorem St.next {w0 : World} {L : List BoxT} {O : List OwnT} {w w' : World} (h : St w0 L O w) (hb : Below w.heap.size w w') : St w0 L O w' :=
  ⟨bnext h.below (Nat.le_refl _) hb, fun x hx => (h.bx x hx).below hb (h.lt _ (mem_blocks_box hx)).2, fun x hx => (h.ow x hx).below hb,
    fun b hb' => ⟨(h.lt b hb').1, Nat.lt_of_lt_of_le (h.lt b hb').2 hb.size⟩, h.nd⟩

theorem St.drew {w0 : World} {L : List BoxT} {O : List OwnT} {w : World} (h : St w0 L O w) : St w0 L O w.drew := h.next (Below.refl _ _).drew

theorem St.box {w0 : World} {L : List BoxT} {O : List OwnT} {w : World} (h : St w0 L O w) (vs : List Value) (t : TypeId) :
    St w0 ((w.heap.size, vs) :: L) O (w.alloc (.cells vs.toArray t)) := by
  have k := h.next (w' := w.alloc (.cells vs.toArray t)) (bnew _ _)
  refine ⟨k.below, ?_, k.ow, ?_, ?_⟩
  · intro x hx
    rcases List.mem_cons.1 hx with rfl | hx
    · exact Bx.new _ _ _
    · exact k.bx x hx
  · intro b hb
    rcases List.mem_cons.1 hb with rfl | hb
    · exact ⟨h.below.size, by simp⟩
    · exact k.lt b hb
  · refine List.nodup_cons.2 ⟨fun hb => ?_, k.nd⟩
    exact Nat.lt_irrefl _ (h.lt _ hb).2

theorem St.own {w0 : World} {L : List BoxT} {O : List OwnT} {w w' : World} (h : St w0 L O w) (hb : Below w.heap.size w w') {a : Option Addr} {b n : Nat} {f : Nat → Value} (ho : OwV a b n f w') (h1 : n = 0 ∨ w.heap.size ≤ b) :
    St w0 L ((a, b, n, f) :: O) w' := by
  have k := h.next hb
  have kow : ∀ x ∈ (a, b, n, f) :: O, OwV x.1 x.2.1 x.2.2.1 x.2.2.2 w' := by
    intro x hx
    rcases List.mem_cons.1 hx with rfl | hx
    · exact ho
    · exact k.ow x hx
  by_cases h0 : n = 0
  · have e : blocks L ((a, b, n, f) :: O) = blocks L O := by unfold blocks; rw [List.filter_cons_of_neg (by simp [h0])]
    exact ⟨k.below, k.bx, kow, by rw [e]; exact k.lt, by rw [e]; exact k.nd⟩
  · have pm : (blocks L ((a, b, n, f) :: O)).Perm (b :: blocks L O) := by
      unfold blocks
      rw [List.filter_cons_of_pos (by simp [h0])]
      exact List.perm_middle
    have h2 : b < w'.heap.size := ho.lt h0
    have h1' : w.heap.size ≤ b := h1.resolve_left h0
    refine ⟨k.below, k.bx, kow, ?_, ?_⟩
    · intro c hc
      rcases List.mem_cons.1 (pm.mem_iff.1 hc) with rfl | hc
      · exact ⟨Nat.le_trans h.below.size h1', h2⟩
      · exact k.lt c hc
    · rw [pm.nodup_iff]
      refine List.nodup_cons.2 ⟨fun hb => ?_, k.nd⟩
      exact absurd (h.lt _ hb).2 (by omega)

theorem St.mark {w0 : World} {L : List BoxT} {O1 O2 : List OwnT} {w w' : World} {a : Option Addr} {b n : Nat} {f f' : Nat → Value} (h : St w0 L (O1 ++ (a, b, n, f) :: O2) w) (hk : Kept (bk n b w) w w') (ho : OwV a (bk n b w) n f' w') :
    St w0 L (O1 ++ (a, b, n, f') :: O2) w' := by
  by_cases h0 : n = 0
  · have hb : Below w.heap.size w w' := by
      have : bk n b w = w.heap.size := if_pos h0
      rw [this] at hk
      exact hk.below (Nat.le_refl _) (Nat.le_refl _)
    have k := h.next hb
    have e : blocks L (O1 ++ (a, b, n, f') :: O2) = blocks L (O1 ++ (a, b, n, f) :: O2) := by unfold blocks; simp [h0]
    refine ⟨k.below, k.bx, fun x hx => ?_, by rw [e]; exact k.lt, by rw [e]; exact k.nd⟩
    rcases List.mem_append.1 hx with hx | hx
    · exact k.ow x (List.mem_append.2 (.inl hx))
    · rcases List.mem_cons.1 hx with rfl | hx
      · exact .inl h0
      · exact k.ow x (List.mem_append.2 (.inr (List.mem_cons_of_mem _ hx)))
  · rw [bk_pos h0] at hk ho
    have pm : ∀ g, (blocks L (O1 ++ (a, b, n, g) :: O2)).Perm (b :: blocks L (O1 ++ O2)) := by
      intro g
      unfold blocks
      rw [List.filter_append, List.filter_cons_of_pos (by simp [h0]), List.map_append, List.map_cons, ← List.append_assoc, List.filter_append, List.map_append, ← List.append_assoc]
      exact List.perm_middle
    have nd := h.nd
    rw [(pm f).nodup_iff] at nd
    have hnot := (List.nodup_cons.1 nd).1
    have hb0 := (h.lt b ((pm f).mem_iff.2 (List.mem_cons_self ..)))
    have hne : ∀ x ∈ L, x.1 ≠ b := fun x hx e2 => by
      refine hnot ?_
      rw [← e2]
      exact mem_blocks_box hx
    refine ⟨h.below.trans (hk.below hb0.1 h.below.size), fun x hx => (h.bx x hx).kept hk (hne x hx), fun x hx => ?_, ?_, by rw [(pm f').nodup_iff]; exact nd⟩
    · rcases List.mem_append.1 hx with hx | hx
      · refine (h.ow x (List.mem_append.2 (.inl hx))).keptO hk (fun hx0 e2 => hnot ?_)
        rw [← e2]
        exact mem_blocks_own (List.mem_append.2 (.inl hx)) hx0
      · rcases List.mem_cons.1 hx with rfl | hx
        · exact ho
        · refine (h.ow x (List.mem_append.2 (.inr (List.mem_cons_of_mem _ hx)))).keptO hk (fun hx0 e2 => hnot ?_)
          rw [← e2]
          exact mem_blocks_own (List.mem_append.2 (.inr hx)) hx0
    · intro c hc
      have := (pm f').mem_iff.1 hc
      have hc' := h.lt c ((pm f).mem_iff.2 this)
      exact ⟨hc'.1, Nat.lt_of_lt_of_le hc'.2 hk.size⟩

/-- a box is written anew, a cell of it -/
theorem St.fill {w0 : World} {L1 L2 : List BoxT} {O : List OwnT} {w : World} {c : Nat} {vs : List Value} (h : St w0 (L1 ++ (c, vs) :: L2) O w) (j : Nat) (v : Value) :
    St w0 (L1 ++ (c, vs.set j v) :: L2) O (w.setCell ⟨c, j, none⟩ v) := by
  have hk : Kept c w (w.setCell ⟨c, j, none⟩ v) := (Kept.refl c w).setCell rfl _
  have e : blocks (L1 ++ (c, vs.set j v) :: L2) O = blocks (L1 ++ (c, vs) :: L2) O := by unfold blocks; simp
  have pm : (blocks (L1 ++ (c, vs) :: L2) O).Perm (c :: (blocks (L1 ++ L2) O)) := by
    unfold blocks
    rw [List.map_append, List.map_cons, List.map_append, List.append_assoc, List.append_assoc, List.cons_append]
    exact List.perm_middle
  have nd := h.nd
  rw [pm.nodup_iff] at nd
  have hnot := (List.nodup_cons.1 nd).1
  have hb0 := h.lt c (pm.mem_iff.2 (List.mem_cons_self ..))
  refine ⟨h.below.trans (hk.below hb0.1 h.below.size), fun x hx => ?_, fun x hx => (h.ow x hx).keptO hk (fun hx0 e2 => hnot (by rw [← e2]; exact mem_blocks_own hx hx0)), fun b hb => ?_, by rw [e]; exact h.nd⟩
  · rcases List.mem_append.1 hx with hx | hx
    · refine (h.bx x (List.mem_append.2 (.inl hx))).kept hk (fun e2 => hnot ?_)
      rw [← e2]; exact mem_blocks_box (List.mem_append.2 (.inl hx))
    · rcases List.mem_cons.1 hx with rfl | hx
      · exact (h.bx (c, vs) (List.mem_append.2 (.inr (List.mem_cons_self ..)))).set j v
      · refine (h.bx x (List.mem_append.2 (.inr (List.mem_cons_of_mem _ hx)))).kept hk (fun e2 => hnot ?_)
        rw [← e2]; exact mem_blocks_box (List.mem_append.2 (.inr hx))
  · rw [e] at hb
    exact ⟨(h.lt b hb).1, Nat.lt_of_lt_of_le (h.lt b hb).2 hk.size⟩

/-- a cell of the box number i -/
theorem St.cell {w0 : World} {L : List BoxT} {O : List OwnT} {w : World} (h : St w0 L O w) (i : Nat) {b : Nat} {vs : List Value} (hm : L[i]? = some (b, vs)) (j : Nat) {v : Value} (hv : vs[j]? = some v) :
    w.cell? ⟨b, j, none⟩ = some v := (h.bx _ (List.mem_of_getElem? hm) j v hv).1
theorem St.free {w0 : World} {L : List BoxT} {O : List OwnT} {w : World} (h : St w0 L O w) (i : Nat) {b : Nat} {vs : List Value} (hm : L[i]? = some (b, vs)) (j : Nat) {v : Value} (hv : vs[j]? = some v) :
    w.frozen? ⟨b, j, none⟩ = false := (h.bx _ (List.mem_of_getElem? hm) j v hv).2
/-- the list number i -/
theorem St.nthO {w0 : World} {L : List BoxT} {O : List OwnT} {w : World} (h : St w0 L O w) (i : Nat) {a : Option Addr} {b n : Nat} {f : Nat → Value} (hm : O[i]? = some (a, b, n, f)) :
    OwV a b n f w := h.ow _ (List.mem_of_getElem? hm)
theorem St.sub {w0 : World} {L L' : List BoxT} {O O' : List OwnT} {w : World} (h : St w0 L O w) (hL : L'.Sublist L) (hO : O'.Sublist O) : St w0 L' O' w := by
  have sub : (blocks L' O').Sublist (blocks L O) := by
    unfold blocks
    exact List.Sublist.append (hL.map _) ((hO.filter _).map _)
  exact ⟨h.below, fun x hx => h.bx x (hL.subset hx), fun y hy => h.ow y (hO.subset hy), fun b hb => h.lt b (sub.subset hb), h.nd.sublist sub⟩

end Go.Proofs.Ytjdbiaoheoialaa

/- Lists of the call's own side by side: one is appended to, the others stay. -/
import Derived.Test.YtjdbiaoheoialaaIls
import Derived.Deep.AppendLies
namespace Go.Proofs.Ytjdbiaoheoialaa
open Go.RowKit

/-- a list of numbers of the call's own, by its list -/
theorem own_partsL {w : World} {B n : Nat} {v : Value} {L : List Int} (h : w.ownsRow B 2 1 v n (ints L)) (hn : 0 < n) :
    ∃ b cap, v = .slice (some ⟨b, 0, none⟩) n cap ∧ B ≤ b ∧ ∀ k, k < n → w.cell? ⟨b, k, none⟩ = some (.int .i64 (L.getD k 0)) ∧ w.frozen? ⟨b, k, none⟩ = false := by
  obtain ⟨a, cap, b, hv, ho, hB, _⟩ := ow_of_some h hn
  rcases ho with h0 | ⟨ha, hr⟩
  · omega
  · exact ⟨b, cap, by rw [hv, ha], hB, fun k hk => hr k (by omega)⟩
theorem own_setL {w : World} {B n b cap : Nat} {L : List Int} (h : w.ownsRow B 2 1 (.slice (some ⟨b, 0, none⟩) n cap) n (ints L)) (k : Nat) (z : Int) :
    (w.setCell ⟨b, k, none⟩ (.int .i64 z)).ownsRow B 2 1 (.slice (some ⟨b, 0, none⟩) n cap) n (ints (L.set k z)) := by
  obtain ⟨h1, h2⟩ := h
  refine ⟨by rw [ints_length] at h1 ⊢; rw [List.length_set]; exact h1, ?_⟩
  rcases h2 with ⟨hv, _⟩ | ⟨b', cap', cur, hv, hB, hh, hn, hc, hs, ht⟩
  · cases hv
  · cases hv
    refine .inr ⟨b, cap, cur.setIfInBounds k (.int .i64 z), rfl, hB, ?_, hn, hc, by rw [Array.size_setIfInBounds]; exact hs, ?_⟩
    · rw [heap_setCell_same w b k cur 2 _ hh]
    · rw [Array.toList_setIfInBounds, List.take_set, ht]
      unfold ints
      rw [List.map_set]
theorem growL (w : World) {ops : Array Oper} {rest : List Oper} {o : Oper} {a : Act} {Q : Exit → Act → World → Prop} (hgd : o.guard = none) (s x : Operand)
    (ho : o.op = .call { callee := .builtin .append, args := #[s, x], argTypes := #[24, 24] }) (B : Nat) (v : Value) (n : Nat) (L : List Int) (hs : a.eval s = v) (w0 : World) (hown : w.ownsRow B 2 1 v n (ints L))
    (hb : Below B w0 w) (hB : B ≤ w.heap.size) (z : Int) (hx : a.eval x = .slice (some ⟨w.heap.size, 0, none⟩) 1 1) (hn : n ≤ 1048576)
    (h : ∀ v' w', w'.ownsRow B 2 1 v' (n + 1) (ints (L ++ [z])) → Below B w0 w' → w.heap.size < w'.heap.size → wpList Try.prog ops Q rest (a.put o.dst v') w') :
    wpList Try.prog ops Q (o :: rest) a (w.alloc (.cells #[.int .i64 z] 2)) := by
  obtain ⟨ti, hi1, hi2, hi3, hi4⟩ := info2
  exact grow w hgd s x 24 ho B 2 ti (.int .i64 0) 1 8 Try.underlying24 hi1 hi2 hi3 hi4 rfl (by omega) v n L hs w0 hown hb hB [z] 1 1 hx rfl (by unfold maxLen; omega) (by omega) h

end Go.Proofs.Ytjdbiaoheoialaa

namespace Go.Proofs.Ytjdbiaoheoialaa
open Go.RowKit

/-- all blocks but that of v stay -/
def KpV (v : Value) (w w' : World) : Prop := ∀ b, b < w.heap.size → v.ownBlock ≠ some b → w'.heap[b]? = w.heap[b]?
/-- two values lie in blocks apart -/
def Apart (v u : Value) : Prop := ∀ b, v.ownBlock = some b → u.ownBlock ≠ some b
/-- where a value lies that was grown -/
def Moved (v v' : Value) (w : World) : Prop := ∀ b, v'.ownBlock = some b → v.ownBlock = some b ∨ w.heap.size ≤ b
theorem Apart.symm {v u : Value} (h : Apart v u) : Apart u v := fun b hb hv => h b hv hb

theorem owns_lt {w : World} {B n m : Nat} {e : TypeId} {v : Value} {xs : List Value} (h : w.ownsRow B e m v n xs) : ∀ b, v.ownBlock = some b → b < w.heap.size := fun b hb => (h.lt b hb).2
theorem owns_ge {w : World} {B n m : Nat} {e : TypeId} {v : Value} {xs : List Value} (h : w.ownsRow B e m v n xs) : ∀ b, v.ownBlock = some b → B ≤ b := fun b hb => (h.lt b hb).1
theorem owns_mono {w : World} {B B' n m : Nat} {e : TypeId} {v : Value} {xs : List Value} (h : w.ownsRow B e m v n xs) (hB : B' ≤ B) : w.ownsRow B' e m v n xs := by
  obtain ⟨h1, h2⟩ := h
  refine ⟨h1, ?_⟩
  rcases h2 with h2 | ⟨g, cap, cur, hv, hB', hr⟩
  · exact .inl h2
  · exact .inr ⟨g, cap, cur, hv, Nat.le_trans hB hB', hr⟩
theorem owns_keep {w w' : World} {B n m : Nat} {e : TypeId} {v : Value} {xs : List Value} (h : w.ownsRow B e m v n xs) (hk : ∀ b, v.ownBlock = some b → w'.heap[b]? = w.heap[b]?) : w'.ownsRow B e m v n xs := by
  obtain ⟨h1, h2⟩ := h
  refine ⟨h1, ?_⟩
  rcases h2 with h2 | ⟨g, cap, cur, hv, hB, hg, hr⟩
  · exact .inl h2
  · exact .inr ⟨g, cap, cur, hv, hB, (hk g (by rw [hv]; rfl)).trans hg, hr⟩
theorem owns_side {w w' : World} {B n m : Nat} {e : TypeId} {u v : Value} {xs : List Value} (h : w.ownsRow B e m u n xs) (hk : KpV v w w') (ha : Apart u v) : w'.ownsRow B e m u n xs :=
  owns_keep h fun b hb => hk b (owns_lt h b hb) (ha b hb)
theorem Apart.moved {u v v' : Value} {w : World} {B n m : Nat} {e : TypeId} {xs : List Value} (ha : Apart u v) (hm : Moved v v' w) (hu : w.ownsRow B e m u n xs) : Apart u v' := fun b hb hv => by
  rcases hm b hv with h | h
  · exact ha b hb h
  · have := owns_lt hu b hb; omega
theorem Apart.below {u v : Value} {w : World} {B' n' m' : Nat} {e' : TypeId} {xs' : List Value} (hB : ∀ b, u.ownBlock = some b → b < B') (hv : w.ownsRow B' e' m' v n' xs') : Apart u v := fun b hb hb' => by
  have := owns_ge hv b hb'; have := hB b hb; omega
theorem KpV.px {v : Value} {w w' : World} (h : KpV v w w') {a : Option Addr} {n : Nat} {f : Nat → Int} (hp : Px a n f w) (hb : ∀ p, a = some p → v.ownBlock ≠ some p.block) : Px a n f w' := by
  rcases hp with hp | ⟨b, off, ha, hp⟩
  · exact .inl hp
  · refine .inr ⟨b, off, ha, fun k hk => ?_⟩
    have h1 := hp k hk
    have hl := World.block_lt_of_cell? w _ h1
    have e := h b hl (hb _ ha)
    exact (World.cell?_of_block (a := ⟨b, off + k, none⟩) e).trans h1

theorem growM {P : Program} (w : World) {ops : Array Oper} {rest : List Oper} {o : Oper} {a : Act} {Q : Exit → Act → World → Prop} (hgd : o.guard = none) (s x : Operand) (t : TypeId)
    (ho : o.op = .call { callee := .builtin .append, args := #[s, x], argTypes := #[t, t] }) (B : Nat) (e : TypeId) (i : TypeInfo) (z : Value) (size bytes : Nat) (ht : P.underlying t = some (.slice e)) (hi : P.info? e = some i) (hz : i.zero = some z)
    (hsize : i.size = size) (hby : i.bytes = bytes) (hzs : z.cells.size = size) (hsz : 0 < size) (v : Value) (n : Nat) (L : List Int) (hs : a.eval s = v) (w0 : World) (hown : w.ownsRow B e size v n (ints L)) (hb : Below B w0 w) (hB : B ≤ w.heap.size)
    (M : List Int) (m c : Nat) (hx : a.eval x = .slice (some ⟨w.heap.size, 0, none⟩) m c) (hM : M.length = m * size) (hm : 0 < m) (h63 : n + m ≤ maxLen) (hbytes : (n + m) * bytes ≤ 140737488355328)
    (h : ∀ v' w', w'.ownsRow B e size v' (n + m) (ints (L ++ M)) → Below B w0 w' → w.heap.size < w'.heap.size → KpV v w w' → Moved v v' w → wpList P ops Q rest (a.put o.dst v') w') :
    wpList P ops Q (o :: rest) a (w.alloc (.cells (ints M).toArray e)) := by
  have hsw : w.heap.size < (w.alloc (.cells (ints M).toArray e)).heap.size := by simp
  refine wpList_append_lies _ hgd s x t ho B e i z size bytes ht hi hz hsize hby hzs hsz v n (ints L) hs (hown.alloc _) ⟨w.heap.size, 0, none⟩ m c (ints M) hx (by rw [ints_length]; exact hM) (new_cells w (ints M) e) (ints_one M) hm h63 hbytes (Nat.le_trans hB (Nat.le_of_lt hsw)) _ rfl ?_
  intro g cap w' h1 h2 h3 h4
  have hr3 : ∀ q, Value.ownBlock v = some q → B ≤ q := fun q hq => (hown.lt q hq).1
  have hB3 : Below B (w.alloc (.cells (ints M).toArray e)) w' := (Below.refl _ _).grown h2 (Nat.le_trans hB (Nat.le_of_lt hsw)) hr3
  refine h _ w' ?_ ((hb.alloc hB _).trans hB3) (Nat.lt_of_lt_of_le hsw hB3.size) ?_ ?_
  · rw [ints_append]; exact h1
  · intro b hb hv
    rw [h2.block b (Nat.lt_trans hb hsw) (fun e => hv e.symm)]
    exact (bnew w (.cells (ints M).toArray e)).block b hb
  · intro b hb
    cases hb
    rcases h3 with h3 | h3
    · exact .inl h3
    · right; rw [h3]; exact Nat.le_of_lt hsw
theorem growN (w : World) {ops : Array Oper} {rest : List Oper} {o : Oper} {a : Act} {Q : Exit → Act → World → Prop} (hgd : o.guard = none) (s x : Operand)
    (ho : o.op = .call { callee := .builtin .append, args := #[s, x], argTypes := #[24, 24] }) (B : Nat) (v : Value) (n : Nat) (L : List Int) (hs : a.eval s = v) (w0 : World) (hown : w.ownsRow B 2 1 v n (ints L))
    (hb : Below B w0 w) (hB : B ≤ w.heap.size) (z : Int) (hx : a.eval x = .slice (some ⟨w.heap.size, 0, none⟩) 1 1) (hn : n ≤ 1048576)
    (h : ∀ v' w', w'.ownsRow B 2 1 v' (n + 1) (ints (L ++ [z])) → Below B w0 w' → w.heap.size < w'.heap.size → KpV v w w' → Moved v v' w → wpList Try.prog ops Q rest (a.put o.dst v') w') :
    wpList Try.prog ops Q (o :: rest) a (w.alloc (.cells #[.int .i64 z] 2)) := by
  obtain ⟨ti, hi1, hi2, hi3, hi4⟩ := info2
  exact growM w hgd s x 24 ho B 2 ti (.int .i64 0) 1 8 Try.underlying24 hi1 hi2 hi3 hi4 rfl (by omega) v n L hs w0 hown hb hB [z] 1 1 hx rfl (by omega) (by unfold maxLen; omega) (by omega) h

end Go.Proofs.Ytjdbiaoheoialaa

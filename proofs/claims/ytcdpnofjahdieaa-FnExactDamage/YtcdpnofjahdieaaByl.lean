/- Lists of bytes that a call makes by append, and the text that they are. -/
import Derived.Test.YtcdpnofjahdieaaIls
import Derived.Laws.BytesArg
namespace Go.Proofs.Ytcdpnofjahdieaa
open Go.RowKit

/-- bytes as cells -/
def bys (L : List Int) : List Value := L.map (Value.int .u8)
theorem bys_length (L : List Int) : (bys L).length = L.length := by simp [bys]
theorem bys_append (L M : List Int) : bys (L ++ M) = bys L ++ bys M := by simp [bys]
theorem bys_at (L : List Int) (k : Nat) (h : k < L.length) : (bys L)[k]? = some (.int .u8 (L.getD k 0)) := by
  simp [bys, List.getElem?_map, List.getElem?_eq_getElem h]
theorem bys_one (L : List Int) : ∀ u ∈ bys L, u.oneCell' = true := by
  intro u hu
  obtain ⟨z, _, rfl⟩ := List.mem_map.1 hu
  rfl

set_option maxRecDepth 100000 in
theorem info5 : ∃ i, Try.prog.info? 5 = some i ∧ i.zero = some (.int .u8 0) ∧ i.size = 1 ∧ i.bytes = 1 := ⟨_, rfl, rfl, rfl, rfl⟩

/-- an append of new bytes to a list of the call's own: the walk's step -/
theorem growU (w : World) {ops : Array Oper} {rest : List Oper} {o : Oper} {a : Act} {Q : Exit → Act → World → Prop} (hgd : o.guard = none) (s x : Operand)
    (ho : o.op = .call { callee := .builtin .append, args := #[s, x], argTypes := #[82, 82] }) (B : Nat) (v : Value) (n : Nat) (L : List Int) (hs : a.eval s = v) (w0 : World) (hown : w.ownsRow B 5 1 v n (bys L)) (hb : Below B w0 w) (hB : B ≤ w.heap.size)
    (M : List Int) (m : Nat) (hx : a.eval x = .slice (some ⟨w.heap.size, 0, none⟩) m m) (hM : M.length = m) (hn : n + m ≤ 1048576)
    (h : ∀ v' w', w'.ownsRow B 5 1 v' (n + m) (bys (L ++ M)) → Below B w0 w' → w.heap.size < w'.heap.size → wpList Try.prog ops Q rest (a.put o.dst v') w') :
    wpList Try.prog ops Q (o :: rest) a (w.alloc (.cells (bys M).toArray 5)) := by
  obtain ⟨ti, hi1, hi2, hi3, hi4⟩ := info5
  have hsw : w.heap.size < (w.alloc (.cells (bys M).toArray 5)).heap.size := by simp
  refine wpList_append_own _ hgd s x 82 ho B 5 ti (.int .u8 0) 1 1 Try.underlying82 hi1 hi2 hi3 hi4 rfl (by omega) v n (bys L) hs (hown.alloc _) ⟨w.heap.size, 0, none⟩ m m (bys M) hx (by rw [bys_length]; omega) (new_cells w (bys M) 5) (bys_one M) (by unfold maxLen; omega) (by omega) (Nat.le_trans hB (Nat.le_of_lt hsw)) ?_
  intro v' w' h1 h2 _
  have hr3 : ∀ q, Value.ownBlock v = some q → B ≤ q := fun q hq => (hown.lt q hq).1
  have hB3 : Below B (w.alloc (.cells (bys M).toArray 5)) w' := (Below.refl _ _).grown h2 (Nat.le_trans hB (Nat.le_of_lt hsw)) hr3
  refine h v' w' ?_ ((hb.alloc hB _).trans hB3) (Nat.lt_of_lt_of_le hsw hB3.size)
  rw [bys_append]; exact h1

/-- a list of bytes as a text -/
theorem text_own {w : World} {B n : Nat} {v : Value} {L : List Int} (h : w.ownsRow B 5 1 v n (bys L)) (hn : n = L.length) :
    ∃ a cap, v = .slice a n cap ∧ ∀ w', (∀ b, v.ownBlock = some b → w'.heap[b]? = w.heap[b]?) → (convert 82 9 v).run Try.prog w' = .ok (.string (strOfNums L)) w' := by
  have h' := h
  obtain ⟨hlen, hv | ⟨b, cap, cur, hv, hg, hcur, _, hm, _, _⟩⟩ := h'
  · obtain ⟨rfl, h0⟩ := hv
    refine ⟨none, 0, by rw [h0], fun w' _ => ?_⟩
    have hL : L = [] := List.eq_nil_of_length_eq_zero (by omega)
    subst hL
    rw [run_convert_bytes_nil w' 82 5 Try.underlying82 Try.underlying5 0 0 9 Try.underlying9]
    rfl
  · subst hv
    refine ⟨_, cap, rfl, fun w' hk => ?_⟩
    refine run_convert_bytes_arg w' 82 5 Try.underlying82 Try.underlying5 b 0 n cap L hn.symm ?_ 9 Try.underlying9
    intro i hi
    have := World.cell?_of_block (a := ⟨b, 0 + i, none⟩) (hk b rfl)
    rw [this, Nat.zero_add, h.cellAt i (by omega)]
    exact bys_at L i (by omega)

end Go.Proofs.Ytcdpnofjahdieaa

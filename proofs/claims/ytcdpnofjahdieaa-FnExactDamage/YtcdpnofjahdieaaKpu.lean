/- Bytes that grow beside other lists of the call's own: what stays. -/
import Derived.Test.YtcdpnofjahdieaaGrk
import Derived.Test.YtcdpnofjahdieaaWsm
import Derived.Deep.AppendLies
import Derived.Laws.AppendOwnNone
namespace Go.Proofs.Ytcdpnofjahdieaa
open Go.RowKit

theorem KpV.refl (v : Value) (w : World) : KpV v w w := fun _ _ _ => rfl
theorem KpV.cell {v : Value} {w w' : World} (h : KpV v w w') {p : Addr} {x : Value} (hp : w.cell? p = some x) (hv : v.ownBlock ≠ some p.block) : w'.cell? p = some x :=
  (World.cell?_of_block (a := p) (h p.block (World.block_lt_of_cell? w _ hp) hv)).trans hp

/-- bytes that lie somewhere, as a value -/
def SrcU (B : Nat) (v : Value) (L : List Int) (w : World) : Prop := (v = .slice none 0 0 ∧ L = []) ∨ ∃ b off cap, B ≤ b ∧ v = .slice (some ⟨b, off, none⟩) L.length cap ∧ ∀ k, k < L.length → w.cell? ⟨b, off + k, none⟩ = some (.int .u8 (L.getD k 0))
theorem SrcU.below {B : Nat} {v : Value} {L : List Int} {w w' : World} (h : SrcU B v L w) (hb : Below w.heap.size w w') : SrcU B v L w' := by
  rcases h with h | ⟨b, off, cap, hB, hv, hc⟩
  · exact .inl h
  · exact .inr ⟨b, off, cap, hB, hv, fun k hk => (hb.cell (p := ⟨b, off + k, none⟩) (World.block_lt_of_cell? w _ (hc k hk))).trans (hc k hk)⟩
theorem srcU_own {w : World} {B n : Nat} {v : Value} {L : List Int} {B' : Nat} (h : w.ownsRow B 5 1 v n (bys L)) (hB' : B' ≤ B) : SrcU B' v L w := by
  have h' := h
  have hn : L.length = n := by have := h.1; rw [bys_length] at this; omega
  obtain ⟨hlen, hv | ⟨b, cap, cur, hv, _⟩⟩ := h'
  · exact .inl ⟨hv.1, List.eq_nil_of_length_eq_zero (by omega)⟩
  · subst hv
    refine .inr ⟨b, 0, cap, Nat.le_trans hB' (h.lt b rfl).1, by rw [hn], fun k hk => ?_⟩
    rw [Nat.zero_add, h.cellAt k (by omega)]
    exact bys_at L k hk

/-- an append of new bytes to a great list of the call's own: the walk's step -/
theorem growUM (w : World) {ops : Array Oper} {rest : List Oper} {o : Oper} {a : Act} {Q : Exit → Act → World → Prop} (hgd : o.guard = none) (s x : Operand)
    (ho : o.op = .call { callee := .builtin .append, args := #[s, x], argTypes := #[82, 82] }) (B : Nat) (v : Value) (n : Nat) (L : List Int) (hs : a.eval s = v) (w0 : World) (hown : w.ownsRow B 5 1 v n (bys L)) (hb : Below B w0 w) (hB : B ≤ w.heap.size)
    (M : List Int) (m : Nat) (hx : a.eval x = .slice (some ⟨w.heap.size, 0, none⟩) m m) (hM : M.length = m) (hm : 0 < m) (hn : n + m ≤ 2000000000)
    (h : ∀ v' w', w'.ownsRow B 5 1 v' (n + m) (bys (L ++ M)) → Below B w0 w' → w.heap.size < w'.heap.size → KpV v w w' → Moved v v' w → wpList Try.prog ops Q rest (a.put o.dst v') w') :
    wpList Try.prog ops Q (o :: rest) a (w.alloc (.cells (bys M).toArray 5)) := by
  obtain ⟨ti, hi1, hi2, hi3, hi4⟩ := info5
  have hsw : w.heap.size < (w.alloc (.cells (bys M).toArray 5)).heap.size := by simp
  refine wpList_append_lies _ hgd s x 82 ho B 5 ti (.int .u8 0) 1 1 Try.underlying82 hi1 hi2 hi3 hi4 rfl (by omega) v n (bys L) hs (hown.alloc _) ⟨w.heap.size, 0, none⟩ m m (bys M) hx (by rw [bys_length]; omega) (new_cells w (bys M) 5) (bys_one M) hm (by unfold maxLen; omega) (by omega) (Nat.le_trans hB (Nat.le_of_lt hsw)) _ rfl ?_
  intro g cap w' h1 h2 h3 h4
  have hr3 : ∀ q, Value.ownBlock v = some q → B ≤ q := fun q hq => (hown.lt q hq).1
  have hB3 : Below B (w.alloc (.cells (bys M).toArray 5)) w' := (Below.refl _ _).grown h2 (Nat.le_trans hB (Nat.le_of_lt hsw)) hr3
  refine h _ w' ?_ ((hb.alloc hB _).trans hB3) (Nat.lt_of_lt_of_le hsw hB3.size) ?_ ?_
  · rw [bys_append]; exact h1
  · intro b hb hv
    rw [h2.block b (Nat.lt_trans hb hsw) (fun e => hv e.symm)]
    exact (bnew w (.cells (bys M).toArray 5)).block b hb
  · intro b hb
    cases hb
    rcases h3 with h3 | h3
    · exact .inl h3
    · right; rw [h3]; exact Nat.le_of_lt hsw

theorem growCatUM (w : World) {ops : Array Oper} {rest : List Oper} {o : Oper} {a : Act} {Q : Exit → Act → World → Prop} (hgd : o.guard = none) (s x : Operand)
    (ho : o.op = .call { callee := .builtin .append, args := #[s, x], argTypes := #[82, 82] }) (B : Nat) (v : Value) (n : Nat) (L : List Int) (hs : a.eval s = v) (w0 : World) (hown : w.ownsRow B 5 1 v n (bys L)) (hb : Below B w0 w) (hB : B ≤ w.heap.size)
    (xv : Value) (M : List Int) (hx : a.eval x = xv) {Bx : Nat} (hxo : SrcU Bx xv M w) (hn : n + M.length ≤ 2000000000)
    (h : ∀ v' w', w'.ownsRow B 5 1 v' (n + M.length) (bys (L ++ M)) → Below B w0 w' → KpV v w w' → wpList Try.prog ops Q rest (a.put o.dst v') w') :
    wpList Try.prog ops Q (o :: rest) a w := by
  obtain ⟨ti, hi1, hi2, hi3, hi4⟩ := info5
  rcases hxo with ⟨rfl, rfl⟩ | ⟨b, off, cap, _, rfl, hc⟩
  · refine wpList_append_own_none hgd s x 82 ho B 5 ti 1 Try.underlying82 hi1 v n (bys L) hs hown hx ?_
    refine h v w ?_ hb (KpV.refl _ _)
    rw [List.append_nil]; exact hown
  · refine wpList_append_own _ hgd s x 82 ho B 5 ti (.int .u8 0) 1 1 Try.underlying82 hi1 hi2 hi3 hi4 rfl (by omega) v n (bys L) hs hown ⟨b, off, none⟩ M.length cap (bys M) hx (by rw [bys_length]; omega) ?_ (bys_one M) (by unfold maxLen; omega) (by omega) hB ?_
    · intro j u hu
      have hj : j < M.length := by
        have := (List.getElem?_eq_some_iff.1 hu).1
        rwa [bys_length] at this
      have e : (⟨b, off, none⟩ : Addr).add j = ⟨b, off + j, none⟩ := by unfold Addr.add; split <;> simp_all
      rw [e, hc j hj, ← hu, bys_at M j hj]
    · intro v' w' h1 h2 _
      have hr3 : ∀ q, Value.ownBlock v = some q → B ≤ q := fun q hq => (hown.lt q hq).1
      have hB3 : Below B w w' := (Below.refl _ _).grown h2 hB hr3
      refine h v' w' ?_ (hb.trans hB3) (fun q hq hv => h2.block q hq (fun e => hv e.symm))
      rw [bys_append]; exact h1


theorem SrcU.kp {B : Nat} {v u : Value} {L : List Int} {w w' : World} (h : SrcU B v L w) (hk : KpV u w w') (hu : ∀ b, u.ownBlock = some b → b < B) : SrcU B v L w' := by
  rcases h with h | ⟨b, off, cap, hB, hv, hc⟩
  · exact .inl h
  · refine .inr ⟨b, off, cap, hB, hv, fun k hk' => hk.cell (hc k hk') (fun e => ?_)⟩
    have := hu _ e
    exact absurd hB (Nat.not_le_of_lt this)
theorem owns_keptB {w w' : World} {B n m : Nat} {e : TypeId} {v : Value} {xs : List Value} (h : w.ownsRow B e m v n xs) (hb : Below w.heap.size w w') : w'.ownsRow B e m v n xs := by
  have hl := h.lt
  obtain ⟨h1, h2⟩ := h
  refine ⟨h1, ?_⟩
  rcases h2 with h2 | ⟨g, cap, cur, hv, hB, hg, hr⟩
  · exact .inl h2
  · exact .inr ⟨g, cap, cur, hv, hB, (hb.block g (hl g (by rw [hv]; rfl)).2).trans hg, hr⟩

end Go.Proofs.Ytcdpnofjahdieaa

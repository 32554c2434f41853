/- Lists of numbers that a call makes by append. -/
import Derived.Test.YtjdbiaoheoialaaLst
namespace Go.Proofs.Ytjdbiaoheoialaa
open Go.RowKit

/-- numbers as cells -/
def ints (L : List Int) : List Value := L.map (Value.int .i64)
theorem ints_length (L : List Int) : (ints L).length = L.length := by simp [ints]
theorem ints_append (L M : List Int) : ints (L ++ M) = ints L ++ ints M := by simp [ints]
theorem ints_at (L : List Int) (k : Nat) (h : k < L.length) : (ints L)[k]? = some (.int .i64 (L.getD k 0)) := by
  simp [ints, List.getElem?_map, List.getElem?_eq_getElem h]
theorem ints_one (L : List Int) : ∀ u ∈ ints L, u.oneCell' = true := by
  intro u hu
  obtain ⟨z, _, rfl⟩ := List.mem_map.1 hu
  rfl
theorem new_cells (w : World) (xs : List Value) (t : TypeId) : ∀ (j : Nat) (u : Value), xs[j]? = some u → (w.alloc (.cells xs.toArray t)).cell? ((⟨w.heap.size, 0, none⟩ : Addr).add j) = some u := by
  intro j u h
  have e : (⟨w.heap.size, 0, none⟩ : Addr).add j = ⟨w.heap.size, j, none⟩ := by by_cases h0 : j = 0 <;> simp [Addr.add, h0]
  rw [e]
  simp [go_sem, h]

/-- an own row whose cells are these numbers -/
theorem ow_of_ints {w : World} {B n m : Nat} {e : TypeId} {v : Value} {L : List Int} (h : w.ownsRow B e m v n (ints L)) (hB : B < w.heap.size) :
    ∃ a cap b, v = .slice a n cap ∧ Ow a b (n * m) (fun q => L.getD q 0) w ∧ B ≤ b ∧ b < w.heap.size := by
  have h' := h
  obtain ⟨hlen, hv | ⟨b, cap, cur, hv, hg, hcur, _, hm, _, _⟩⟩ := h'
  · obtain ⟨rfl, rfl⟩ := hv
    exact ⟨none, 0, B, rfl, .inl (by simp), Nat.le_refl _, hB⟩
  · subst hv
    have hlt : b < w.heap.size := by
      rcases Nat.lt_or_ge b w.heap.size with h | h
      · exact h
      · rw [Array.getElem?_eq_none (by omega)] at hcur; cases hcur
    refine ⟨some ⟨b, 0, none⟩, cap, b, rfl, .inr ⟨rfl, fun k hk => ⟨?_, h.frozenAt k⟩⟩, hg, hlt⟩
    rw [h.cellAt k hk]
    exact ints_at L k (by rw [ints_length] at hlen; omega)

theorem ow_of_some {w : World} {B n m : Nat} {e : TypeId} {v : Value} {L : List Int} (h : w.ownsRow B e m v n (ints L)) (hn : 0 < n) :
    ∃ a cap b, v = .slice a n cap ∧ Ow a b (n * m) (fun q => L.getD q 0) w ∧ B ≤ b ∧ b < w.heap.size := by
  have h' := h
  obtain ⟨hlen, hv | ⟨b, cap, cur, hv, hg, hcur, _, hm, _, _⟩⟩ := h'
  · omega
  · have hlt : b < w.heap.size := by
      rcases Nat.lt_or_ge b w.heap.size with h | h
      · exact h
      · rw [Array.getElem?_eq_none (by omega)] at hcur; cases hcur
    subst hv
    refine ⟨some ⟨b, 0, none⟩, cap, b, rfl, .inr ⟨rfl, fun k hk => ⟨?_, h.frozenAt k⟩⟩, hg, hlt⟩
    rw [h.cellAt k hk]
    exact ints_at L k (by rw [ints_length] at hlen; omega)

/-- an append of new numbers to a list of the call's own: the walk's step -/
theorem grow {P : Program} (w : World) {ops : Array Oper} {rest : List Oper} {o : Oper} {a : Act} {Q : Exit → Act → World → Prop} (hgd : o.guard = none) (s x : Operand) (t : TypeId)
    (ho : o.op = .call { callee := .builtin .append, args := #[s, x], argTypes := #[t, t] }) (B : Nat) (e : TypeId) (i : TypeInfo) (z : Value) (size bytes : Nat) (ht : P.underlying t = some (.slice e)) (hi : P.info? e = some i) (hz : i.zero = some z)
    (hsize : i.size = size) (hby : i.bytes = bytes) (hzs : z.cells.size = size) (hsz : 0 < size) (v : Value) (n : Nat) (L : List Int) (hs : a.eval s = v) (w0 : World) (hown : w.ownsRow B e size v n (ints L)) (hb : Below B w0 w) (hB : B ≤ w.heap.size)
    (M : List Int) (m c : Nat) (hx : a.eval x = .slice (some ⟨w.heap.size, 0, none⟩) m c) (hM : M.length = m * size) (h63 : n + m ≤ maxLen) (hbytes : (n + m) * bytes ≤ 140737488355328)
    (h : ∀ v' w', w'.ownsRow B e size v' (n + m) (ints (L ++ M)) → Below B w0 w' → w.heap.size < w'.heap.size → wpList P ops Q rest (a.put o.dst v') w') :
    wpList P ops Q (o :: rest) a (w.alloc (.cells (ints M).toArray e)) := by
  have hsw : w.heap.size < (w.alloc (.cells (ints M).toArray e)).heap.size := by simp
  refine wpList_append_own _ hgd s x t ho B e i z size bytes ht hi hz hsize hby hzs hsz v n (ints L) hs (hown.alloc _) ⟨w.heap.size, 0, none⟩ m c (ints M) hx (by rw [ints_length]; exact hM) (new_cells w (ints M) e) (ints_one M) h63 hbytes (Nat.le_trans hB (Nat.le_of_lt hsw)) ?_
  intro v' w' h1 h2 _
  have hr3 : ∀ q, Value.ownBlock v = some q → B ≤ q := fun q hq => (hown.lt q hq).1
  have hB3 : Below B (w.alloc (.cells (ints M).toArray e)) w' := (Below.refl _ _).grown h2 (Nat.le_trans hB (Nat.le_of_lt hsw)) hr3
  refine h v' w' ?_ ((hb.alloc hB _).trans hB3) (Nat.lt_of_lt_of_le hsw hB3.size)
  rw [ints_append]; exact h1

/-- an append of what another list holds -/
theorem growFrom {P : Program} (w : World) {ops : Array Oper} {rest : List Oper} {o : Oper} {a : Act} {Q : Exit → Act → World → Prop} (hgd : o.guard = none) (s x : Operand) (t : TypeId)
    (ho : o.op = .call { callee := .builtin .append, args := #[s, x], argTypes := #[t, t] }) (B : Nat) (e : TypeId) (i : TypeInfo) (z : Value) (size bytes : Nat) (ht : P.underlying t = some (.slice e)) (hi : P.info? e = some i) (hz : i.zero = some z)
    (hsize : i.size = size) (hby : i.bytes = bytes) (hzs : z.cells.size = size) (hsz : 0 < size) (v : Value) (n : Nat) (L : List Int) (hs : a.eval s = v) (w0 : World) (hown : w.ownsRow B e size v n (ints L)) (hb : Below B w0 w) (hB : B ≤ w.heap.size)
    (M : List Int) (g m c : Nat) (hx : a.eval x = .slice (some ⟨g, 0, none⟩) m c) (hM : M.length = m * size) (hc : ∀ j, j < m * size → w.cell? ⟨g, j, none⟩ = some (.int .i64 (M.getD j 0))) (h63 : n + m ≤ maxLen) (hbytes : (n + m) * bytes ≤ 140737488355328)
    (h : ∀ v' w', w'.ownsRow B e size v' (n + m) (ints (L ++ M)) → Below B w0 w' → Below B w w' → wpList P ops Q rest (a.put o.dst v') w') :
    wpList P ops Q (o :: rest) a w := by
  refine wpList_append_own _ hgd s x t ho B e i z size bytes ht hi hz hsize hby hzs hsz v n (ints L) hs hown ⟨g, 0, none⟩ m c (ints M) hx (by rw [ints_length]; exact hM) ?_ (ints_one M) h63 hbytes hB ?_
  · intro j u hu
    have e : (⟨g, 0, none⟩ : Addr).add j = ⟨g, j, none⟩ := by by_cases h0 : j = 0 <;> simp [Addr.add, h0]
    have hj : j < M.length := by
      have := (List.getElem?_eq_some_iff.1 hu).1
      rwa [ints_length] at this
    rw [e, hc j (by omega), ← hu, ints_at M j hj]
  · intro v' w' h1 h2 _
    have hr3 : ∀ q, Value.ownBlock v = some q → B ≤ q := fun q hq => (hown.lt q hq).1
    have hB3 : Below B w w' := (Below.refl _ _).grown h2 hB hr3
    refine h v' w' ?_ (hb.trans hB3) hB3
    rw [ints_append]; exact h1

end Go.Proofs.Ytjdbiaoheoialaa

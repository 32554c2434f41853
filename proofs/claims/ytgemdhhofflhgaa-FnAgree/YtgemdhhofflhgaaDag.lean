/- Drawn offers: lists of offers that grow, each with a list of its own. -/
import Derived.Test.YtgemdhhofflhgaaVgl
import Derived.Test.YtgemdhhofflhgaaDpg
import Derived.Test.YtgemdhhofflhgaaOfb
namespace Go.Proofs.Ytgemdhhofflhgaa
open Go.RowKit

/-- the cells of offers -/
def FOf (Bv : Nat → Int) (ad : Nat → Option Addr) (ln cp : Nat → Nat) (q : Nat) : Value := if q % 2 = 0 then .int .i64 (Bv (q / 2)) else .slice (ad (q / 2)) (ln (q / 2)) (cp (q / 2))
theorem FOf_0 (Bv : Nat → Int) (ad : Nat → Option Addr) (ln cp : Nat → Nat) (k : Nat) : FOf Bv ad ln cp (k * 2) = .int .i64 (Bv k) := by
  unfold FOf; rw [if_pos (by omega), show k * 2 / 2 = k by omega]
theorem FOf_1 (Bv : Nat → Int) (ad : Nat → Option Addr) (ln cp : Nat → Nat) (k : Nat) : FOf Bv ad ln cp (k * 2 + 1) = .slice (ad k) (ln k) (cp k) := by
  unfold FOf; rw [if_neg (by omega), show (k * 2 + 1) / 2 = k by omega]
/-- a list that an offer holds -/
def FmO (B p : Nat) (v : Value) (a : Option Addr) (l : Nat) (f : Nat → Int) (w : World) : Prop := l ≤ 8 ∧ (l = 0 ∨ ∃ b, a = some ⟨b, 0, none⟩ ∧ B ≤ b ∧ b < w.heap.size ∧ b ≠ p ∧ v.ownBlock ≠ some b ∧ ∀ q, q < l → w.cell? ⟨b, q, none⟩ = some (.int .i64 (f q)))
theorem FmO.kept {B p : Nat} {v : Value} {a : Option Addr} {l : Nat} {f : Nat → Int} {w w' : World} (h : FmO B p v a l f w) (hk : Kept p w w') : FmO B p v a l f w' := by
  obtain ⟨h1, h2⟩ := h
  refine ⟨h1, ?_⟩
  rcases h2 with h2 | ⟨b, ha, hB, hb, hp, hv, hc⟩
  · exact .inl h2
  · exact .inr ⟨b, ha, hB, Nat.lt_of_lt_of_le hb hk.size, hp, hv, fun q hq => hk.cell (a := ⟨b, q, none⟩) hp (hc q hq)⟩
/-- offers of the call's own -/
def OL (B p : Nat) (v : Value) (k : Nat) (w : World) : Prop := ∃ (Bv : Nat → Int) (ad : Nat → Option Addr) (ln cp : Nat → Nat) (F : Nat → Nat → Int), w.ownsRow B 30 2 v k (vls (FOf Bv ad ln cp) (k * 2)) ∧ v.ownBlock ≠ some p ∧ ∀ i, i < k → FmO B p v (ad i) (ln i) (F i) w
theorem OL.kept {B p : Nat} {v : Value} {k : Nat} {w w' : World} (h : OL B p v k w) (hk : Kept p w w') : OL B p v k w' := by
  obtain ⟨Bv, ad, ln, cp, F, h1, h2, h3⟩ := h
  exact ⟨Bv, ad, ln, cp, F, owns_keep h1 (fun b hb => hk.block b (owns_lt h1 b hb) (fun e => h2 (by rw [hb, e]))), h2, fun i hi => (h3 i hi).kept hk⟩
theorem OL.out {B p : Nat} {v : Value} {k : Nat} {w : World} (h : OL B p v k w) : ∃ (a : Option Addr) (cap : Nat) (Bv : Nat → Int) (ad : Nat → Option Addr) (ln cp : Nat → Nat) (F : Nat → Nat → Int), v = .slice a k cap ∧ k ≤ cap ∧ PxB a k ad ln cp F Bv w ∧ ∀ i, i < k → ln i ≤ 8 := by
  obtain ⟨Bv, ad, ln, cp, F, h1, h2, h3⟩ := h
  obtain ⟨a, cap, b, hv, ho, _, hc⟩ := ow_vls h1
  refine ⟨a, cap, Bv, ad, ln, cp, F, hv, hc, ⟨?_, fun i hi => ?_⟩, fun i hi => (h3 i hi).1⟩
  · rcases ho with ho | ⟨ha, ho⟩
    · exact .inl (by omega)
    · refine .inr ⟨b, 0, ha, fun i hi => ⟨?_, ?_⟩⟩
      · rw [Nat.zero_add, (ho (i * 2) (by omega)).1, FOf_0]
      · rw [Nat.zero_add, (ho (i * 2 + 1) (by omega)).1, FOf_1]
  · rcases (h3 i hi).2 with e | ⟨b', ha', _, _, _, _, hc'⟩
    · exact .inl e
    · exact .inr ⟨b', 0, ha', fun q hq => by rw [Nat.zero_add]; exact hc' q hq⟩
set_option maxRecDepth 100000 in
theorem infoO : ∃ i, Try.prog.info? 30 = some i ∧ i.zero = some (vOf none 0 0 0) ∧ i.size = 2 ∧ i.bytes = 32 := ⟨_, rfl, rfl, rfl, rfl⟩
/-- an offer is appended -/
theorem growO (w : World) {ops : Array Oper} {rest : List Oper} {o : Oper} {a : Act} {Q : Exit → Act → World → Prop} (hgd : o.guard = none) (s x : Operand)
    (ho : o.op = .call { callee := .builtin .append, args := #[s, x], argTypes := #[24, 24] }) (B p : Nat) (v : Value) (k : Nat) (hs : a.eval s = v) (w0 : World) (hown : OL B p v k w) (hb : Below B w0 w) (hB : B ≤ w.heap.size) (hp : p < w.heap.size)
    (id : Int) (af : Option Addr) (lf cf : Nat) (f : Nat → Int) (hf : FmO B p v af lf f w) (hx : a.eval x = .slice (some ⟨w.heap.size, 0, none⟩) 1 1) (hk : k ≤ 1048576)
    (h : ∀ v' w', OL B p v' (k + 1) w' → Below B w0 w' → w.heap.size < w'.heap.size → KpV v w w' → Moved v v' w → wpList Try.prog ops Q rest (a.put o.dst v') w') :
    wpList Try.prog ops Q (o :: rest) a (w.alloc (.cells #[.int .i64 id, .slice af lf cf] 30)) := by
  obtain ⟨ti, hi1, hi2, hi3, hi4⟩ := infoO
  obtain ⟨Bv, ad, ln, cp, F, h1, h2, h3⟩ := hown
  have hsw : w.heap.size < (w.alloc (.cells [Value.int .i64 id, .slice af lf cf].toArray 30)).heap.size := by simp
  refine wpList_append_lies _ hgd s x 24 ho B 30 ti (vOf none 0 0 0) 2 32 Try.underlying24 hi1 hi2 hi3 hi4 rfl (by omega) v k _ hs (h1.alloc _) ⟨w.heap.size, 0, none⟩ 1 1 [Value.int .i64 id, .slice af lf cf] hx rfl (new_cells w [Value.int .i64 id, .slice af lf cf] 30) (fun u hu => by
    simp only [List.mem_cons, List.not_mem_nil, or_false] at hu
    rcases hu with rfl | rfl <;> rfl) (by omega) (by unfold maxLen; omega) (by omega) (Nat.le_trans hB (Nat.le_of_lt hsw)) _ rfl ?_
  intro g cap w' g1 g2 g3 g4
  have hr3 : ∀ q, Value.ownBlock v = some q → B ≤ q := fun q hq => (h1.lt q hq).1
  have hB3 : Below B (w.alloc (.cells [Value.int .i64 id, .slice af lf cf].toArray 30)) w' := (Below.refl _ _).grown g2 (Nat.le_trans hB (Nat.le_of_lt hsw)) hr3
  have hKV : KpV v w w' := fun b hb hv => by
    rw [g2.block b (Nat.lt_trans hb hsw) (fun e => hv e.symm)]
    exact (bnew w (.cells [Value.int .i64 id, .slice af lf cf].toArray 30)).block b hb
  have hMv : Moved v (.slice (some ⟨g, 0, none⟩) (k + 1) cap) w := fun b hb => by
    cases hb
    rcases g3 with g3 | g3
    · exact .inl g3
    · right; rw [g3]; exact Nat.le_of_lt hsw
  have hlt : w.heap.size < w'.heap.size := Nat.lt_of_lt_of_le hsw hB3.size
  have keep : ∀ (a' : Option Addr) (l : Nat) (f' : Nat → Int), FmO B p v a' l f' w → FmO B p (.slice (some ⟨g, 0, none⟩) (k + 1) cap) a' l f' w' := fun a' l f' ⟨q1, q2⟩ => by
    refine ⟨q1, ?_⟩
    rcases q2 with q2 | ⟨b, ha, hBb, hbw, hbp, hbv, hc⟩
    · exact .inl q2
    · refine .inr ⟨b, ha, hBb, by omega, hbp, fun e => ?_, fun q hq => ?_⟩
      · rcases hMv b e with e' | e'
        · exact hbv e'
        · omega
      · rw [World.cell?_of_block (w := w) (a := ⟨b, q, none⟩) (hKV b hbw hbv)]; exact hc q hq
  refine h _ w' ⟨fun i => if i = k then id else Bv i, fun i => if i = k then af else ad i, fun i => if i = k then lf else ln i, fun i => if i = k then cf else cp i, fun i => if i = k then f else F i, ?_, ?_, ?_⟩ ((hb.alloc hB _).trans hB3) hlt hKV hMv
  · have e : vls (FOf (fun i => if i = k then id else Bv i) (fun i => if i = k then af else ad i) (fun i => if i = k then lf else ln i) (fun i => if i = k then cf else cp i)) ((k + 1) * 2) = vls (FOf Bv ad ln cp) (k * 2) ++ [Value.int .i64 id, .slice af lf cf] := by
      rw [show (k + 1) * 2 = k * 2 + 1 + 1 by omega]
      simp only [vls]
      rw [FOf_0, FOf_1, if_pos rfl, if_pos rfl, if_pos rfl, if_pos rfl, vls_congr (G := FOf Bv ad ln cp) (fun q hq => by
        unfold FOf
        have hq2 : ¬ q / 2 = k := by omega
        simp only [if_neg hq2])]
      simp
    rw [e]; exact g1
  · intro e
    rcases hMv p e with e' | e'
    · exact h2 e'
    · omega
  · intro i hi
    by_cases e : i = k
    · subst e; simp only [if_true]; exact keep _ _ _ hf
    · simp only [if_neg e]; exact keep _ _ _ (h3 i (by omega))
theorem OL.nil (B p : Nat) (w : World) (hB : B ≤ w.heap.size) (hp : p < w.heap.size) : OL B p (.slice (some ⟨w.heap.size, 0, none⟩) 0 0) 0 (w.alloc (.cells #[] 30)) :=
  ⟨fun _ => 0, fun _ => none, fun _ => 0, fun _ => 0, fun _ _ => 0, World.ownsRow_lit w #[] 0 hB (by unfold maxLen; omega) rfl, by simp [Value.ownBlock]; omega, fun i hi => absurd hi (Nat.not_lt_zero _)⟩

end Go.Proofs.Ytgemdhhofflhgaa

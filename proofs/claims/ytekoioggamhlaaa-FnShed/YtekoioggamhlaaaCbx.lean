/- A region that copies a list and puts an image into a new box: what stays, what each operation leaves. -/
import Derived.Test.YtekoioggamhlaaaRgv
import Derived.Test.YtekoioggamhlaaaHom
import Derived.Test.YtekoioggamhlaaaBxs
namespace Go.Proofs.Ytekoioggamhlaaa
open Go.RowKit

theorem St.takeB {w0 : World} {L : List BoxT} {O : List OwnT} {w : World} (h : St w0 L O w) {b : Nat} {vs : List Value} (hx : Bx b vs w) (hl : b < w.heap.size) (hg : w0.heap.size ≤ b) (hn : b ∉ blocks L O) : St w0 ((b, vs) :: L) O w :=
  ⟨h.below, fun x hm => by
    rcases List.mem_cons.1 hm with rfl | hm
    · exact hx
    · exact h.bx x hm, h.ow, fun c hc => by
    rcases List.mem_cons.1 hc with rfl | hc
    · exact ⟨hg, hl⟩
    · exact h.lt c hc, List.nodup_cons.2 ⟨hn, h.nd⟩⟩

/-- a region that copies a list and puts an image into a new box: what stays, what each operation leaves -/
def crR (wB : World) (u : Nat → Value) (w : World) : Prop := Below wB.heap.size wB w ∧ ∀ N, u 9 = .pointer (some ⟨N, 0, none⟩) → N < w.heap.size
def crF (wB : World) (W H : Int) (n : Nat) (f : Nat → Int) (G : Nat → Value → Prop) (j : Nat) (u : Nat → Value) (w : World) : Prop :=
  G j (u j) ∧
  (j = 4 → u 7 ≠ undef ∨ ∃ e, u 4 = .slice (some ⟨e, 0, none⟩) 0 0 ∧ wB.heap.size ≤ e ∧ w.heap[e]? = some (.cells #[] 2) ∧ ∀ N, u 9 = .pointer (some ⟨N, 0, none⟩) → wB.heap.size ≤ N → e ≠ N) ∧
  (j = 7 → ∃ b c, u 7 = .slice (some ⟨b, 0, none⟩) n c ∧ wB.heap.size ≤ b ∧ Row b n f w ∧ ∀ N, u 9 = .pointer (some ⟨N, 0, none⟩) → wB.heap.size ≤ N → b ≠ N) ∧
  (j = 8 → ∃ b c, u 7 = .slice (some ⟨b, 0, none⟩) n c ∧ u 8 = .agg #[.int .i64 W, .int .i64 H, .slice (some ⟨b, 0, none⟩) n c]) ∧
  (j = 9 → ∃ N, u 9 = .pointer (some ⟨N, 0, none⟩) ∧ wB.heap.size ≤ N ∧ N < w.heap.size ∧ (u 10 ≠ undef ∨ Bx N [.int .i64 0, .int .i64 0, .slice none 0 0] w)) ∧
  (j = 10 → ∃ N b c, u 9 = .pointer (some ⟨N, 0, none⟩) ∧ u 7 = .slice (some ⟨b, 0, none⟩) n c ∧ wB.heap.size ≤ N ∧ N < w.heap.size ∧ Bx N [.int .i64 W, .int .i64 H, .slice (some ⟨b, 0, none⟩) n c] w)
theorem Row.lt1 {b n : Nat} {f : Nat → Int} {w : World} (h : Row b n f w) (h0 : 0 < n) : b < w.heap.size := World.block_lt_of_cell? w ⟨b, 0, none⟩ (h 0 h0).1
theorem crR_up {wB : World} {u : Nat → Value} {w w' : World} (h : crR wB u w) (hb : Below w.heap.size w w') (i : Nat) (h9 : 9 ≠ i) (v : Value) : crR wB (upU u i v) w' :=
  ⟨h.1.trans (hb.mono h.1.size), fun N hN => by rw [upU_other u v h9] at hN; exact Nat.lt_of_lt_of_le (h.2 N hN) hb.size⟩
theorem crF_up {wB : World} {W H : Int} {n : Nat} {f : Nat → Int} {G : Nat → Value → Prop} {u : Nat → Value} {w w' : World} (h0 : 0 < n) (hb : Below w.heap.size w w') (i : Nat) (hi7 : 7 ≠ i) (hi10 : 10 ≠ i) (v : Value) (h9 : i = 9 → v = .pointer (some ⟨w.heap.size, 0, none⟩)) (j : Nat) (hj : j ≠ i) (hx : j = 10 → i ≠ 9) (h : crF wB W H n f G j u w) : crF wB W H n f G j (upU u i v) w' := by
  have e7 : upU u i v 7 = u 7 := upU_other u v hi7
  have e10 : upU u i v 10 = u 10 := upU_other u v hi10
  have hlt : ∀ {o : Obj} {e : Nat}, w.heap[e]? = some o → w'.heap[e]? = some o := fun ho => (hb.block _ (Array.getElem?_eq_some_iff.1 ho).1).trans ho
  obtain ⟨g1, g4, g7, g8, g9, g10⟩ := h
  refine ⟨by rw [upU_other u v hj]; exact g1, fun e => ?_, fun e => ?_, fun e => ?_, fun e => ?_, fun e => ?_⟩
  · rw [e7, upU_other u v (show 4 ≠ i from fun e' => hj (e.trans e'))]
    refine (g4 e).imp id fun ⟨q, a1, a2, a3, a4⟩ => ⟨q, a1, a2, hlt a3, fun N hN hB => ?_⟩
    by_cases hi : i = 9
    · subst hi
      rw [upU_same, h9 rfl] at hN
      cases hN
      exact Nat.ne_of_lt (Array.getElem?_eq_some_iff.1 a3).1
    · rw [upU_other u v (show 9 ≠ i from fun e' => hi e'.symm)] at hN
      exact a4 N hN hB
  · obtain ⟨b, c, a1, a2, a3, a4⟩ := g7 e
    refine ⟨b, c, e7.trans a1, a2, a3.below hb (a3.lt1 h0), fun N hN hB => ?_⟩
    by_cases hi : i = 9
    · subst hi
      rw [upU_same, h9 rfl] at hN
      cases hN
      exact Nat.ne_of_lt (a3.lt1 h0)
    · rw [upU_other u v (show 9 ≠ i from fun e' => hi e'.symm)] at hN
      exact a4 N hN hB
  · obtain ⟨b, c, a1, a2⟩ := g8 e
    exact ⟨b, c, e7.trans a1, (upU_other u v (show 8 ≠ i from fun e' => hj (e.trans e'))).trans a2⟩
  · obtain ⟨N, a1, a2, a3, a4⟩ := g9 e
    refine ⟨N, (upU_other u v (show 9 ≠ i from fun e' => hj (e.trans e'))).trans a1, a2, Nat.lt_of_lt_of_le a3 hb.size, ?_⟩
    rw [e10]
    exact a4.imp id fun a => a.below hb a3
  · obtain ⟨N, b, c, a1, a2, a3, a4, a5⟩ := g10 e
    exact ⟨N, b, c, (upU_other u v (show 9 ≠ i from fun e' => hx e e'.symm)).trans a1, e7.trans a2, a3, Nat.lt_of_lt_of_le a4 hb.size, a5.below hb a4⟩
theorem crF_val {wB : World} {W H : Int} {n : Nat} {f : Nat → Int} {G : Nat → Value → Prop} {u : Nat → Value} {w : World} (j : Nat) (h4 : j ≠ 4) (h7 : j ≠ 7) (h8 : j ≠ 8) (h9 : j ≠ 9) (h10 : j ≠ 10) {v : Value} (h : G j v) : crF wB W H n f G j (upU u j v) w :=
  ⟨by rw [upU_same]; exact h, fun e => absurd e h4, fun e => absurd e h7, fun e => absurd e h8, fun e => absurd e h9, fun e => absurd e h10⟩
/-- behind the append -/
theorem crF_ap {wB : World} {W H : Int} {n : Nat} {f : Nat → Int} {G : Nat → Value → Prop} {u : Nat → Value} {w w' : World} {e : Nat} (he : w.heap[e]? = some (.cells #[] 2)) (hg : w.grownBy w' (some e)) {v : Value} (hv : v ≠ undef) (j : Nat) (hj : j ≠ 7) (hj8 : j ≠ 8) (hj10 : j ≠ 10) (h : crF wB W H n f G j u w) : crF wB W H n f G j (upU u 7 v) w' := by
  obtain ⟨g1, g4, g7, g8, g9, g10⟩ := h
  refine ⟨by rw [upU_other u v hj]; exact g1, fun _ => .inl (by rw [upU_same]; exact hv), fun e => absurd e hj, fun e => absurd e hj8, fun e' => ?_, fun e => absurd e hj10⟩
  obtain ⟨N, a1, a2, a3, a4⟩ := g9 e'
  refine ⟨N, (upU_other u v (by omega)).trans a1, a2, Nat.lt_of_lt_of_le a3 hg.size, ?_⟩
  rw [upU_other u v (show 10 ≠ 7 by omega)]
  refine a4.imp id fun a => fun k x hx => ?_
  have q := a k x hx
  have hne : N ≠ e := fun e1 => by
    subst e1
    have q0 := (a 0 _ rfl).1
    simp [World.cell?, he] at q0
  have hk := hg.block N a3 (fun e1 => hne (Option.some.inj e1))
  exact ⟨(World.cell?_of_block (a := ⟨N, k, none⟩) hk).trans q.1, (World.frozen?_of_block (a := ⟨N, k, none⟩) hk).trans q.2⟩
/-- behind the store -/
theorem crF_st {wB : World} {W H : Int} {n : Nat} {f : Nat → Int} {G : Nat → Value → Prop} {u : Nat → Value} {w w' : World} {N : Nat} (hN : u 9 = .pointer (some ⟨N, 0, none⟩)) (hNB : wB.heap.size ≤ N) (hk : Kept N w w') {v : Value} (hv : v ≠ undef) (h7 : u 7 ≠ undef) (j : Nat) (hj : j ≠ 10) (h : crF wB W H n f G j u w) : crF wB W H n f G j (upU u 10 v) w' := by
  obtain ⟨g1, g4, g7, g8, g9, g10⟩ := h
  refine ⟨by rw [upU_other u v hj]; exact g1, fun _ => .inl (by rw [upU_other u v (show 7 ≠ 10 by omega)]; exact h7), fun e => ?_, fun e => ?_, fun e => ?_, fun e => absurd e hj⟩
  · obtain ⟨b, c, a1, a2, a3, a4⟩ := g7 e
    refine ⟨b, c, (upU_other u v (by omega)).trans a1, a2, fun k hk' => ?_, fun M hM hB => a4 M ((upU_other u v (by omega)).symm.trans hM) hB⟩
    have hne := a4 N hN hNB
    have q := a3 k hk'
    exact ⟨hk.cell (a := ⟨b, k, none⟩) hne q.1, (hk.frozen (a := ⟨b, k, none⟩) hne q.1).trans q.2⟩
  · obtain ⟨b, c, a1, a2⟩ := g8 e
    exact ⟨b, c, (upU_other u v (by omega)).trans a1, (upU_other u v (by omega)).trans a2⟩
  · obtain ⟨M, a1, a2, a3, a4⟩ := g9 e
    exact ⟨M, (upU_other u v (by omega)).trans a1, a2, Nat.lt_of_lt_of_le a3 hk.size, .inl (by rw [upU_same]; exact hv)⟩

end Go.Proofs.Ytekoioggamhlaaa

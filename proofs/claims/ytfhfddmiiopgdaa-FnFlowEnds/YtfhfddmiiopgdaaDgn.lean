/- Lists of structs of numbers that are drawn, in memory of the call's own: what every such draw wants. -/
import Derived.Test.YtfhfddmiiopgdaaDpg
import Derived.Deep.DeepCutAuto
namespace Go.Proofs.Ytfhfddmiiopgdaa
open Go.RowKit

theorem Kept.setNew' {p : Nat} {w w' : World} (h : Kept p w w') {a : Addr} (ha : w.heap.size ≤ a.block) (v : Value) : Kept p w (w'.setCell a v) :=
  ⟨h.os, h.tape, h.output, by simpa using h.size, fun k hk hk2 => (Below.heap_setCell w' a v k (by omega)).trans (h.block k hk hk2)⟩
theorem Cur.setFar {p : Nat} {a : Option Addr} {len cap : Nat} {w : World} (h : Cur p a len cap w) {B : Nat} {q : Addr} (hq : B ≤ q.block) (hp : p < B) (hab : len = 0 ∨ ∀ b off, a = some ⟨b, off, none⟩ → b < B) (v : Value) : Cur p a len cap (w.setCell q v) := by
  have hb : Below B w (w.setCell q v) := (Below.refl _ _).setCell hq _
  exact h.belowB hb hp hab
theorem own_setG {w : World} {B n b cap m : Nat} {e : TypeId} {L : List Int} (h : w.ownsRow B e m (.slice (some ⟨b, 0, none⟩) n cap) n (ints L)) (k : Nat) (z : Int) :
    (w.setCell ⟨b, k, none⟩ (.int .i64 z)).ownsRow B e m (.slice (some ⟨b, 0, none⟩) n cap) n (ints (L.set k z)) := by
  obtain ⟨h1, h2⟩ := h
  refine ⟨by rw [ints_length] at h1 ⊢; rw [List.length_set]; exact h1, ?_⟩
  rcases h2 with ⟨hv, _⟩ | ⟨b', cap', cur, hv, hB, hh, hn, hc, hs, ht⟩
  · cases hv
  · cases hv
    refine .inr ⟨b, cap, cur.setIfInBounds k (.int .i64 z), rfl, hB, ?_, hn, hc, by rw [Array.size_setIfInBounds]; exact hs, ?_⟩
    · rw [heap_setCell_same w b k cur e _ hh]
    · rw [Array.toList_setIfInBounds, List.take_set, ht]
      unfold ints
      rw [List.map_set]
theorem owns_far {w w' : World} {B m n : Nat} {e : TypeId} {v : Value} {xs : List Value} (h : w.ownsRow B e m v n xs) (hk : ∀ b, v.ownBlock = some b → w'.heap[b]? = w.heap[b]?) : w'.ownsRow B e m v n xs := by
  refine ⟨h.1, ?_⟩
  rcases h.2 with hn | ⟨g, cap, cur, hv, hB, hg, rest⟩
  · exact .inl hn
  · exact .inr ⟨g, cap, cur, hv, hB, (hk g (by rw [hv]; rfl)).trans hg, rest⟩
theorem bytes_lt' {a : Option Addr} {len : Nat} {w : World} (h : Bytes a len w) {B : Nat} (hB : w.heap.size ≤ B) : len = 0 ∨ ∀ b off, a = some ⟨b, off, none⟩ → b < B := by
  by_cases h0 : len = 0
  · exact .inl h0
  · obtain ⟨_, h | ⟨b, off, ha, h⟩⟩ := h
    · exact .inl h
    · refine .inr fun b' off' e => ?_
      rw [ha] at e
      cases e
      obtain ⟨z, _, _, hz⟩ := h 0 (by omega)
      have : b < w.heap.size := World.block_lt_of_cell? w ⟨b, off + 0, none⟩ hz
      omega
theorem own_pxG {B m sz : Nat} {e : TypeId} {v : Value} {L : List Int} {wr : World} (h0 : wr.ownsRow B e sz v m (ints L)) : ∃ ad cp, v = .slice ad m cp ∧ (ad = none → m = 0 ∧ cp = 0) ∧ Px ad (m * sz) (fun k => L.getD k 0) wr := by
  have hl : L.length = m * sz := by have := h0.1; rw [ints_length] at this; omega
  have h := h0
  obtain ⟨hlen, hv | ⟨b, cp, cur, hv, hg, hcur, _, hm2, _, _⟩⟩ := h
  · exact ⟨none, 0, by rw [hv.1, hv.2], fun _ => ⟨hv.2, rfl⟩, .inl (by rw [hv.2, Nat.zero_mul])⟩
  · subst hv
    refine ⟨_, cp, rfl, (fun h => by cases h), .inr ⟨b, 0, rfl, fun k hk => ?_⟩⟩
    rw [Nat.zero_add, h0.cellAt k hk, ints_at _ _ (by omega)]

/-- a list of structs of sz numbers that is drawn: its cells -/
structure GL (e : TypeId) (sz p : Nat) (a : Option Addr) (len cap : Nat) (w : World) (v : Value) (m : Nat) (L : List Int) (wr : World) : Prop where
  own : wr.ownsRow w.heap.size e sz v m (ints L)
  cur : Cur p a len cap wr
  kept : Kept p w wr
theorem GL.len {e : TypeId} {sz p : Nat} {a : Option Addr} {len cap : Nat} {w : World} {v : Value} {m : Nat} {L : List Int} {wr : World} (h : GL e sz p a len cap w v m L wr) : L.length = m * sz := by
  have := h.own.1; rw [ints_length] at this; omega
theorem GL.next {e : TypeId} {sz p : Nat} {a : Option Addr} {len cap : Nat} {w : World} {v : Value} {m : Nat} {L : List Int} {wr w' : World} (h : GL e sz p a len cap w v m L wr) (hp : p < w.heap.size) (hc : Cur p a len cap w') (hk : Kept p wr w') : GL e sz p a len cap w v m L w' :=
  ⟨owns_kept h.own hk hp, hc, h.kept.trans hk⟩
theorem GL.form {e : TypeId} {sz p : Nat} {a : Option Addr} {len cap : Nat} {w : World} {v : Value} {m : Nat} {L : List Int} {wr : World} (h : GL e sz p a len cap w v m L wr) (hm : m ≠ 0) :
    ∃ b cp, v = .slice (some ⟨b, 0, none⟩) m cp ∧ w.heap.size ≤ b ∧ ∀ k, k < m * sz → (∃ z, wr.cell? ⟨b, k, none⟩ = some (.int .i64 z)) ∧ wr.frozen? ⟨b, k, none⟩ = false := by
  have hl := h.len
  have h0 := h.own
  obtain ⟨hlen, hv | ⟨b, cp, cur, hv, hg, hcur, _, hm2, _, _⟩⟩ := h.own
  · exact absurd hv.2 hm
  · subst hv
    refine ⟨b, cp, rfl, hg, fun k hk => ⟨⟨L.getD k 0, ?_⟩, h0.frozenAt k⟩⟩
    rw [h0.cellAt k hk, ints_at _ _ (by omega)]
theorem GL.isl {e : TypeId} {sz p : Nat} {a : Option Addr} {len cap : Nat} {w : World} {v : Value} {m : Nat} {L : List Int} {wr : World} (h : GL e sz p a len cap w v m L wr) : ∃ ad cp, v = .slice ad m cp := by
  obtain ⟨_, hv | ⟨b, cp, _, hv, _⟩⟩ := h.own
  · exact ⟨none, 0, by rw [hv.1, hv.2]⟩
  · exact ⟨_, cp, hv⟩
theorem GL.set {e : TypeId} {sz p : Nat} {a : Option Addr} {len cap : Nat} {w : World} {m : Nat} {L : List Int} {wr : World} {b cp : Nat} (h : GL e sz p a len cap w (.slice (some ⟨b, 0, none⟩) m cp) m L wr) (hp : p < w.heap.size) (hab : len = 0 ∨ ∀ b off, a = some ⟨b, off, none⟩ → b < w.heap.size) (hb : w.heap.size ≤ b) (k : Nat) (z : Int) :
    GL e sz p a len cap w (.slice (some ⟨b, 0, none⟩) m cp) m (L.set k z) (wr.setCell ⟨b, k, none⟩ (.int .i64 z)) :=
  ⟨own_setG h.own k z, h.cur.setFar (q := ⟨b, k, none⟩) hb hp hab _, h.kept.setNew' (a := ⟨b, k, none⟩) hb _⟩
theorem lit4 {w : World} {x0 x1 x2 x3 : Int} (Y : Nat) (h : Y < 4) : ∃ z : Int, (w.alloc (.cells #[.int .i64 x0, .int .i64 x1, .int .i64 x2, .int .i64 x3] 2)).cell? ⟨w.heap.size, Y, none⟩ = some (.int .i64 z) := by
  have : Y = 0 ∨ Y = 1 ∨ Y = 2 ∨ Y = 3 := by omega
  rcases this with rfl | rfl | rfl | rfl <;> exact ⟨_, by simp [go_sem]; rfl⟩
theorem lit3 {w : World} {x0 x1 x2 : Int} (Y : Nat) (h : Y < 3) : ∃ z : Int, (w.alloc (.cells #[.int .i64 x0, .int .i64 x1, .int .i64 x2] 2)).cell? ⟨w.heap.size, Y, none⟩ = some (.int .i64 z) := by
  have : Y = 0 ∨ Y = 1 ∨ Y = 2 := by omega
  rcases this with rfl | rfl | rfl <;> exact ⟨_, by simp [go_sem]; rfl⟩

end Go.Proofs.Ytfhfddmiiopgdaa

/- slices.Insert of one order into a list of the call's own, wherever it stands. -/
import Derived.Test.YtfhfddmiiopgdaaFlk
namespace Go.Proofs.Ytfhfddmiiopgdaa
open Go.RowKit Go.Proofs

/-- an order put in at a place -/
def insL (L : List Int) (i : Nat) (xs : List Int) : List Int := L.take (i * 4) ++ xs ++ L.drop (i * 4)
theorem below_setCells {B b : Nat} (hB : B ≤ b) : ∀ (vs : List Value) (o : Nat) {w0 w : World}, Below B w0 w → Below B w0 (w.setCells b o vs)
  | [], _, _, _, h => h
  | v :: vs, o, _, _, h => below_setCells hB vs (o + 1) (h.setCell (p := ⟨b, o, none⟩) hB v)
theorem grown_setCells {b : Nat} {row : Option Nat} {w : World} (hb : row = some b ∨ w.heap.size ≤ b) : ∀ (vs : List Value) (o : Nat) {w' : World}, w.grownBy w' row → w.grownBy (w'.setCells b o vs) row
  | [], _, _, h => h
  | v :: vs, o, w', h => grown_setCells hb vs (o + 1) (w' := w'.setCell ⟨b, o, none⟩ v) ⟨h.os, h.tape, h.output, by have := ((Below.refl 0 w').setCell (p := ⟨b, o, none⟩) (Nat.zero_le _) v).size; have := h.size; omega, fun k hk hne => by
      rw [Below.heap_setCell w' ⟨b, o, none⟩ v k (fun e => by
        have e' : k = b := e
        subst e'
        rcases hb with hb | hb
        · exact hne hb.symm
        · omega)]
      exact h.block k hk hne⟩
theorem ints_take (L : List Int) (k : Nat) : (ints L).take k = ints (L.take k) := by unfold ints; rw [List.map_take]
theorem ints_drop (L : List Int) (k : Nat) : (ints L).drop k = ints (L.drop k) := by unfold ints; rw [List.map_drop]

theorem put_shift {cs sp vs : List Value} {i n : Nat} (hcl : cs.length = n * 4) (hsp : sp.length = 4) (hv : vs.length = 4) (hi : i < n) : putL (putL (cs ++ sp) ((i + 1) * 4) (cs.drop (i * 4))) (i * 4) vs = cs.take (i * 4) ++ vs ++ cs.drop (i * 4) := by
  have l1 : (cs.drop (i * 4)).length = n * 4 - i * 4 := by rw [List.length_drop, hcl]
  rw [putL_eq _ (cs ++ sp) _ (by rw [l1, List.length_append, hcl, hsp]; omega)]
  have e1 : (cs ++ sp).drop ((i + 1) * 4 + (cs.drop (i * 4)).length) = [] := List.drop_eq_nil_of_le (by rw [l1, List.length_append, hcl, hsp]; omega)
  rw [e1, List.append_nil]
  have l2 : ((cs ++ sp).take ((i + 1) * 4)).length = (i + 1) * 4 := by rw [List.length_take, List.length_append, hcl, hsp]; omega
  rw [putL_eq vs _ _ (by rw [List.length_append, l2, hv]; omega)]
  have e2 : (((cs ++ sp).take ((i + 1) * 4)) ++ cs.drop (i * 4)).take (i * 4) = cs.take (i * 4) := by
    rw [List.take_append_of_le_length (by rw [l2]; omega), List.take_take, Nat.min_eq_left (by omega), List.take_append_of_le_length (by omega)]
  have e3 : (((cs ++ sp).take ((i + 1) * 4)) ++ cs.drop (i * 4)).drop (i * 4 + vs.length) = cs.drop (i * 4) := by
    have : i * 4 + vs.length = ((cs ++ sp).take ((i + 1) * 4)).length := by rw [l2, hv]; omega
    rw [this, List.drop_left]
  rw [e2, e3]
theorem put_grow {cs xs vs : List Value} {i n : Nat} (hcl : cs.length = n * 4) (hx : xs.length = (n + 1) * 4) (ht : xs.take (i * 4) = cs.take (i * 4)) (hv : vs.length = 4) (hi : i < n) : putL (putL xs (i * 4) vs) ((i + 1) * 4) (cs.drop (i * 4)) = cs.take (i * 4) ++ vs ++ cs.drop (i * 4) := by
  have l1 : (cs.drop (i * 4)).length = n * 4 - i * 4 := by rw [List.length_drop, hcl]
  have l0 : (cs.take (i * 4)).length = i * 4 := by rw [List.length_take, hcl]; omega
  rw [putL_eq vs xs _ (by rw [hv, hx]; omega), ht]
  have l2 : (cs.take (i * 4) ++ vs).length = (i + 1) * 4 := by rw [List.length_append, l0, hv]; omega
  have l3 : (cs.take (i * 4) ++ vs ++ xs.drop (i * 4 + vs.length)).length = (n + 1) * 4 := by rw [List.length_append, l2, List.length_drop, hx, hv]; omega
  rw [putL_eq _ _ _ (by rw [l1, l3]; omega)]
  have e1 : (cs.take (i * 4) ++ vs ++ xs.drop (i * 4 + vs.length)).drop ((i + 1) * 4 + (cs.drop (i * 4)).length) = [] := List.drop_eq_nil_of_le (by rw [l1, l3]; omega)
  have e2 : (cs.take (i * 4) ++ vs ++ xs.drop (i * 4 + vs.length)).take ((i + 1) * 4) = cs.take (i * 4) ++ vs := by
    rw [← l2, List.take_left]
  rw [e1, e2, List.append_nil]

set_option maxRecDepth 100000 in
set_option maxHeartbeats 4000000 in
theorem insert_any (B : Nat) (v : Value) (n i : Nat) (L : List Int) (X : Nat) (x0 x1 x2 x3 : Int) (hi : i ≤ n) (hn : n ≤ 1000) (w : World) (ho : w.ownsRow B 41 4 v n (ints L)) (hB : B ≤ w.heap.size)
    (hX : w.heap[X]? = some (.cells #[.int .i64 x0, .int .i64 x1, .int .i64 x2, .int .i64 x3] 41)) (hne : ∀ b, v.ownBlock = some b → b ≠ X) :
    Calls Try.prog 35 #[v, .int .i64 i, .slice (some ⟨X, 0, none⟩) 1 1] w fun e w' => ∃ g cp, e = .returned (.slice (some ⟨g, 0, none⟩) (n + 1) cp) ∧ w'.ownsRow B 41 4 (.slice (some ⟨g, 0, none⟩) (n + 1) cp) (n + 1) (ints (insL L i [x0, x1, x2, x3])) ∧ w.grownBy w' v.ownBlock ∧ (v.ownBlock = some g ∨ w.heap.size ≤ g) := by
  have hl : L.length = n * 4 := by have := ho.1; rw [ints_length] at this; omega
  have hbx : BOrder X x0 x1 x2 x3 w := by
    refine ⟨?_, ?_, ?_, ?_⟩ <;> simp [World.cell?, hX]
  by_cases hin : i = n
  · subst hin
    refine (insertEnd_any B v i L X x0 x1 x2 x3 hn w ho hB hbx).mono ?_
    rintro e w' ⟨g, cp, h1, h2, h3⟩
    refine ⟨g, cp, h1, ?_, h3⟩
    unfold insL
    rw [← hl, List.take_length, List.drop_length, List.append_nil]
    exact h2
  have ho' := ho
  obtain ⟨hlen, hv | ⟨b, cp, cur, rfl, hg, hcur, hncp, hcm, hcs, hct⟩⟩ := ho'
  · have := hv.2; omega
  have hbX : b ≠ X := hne b rfl
  have hvs : ∀ j u, (ints [x0, x1, x2, x3])[j]? = some u → w.cell? ⟨X, j, none⟩ = some u := by
    obtain ⟨h0, h1, h2, h3⟩ := hbx
    intro j u hj
    have hj4 : j < 4 := by have := (List.getElem?_eq_some_iff.1 hj).1; simpa [ints] using this
    have : j = 0 ∨ j = 1 ∨ j = 2 ∨ j = 3 := by omega
    rcases this with rfl | rfl | rfl | rfl <;> simp [ints] at hj <;> subst hj <;> assumption
  have hcl : (ints L).length = n * 4 := by rw [ints_length]; exact hl
  have hcells : ∀ j u, (ints L)[j]? = some u → w.cell? ⟨b, j, none⟩ = some u := fun j u hj => by
    have hj4 : j < n * 4 := by have := (List.getElem?_eq_some_iff.1 hj).1; omega
    rw [ho.cellAt j hj4]; exact hj
  have hee : (ints L).take (i * 4) ++ ints [x0, x1, x2, x3] ++ (ints L).drop (i * 4) = ints (insL L i [x0, x1, x2, x3]) := by unfold insL; rw [ints_take, ints_drop, ints_append, ints_append]
  by_cases hroom : n + 1 ≤ cp
  · obtain ⟨sp, hspl, hom⟩ := own_more ho hroom
    have hall : ∀ j, j < (n + 1) * 4 → (w.cell? ⟨b, j, none⟩).isSome = true := fun j hj => by
      rw [hom.cellAt j hj]
      rw [List.getElem?_eq_getElem (by rw [List.length_append, hcl, hspl]; omega)]; rfl
    refine (insertShift_any b n cp i X (ints L) (ints [x0, x1, x2, x3]) (by omega) hn hroom hcm hbX.symm w hcl rfl hcells hall (fun j _ => ho.frozenAt j) hvs (ints_one _) (ints_one _)
      41 41 4 cur.size (by simp [World.shape?, hX]) (by simp [World.shape?, hcur]) (by rw [hcs]; omega) (by simp [World.frozen?, hX]) (by simp [World.frozen?, hX])).mono ?_
    rintro e w' ⟨h1, h2⟩
    refine ⟨_, _, h1, ?_, ?_, .inl rfl⟩
    · rw [h2]
      have hd : w.drew.ownsRow B 41 4 (.slice (some ⟨b, 0, none⟩) (n + 1) cp) (n + 1) (ints L ++ sp) := hom
      have r := own_setCells (ints [x0, x1, x2, x3]) (i * 4) (own_setCells ((ints L).drop (i * 4)) ((i + 1) * 4) hd)
      rw [put_shift (vs := ints [x0, x1, x2, x3]) hcl hspl (ints_length _) (by omega), hee] at r
      exact r
    · rw [h2]
      exact grown_setCells (.inl rfl) _ _ (grown_setCells (.inl rfl) _ _ ⟨rfl, rfl, rfl, Nat.le_refl _, fun _ _ _ => rfl⟩)
  · refine (insertGrow_any b n cp i X (ints L) (ints [x0, x1, x2, x3]) (by omega) hn hncp (by omega) w hcl rfl hcells hvs (ints_one _) (ints_one _)).mono ?_
    rintro e w' ⟨G, ROW, hG1, hG2, hR1, hR2, h1, h2⟩
    refine ⟨_, _, h1, ?_, ?_, .inr (Nat.le_refl _)⟩
    · rw [h2]
      have hGR : (n + 1) * 4 ≤ ROW.toList.length := by rw [Array.length_toList, hR1]; exact Nat.mul_le_mul_right _ hG1
      have hd : (w.alloc (.cells ROW 41)).drew.ownsRow B 41 4 (.slice (some ⟨w.heap.size, 0, none⟩) (n + 1) G) (n + 1) (ROW.toList.take ((n + 1) * 4)) := by
        refine ⟨by rw [List.length_take]; omega, .inr ⟨w.heap.size, G, ROW, rfl, hB, ?_, hG1, hG2, hR1, rfl⟩⟩
        show (w.alloc (.cells ROW 41)).heap[w.heap.size]? = _
        show (w.heap.push _)[w.heap.size]? = _
        exact Array.getElem?_push_size
      have hxl : (ROW.toList.take ((n + 1) * 4)).length = (n + 1) * 4 := by rw [List.length_take]; omega
      have hxt : (ROW.toList.take ((n + 1) * 4)).take (i * 4) = (ints L).take (i * 4) := by rw [List.take_take, Nat.min_eq_left (by omega)]; exact hR2
      have hd2 : (((w.alloc (.cells ROW 41)).drew.setCells w.heap.size (i * 4) (ints [x0, x1, x2, x3])).drew).ownsRow B 41 4 (.slice (some ⟨w.heap.size, 0, none⟩) (n + 1) G) (n + 1) (putL (ROW.toList.take ((n + 1) * 4)) (i * 4) (ints [x0, x1, x2, x3])) := own_setCells (ints [x0, x1, x2, x3]) (i * 4) hd
      have r := own_setCells ((ints L).drop (i * 4)) ((i + 1) * 4) hd2
      rw [put_grow (vs := ints [x0, x1, x2, x3]) hcl hxl hxt (ints_length _) (by omega), hee] at r
      exact r
    · rw [h2]
      have q0 : w.grownBy ((w.alloc (.cells ROW 41)).drew) (some b) := ⟨rfl, rfl, rfl, (World.grownBy_alloc w _ none).size, fun k hk _ => (World.grownBy_alloc w _ none).block k hk (by simp)⟩
      have q1 := grown_setCells (.inr (Nat.le_refl _)) (ints [x0, x1, x2, x3]) (i * 4) q0
      exact grown_setCells (.inr (Nat.le_refl _)) _ _ (w' := World.drew _) ⟨q1.os, q1.tape, q1.output, q1.size, q1.block⟩

end Go.Proofs.Ytfhfddmiiopgdaa

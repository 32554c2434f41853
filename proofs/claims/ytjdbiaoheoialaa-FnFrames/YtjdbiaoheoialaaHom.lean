/- More on what a walk keeps in hand. -/
import Derived.Test.YtjdbiaoheoialaaPic
namespace Go.Proofs.Ytjdbiaoheoialaa
open Go.RowKit

/-- an image is answered: its list is new -/
def ImR (rW rH : Int) (rN : Nat) (s : Nat → Int) (w : World) (e : Ending) (w' : World) : Prop :=
  ∃ a0 cap b, e = .returned (im rW rH a0 rN cap) ∧ Ow a0 b rN s w' ∧ (rN = 0 ∨ w.heap.size ≤ b) ∧ Below w.heap.size w w'

theorem St.box' {w0 : World} {L : List BoxT} {O : List OwnT} {w : World} (h : St w0 L O w) (vs : List Value) (t : TypeId) {b : Nat} (hb : w.heap.size = b) :
    St w0 ((b, vs) :: L) O (w.alloc (.cells vs.toArray t)) := by subst hb; exact h.box vs t

/-- a list of its own is written: the rest stays -/
theorem St.out {w0 : World} {L : List BoxT} {O : List OwnT} {w w' : World} {a : Option Addr} {b n : Nat} {f : Nat → Value} (h : St w0 L ((a, b, n, f) :: O) w) (hn : n ≠ 0) (hk : Kept b w w') : St w0 L O w' := by
  have pm : (blocks L ((a, b, n, f) :: O)).Perm (b :: blocks L O) := by
    unfold blocks
    rw [List.filter_cons_of_pos (by simp [hn])]
    exact List.perm_middle
  have nd := h.nd
  rw [pm.nodup_iff] at nd
  have hnot := (List.nodup_cons.1 nd).1
  have hb0 := h.lt b (pm.mem_iff.2 (List.mem_cons_self ..))
  refine ⟨h.below.trans (hk.below hb0.1 h.below.size), fun x hx => (h.bx x hx).kept hk (fun e => hnot ?_), fun x hx => (h.ow x (List.mem_cons_of_mem _ hx)).keptO hk (fun hx0 e => hnot ?_), fun c hc => ?_, (List.nodup_cons.1 nd).2⟩
  · rw [← e]; exact mem_blocks_box hx
  · rw [← e]; exact mem_blocks_own hx hx0
  · have := h.lt c (pm.mem_iff.2 (List.mem_cons_of_mem _ hc))
    exact ⟨this.1, Nat.lt_of_lt_of_le this.2 hk.size⟩
theorem St.not {w0 : World} {L : List BoxT} {O : List OwnT} {w : World} {a : Option Addr} {b n : Nat} {f : Nat → Value} (h : St w0 L ((a, b, n, f) :: O) w) (hn : n ≠ 0) : b ∉ blocks L O := by
  have pm : (blocks L ((a, b, n, f) :: O)).Perm (b :: blocks L O) := by
    unfold blocks
    rw [List.filter_cons_of_pos (by simp [hn])]
    exact List.perm_middle
  have nd := h.nd
  rw [pm.nodup_iff] at nd
  exact (List.nodup_cons.1 nd).1
theorem St.neB {w0 : World} {L : List BoxT} {O : List OwnT} {w : World} {a : Option Addr} {b n : Nat} {f : Nat → Value} (h : St w0 L ((a, b, n, f) :: O) w) (hn : n ≠ 0) (i : Nat) {c : Nat} {vs : List Value} (hm : L[i]? = some (c, vs)) : c ≠ b :=
  fun e => h.not hn (by rw [← e]; exact mem_blocks_box (List.mem_of_getElem? hm))
theorem St.neO {w0 : World} {L : List BoxT} {O : List OwnT} {w : World} {a : Option Addr} {b n : Nat} {f : Nat → Value} (h : St w0 L ((a, b, n, f) :: O) w) (hn : n ≠ 0) (i : Nat) {a' : Option Addr} {c n' : Nat} {f' : Nat → Value} (hm : O[i]? = some (a', c, n', f')) (hn' : n' ≠ 0) : c ≠ b :=
  fun e => h.not hn (by rw [← e]; exact mem_blocks_own (List.mem_of_getElem? hm) hn')
theorem St.mark0 {w0 : World} {L : List BoxT} {O : List OwnT} {w w' : World} {a : Option Addr} {b n : Nat} {f f' : Nat → Value} (h : St w0 L ((a, b, n, f) :: O) w) (hn : n ≠ 0) (hk : Kept b w w') (ho : OwV a b n f' w') : St w0 L ((a, b, n, f') :: O) w' :=
  St.mark (O1 := []) h (by rw [bk_pos hn]; exact hk) (by rw [bk_pos hn]; exact ho)

theorem St.dr1 {w0 : World} {L : List BoxT} {x y0 : OwnT} {O : List OwnT} {w : World} (h : St w0 L (x :: y0 :: O) w) : St w0 L (x :: O) w := h.sub (List.Sublist.refl _) (List.Sublist.cons_cons _ (List.Sublist.cons _ (List.Sublist.refl _)))
theorem St.dr2 {w0 : World} {L : List BoxT} {x y0 y1 : OwnT} {O : List OwnT} {w : World} (h : St w0 L (x :: y0 :: y1 :: O) w) : St w0 L (x :: O) w := h.sub (List.Sublist.refl _) (List.Sublist.cons_cons _ (List.Sublist.cons _ (List.Sublist.cons _ (List.Sublist.refl _))))
theorem St.dr3 {w0 : World} {L : List BoxT} {x y0 y1 y2 : OwnT} {O : List OwnT} {w : World} (h : St w0 L (x :: y0 :: y1 :: y2 :: O) w) : St w0 L (x :: O) w := h.sub (List.Sublist.refl _) (List.Sublist.cons_cons _ (List.Sublist.cons _ (List.Sublist.cons _ (List.Sublist.cons _ (List.Sublist.refl _)))))
theorem St.dr4 {w0 : World} {L : List BoxT} {x y0 y1 y2 y3 : OwnT} {O : List OwnT} {w : World} (h : St w0 L (x :: y0 :: y1 :: y2 :: y3 :: O) w) : St w0 L (x :: O) w := h.sub (List.Sublist.refl _) (List.Sublist.cons_cons _ (List.Sublist.cons _ (List.Sublist.cons _ (List.Sublist.cons _ (List.Sublist.cons _ (List.Sublist.refl _))))))
theorem St.im3 {w0 : World} {L : List BoxT} {O : List OwnT} {w : World} (h : St w0 L O w) (i : Nat) {b : Nat} {v0 v1 v2 : Value} (hm : L[i]? = some (b, [v0, v1, v2])) :
    w.cell? ⟨b, 0, none⟩ = some v0 ∧ w.cell? ⟨b, 1, none⟩ = some v1 ∧ w.cell? ⟨b, 2, none⟩ = some v2 := ⟨h.cell i hm 0 rfl, h.cell i hm 1 rfl, h.cell i hm 2 rfl⟩
theorem St.fr3 {w0 : World} {L : List BoxT} {O : List OwnT} {w : World} (h : St w0 L O w) (i : Nat) {b : Nat} {v0 v1 v2 : Value} (hm : L[i]? = some (b, [v0, v1, v2])) :
    w.frozen? ⟨b, 0, none⟩ = false ∧ w.frozen? ⟨b, 1, none⟩ = false ∧ w.frozen? ⟨b, 2, none⟩ = false := ⟨h.free i hm 0 rfl, h.free i hm 1 rfl, h.free i hm 2 rfl⟩
theorem St.ltB {w0 : World} {L : List BoxT} {O : List OwnT} {w : World} (h : St w0 L O w) (i : Nat) {b : Nat} {vs : List Value} (hm : L[i]? = some (b, vs)) : w0.heap.size ≤ b ∧ b < w.heap.size :=
  h.lt b (mem_blocks_box (List.mem_of_getElem? hm))
/-- a box whose three cells are written anew -/
theorem St.fill3 {w0 : World} {L : List BoxT} {O : List OwnT} {w : World} {c : Nat} {x0 x1 x2 : Value} (h : St w0 ((c, [x0, x1, x2]) :: L) O w) (v0 v1 v2 : Value) :
    St w0 ((c, [v0, v1, v2]) :: L) O (((w.setCell ⟨c, 0, none⟩ v0).setCell ⟨c, 1, none⟩ v1).setCell ⟨c, 2, none⟩ v2) :=
  St.fill (L1 := []) (St.fill (L1 := []) (St.fill (L1 := []) h 0 v0) 1 v1) 2 v2
theorem St.fill3' {w0 : World} {L1 L2 : List BoxT} {O : List OwnT} {w : World} {c : Nat} {x0 x1 x2 : Value} (h : St w0 (L1 ++ (c, [x0, x1, x2]) :: L2) O w) (v0 v1 v2 : Value) :
    St w0 (L1 ++ (c, [v0, v1, v2]) :: L2) O (((w.setCell ⟨c, 0, none⟩ v0).setCell ⟨c, 1, none⟩ v1).setCell ⟨c, 2, none⟩ v2) :=
  St.fill (St.fill (St.fill h 0 v0) 1 v1) 2 v2
/-- an answer out of what is in hand -/
theorem St.imR {w0 : World} {L : List BoxT} {O : List OwnT} {w : World} {a : Option Addr} {b n : Nat} {s : Nat → Int} (h : St w0 L ((a, b, n, fun k => .int .i64 (s k)) :: O) w) (W H : Int) (cap : Nat) : ImR W H n s w0 (.returned (im W H a n cap)) w :=
  ⟨a, cap, b, rfl, h.nthO 0 rfl, by
    by_cases h0 : n = 0
    · exact .inl h0
    · exact .inr (h.lt b (mem_blocks_own (x := (a, b, n, fun k => .int .i64 (s k))) (List.mem_cons_self ..) h0)).1, h.below⟩
theorem St.imN {w0 : World} {L : List BoxT} {O : List OwnT} {w : World} (h : St w0 L O w) (s : Nat → Int) : ImR 0 0 0 s w0 (.returned (im 0 0 none 0 0)) w :=
  ⟨none, 0, 0, rfl, .inl rfl, .inl rfl, h.below⟩

end Go.Proofs.Ytjdbiaoheoialaa

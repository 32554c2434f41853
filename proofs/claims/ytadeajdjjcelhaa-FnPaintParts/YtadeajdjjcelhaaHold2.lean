/- More on what the law keeps in hand. -/
import Derived.Test.YtadeajdjjcelhaaHold
namespace Go.Proofs.Ytadeajdjjcelhaa
open Go.RowKit

theorem St.cells {w0 : World} {L : List BoxT} {O : List OwnT} {w : World} (h : St w0 L O w) {b : Nat} {W H : Int} {s : Value} (hm : (b, W, H, s) ∈ L) :
    w.cell? ⟨b, 0, none⟩ = some (.int .i64 W) ∧ w.cell? ⟨b, 1, none⟩ = some (.int .i64 H) ∧ w.cell? ⟨b, 2, none⟩ = some s := h.im _ hm

theorem St.six {w0 : World} {L : List BoxT} {O : List OwnT} {w : World} (h : St w0 L O w) {b : Nat} {W H : Int} {s : Value} (hm : (b, W, H, s) ∈ L) {b' : Nat} {W' H' : Int} {s' : Value} (hm' : (b', W', H', s') ∈ L) :
    w.cell? ⟨b, 0, none⟩ = some (.int .i64 W) ∧ w.cell? ⟨b, 1, none⟩ = some (.int .i64 H) ∧ w.cell? ⟨b, 2, none⟩ = some s ∧ w.cell? ⟨b', 0, none⟩ = some (.int .i64 W') ∧ w.cell? ⟨b', 1, none⟩ = some (.int .i64 H') ∧ w.cell? ⟨b', 2, none⟩ = some s' :=
  ⟨(h.im _ hm).1, (h.im _ hm).2.1, (h.im _ hm).2.2, (h.im _ hm').1, (h.im _ hm').2.1, (h.im _ hm').2.2⟩

/-- a box is written anew -/
theorem St.fill {w0 : World} {L : List BoxT} {O : List OwnT} {w : World} {c : Nat} {W0 H0 : Int} {s0 : Value} (h : St w0 ((c, W0, H0, s0) :: L) O w) (W H : Int) (s : Value) :
    St w0 ((c, W, H, s) :: L) O (((w.setCell ⟨c, 0, none⟩ (.int .i64 W)).setCell ⟨c, 1, none⟩ (.int .i64 H)).setCell ⟨c, 2, none⟩ s) := by
  have hk : Kept c w (((w.setCell ⟨c, 0, none⟩ (.int .i64 W)).setCell ⟨c, 1, none⟩ (.int .i64 H)).setCell ⟨c, 2, none⟩ s) := (((Kept.refl c w).setCell rfl _).setCell rfl _).setCell rfl _
  have nd : (c :: blocks L O).Nodup := h.nd
  have hnot := (List.nodup_cons.1 nd).1
  have hlt := h.lt c (List.mem_cons_self ..)
  obtain ⟨c0, c1, c2⟩ := h.im _ (List.mem_cons_self ..)
  refine ⟨h.below.trans (hk.below hlt.1 h.below.size), fun x hx => ?_, fun x hx => ?_, fun x hx => (h.ow x hx).kept hk ?_, fun b hb => ⟨(h.lt b hb).1, Nat.lt_of_lt_of_le (h.lt b hb).2 hk.size⟩, h.nd⟩
  · rcases List.mem_cons.1 hx with rfl | hx
    · refine ⟨?_, ?_, ?_⟩
      · rw [World.cell?_setCell_other _ _ _ _ (by simp), World.cell?_setCell_other _ _ _ _ (by simp)]
        exact World.cell?_setCell_same _ _ _ c0
      · rw [World.cell?_setCell_other _ _ _ _ (by simp)]
        refine World.cell?_setCell_same _ _ _ (u := .int .i64 H0) ?_
        rw [World.cell?_setCell_other _ _ _ _ (by simp)]; exact c1
      · refine World.cell?_setCell_same _ _ _ (u := s0) ?_
        rw [World.cell?_setCell_other _ _ _ _ (by simp), World.cell?_setCell_other _ _ _ _ (by simp)]; exact c2
    · refine (h.im x (List.mem_cons_of_mem _ hx)).kept hk ?_
      intro e; exact hnot (by rw [← e]; exact mem_blocks_box hx)
  · rcases List.mem_cons.1 hx with rfl | hx
    · obtain ⟨f0, f1, f2⟩ := h.fr _ (List.mem_cons_self ..)
      exact ⟨by simpa using f0, by simpa using f1, by simpa using f2⟩
    · refine (h.fr x (List.mem_cons_of_mem _ hx)).kept (h.im x (List.mem_cons_of_mem _ hx)) hk ?_
      intro e; exact hnot (by rw [← e]; exact mem_blocks_box hx)
  · intro e; exact hnot (by rw [← e]; exact mem_blocks_own hx)

theorem St.head {w0 : World} {L : List BoxT} {O : List OwnT} {w : World} {c : Nat} {W H : Int} {s : Value} (h : St w0 ((c, W, H, s) :: L) O w) :
    (w.cell? ⟨c, 0, none⟩ = some (.int .i64 W) ∧ w.cell? ⟨c, 1, none⟩ = some (.int .i64 H) ∧ w.cell? ⟨c, 2, none⟩ = some s) ∧ w.frozen? ⟨c, 0, none⟩ = false ∧ w.frozen? ⟨c, 1, none⟩ = false ∧ w.frozen? ⟨c, 2, none⟩ = false :=
  ⟨h.im _ (List.mem_cons_self ..), h.fr _ (List.mem_cons_self ..)⟩

theorem Ow.of_row {b n : Nat} {f : Nat → Int} {w : World} (h : Row b n f w) : Ow (some ⟨b, 0, none⟩) b n f w := .inr ⟨rfl, h⟩

theorem St.only {w0 : World} {L : List BoxT} {x : OwnT} {O : List OwnT} {w : World} (h : St w0 L (x :: O) w) : St w0 L [x] w := by
  have sub : (blocks L [x]).Sublist (blocks L (x :: O)) := by
    unfold blocks
    exact List.Sublist.append (List.Sublist.refl _) (List.Sublist.cons_cons _ (List.nil_sublist _))
  refine ⟨h.below, h.im, h.fr, fun y hy => h.ow y ?_, fun b hb => h.lt b (sub.subset hb), h.nd.sublist sub⟩
  cases List.mem_singleton.1 hy
  exact List.mem_cons_self ..

theorem St.nth {w0 : World} {L : List BoxT} {O : List OwnT} {w : World} (h : St w0 L O w) (i : Nat) {b : Nat} {W H : Int} {s : Value} (hm : L[i]? = some (b, W, H, s)) :
    w.cell? ⟨b, 0, none⟩ = some (.int .i64 W) ∧ w.cell? ⟨b, 1, none⟩ = some (.int .i64 H) ∧ w.cell? ⟨b, 2, none⟩ = some s := h.im _ (List.mem_of_getElem? hm)

theorem St.nthO {w0 : World} {L : List BoxT} {O : List OwnT} {w : World} (h : St w0 L O w) (i : Nat) {a : Option Addr} {b n : Nat} {f : Nat → Int} (hm : O[i]? = some (a, b, n, f)) :
    Ow a b n f w ∧ b < w.heap.size := ⟨h.ow _ (List.mem_of_getElem? hm), (h.lt b (mem_blocks_own (List.mem_of_getElem? hm))).2⟩

theorem St.sixN {w0 : World} {L : List BoxT} {O : List OwnT} {w : World} (h : St w0 L O w) (i : Nat) {b : Nat} {W H : Int} {s : Value} (hm : L[i]? = some (b, W, H, s)) (j : Nat) {b' : Nat} {W' H' : Int} {s' : Value} (hm' : L[j]? = some (b', W', H', s')) :
    w.cell? ⟨b, 0, none⟩ = some (.int .i64 W) ∧ w.cell? ⟨b, 1, none⟩ = some (.int .i64 H) ∧ w.cell? ⟨b, 2, none⟩ = some s ∧ w.cell? ⟨b', 0, none⟩ = some (.int .i64 W') ∧ w.cell? ⟨b', 1, none⟩ = some (.int .i64 H') ∧ w.cell? ⟨b', 2, none⟩ = some s' :=
  h.six (List.mem_of_getElem? hm) (List.mem_of_getElem? hm')

theorem St.drop2 {w0 : World} {L : List BoxT} {x y z : OwnT} {O : List OwnT} {w : World} (h : St w0 L (x :: y :: z :: O) w) : St w0 L (x :: O) w := by
  have so : (x :: O).Sublist (x :: y :: z :: O) := List.Sublist.cons_cons _ (List.Sublist.cons _ (List.Sublist.cons _ (List.Sublist.refl _)))
  have sub : (blocks L (x :: O)).Sublist (blocks L (x :: y :: z :: O)) := by
    unfold blocks
    exact List.Sublist.append (List.Sublist.refl _) (so.map _)
  exact ⟨h.below, h.im, h.fr, fun y hy => h.ow y (so.subset hy), fun b hb => h.lt b (sub.subset hb), h.nd.sublist sub⟩

theorem hide {p : Prop} (h : p) : Hid p := h

end Go.Proofs.Ytadeajdjjcelhaa

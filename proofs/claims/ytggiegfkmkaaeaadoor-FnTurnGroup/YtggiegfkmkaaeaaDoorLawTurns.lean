/- The law on Turns, walked. -/
import Derived.Test.YtggiegfkmkaaeaaDoorTni
import Derived.Test.YtggiegfkmkaaeaaDoorTum
import Derived.Test.YtggiegfkmkaaeaaDoorHom
namespace Go.Proofs.YtggiegfkmkaaeaaDoor
open Go.RowKit

theorem own_row {w : World} {B n m : Nat} {e : TypeId} {v : Value} {L : List Int} (h : w.ownsRow B e m v n (ints L)) (hn : n ≠ 0) :
    ∃ b cp, v = .slice (some ⟨b, 0, none⟩) n cp ∧ B ≤ b ∧ Row b (n * m) (fun k => L.getD k 0) w := by
  have hl : L.length = n * m := by have := h.1; rw [ints_length] at this; exact this
  have h0 := h
  obtain ⟨hlen, hv | ⟨b, cp, cur, hv, hg, hcur, _, hm2, _, _⟩⟩ := h
  · exact absurd hv.2 hn
  · subst hv
    refine ⟨b, cp, rfl, hg, fun k hk => ⟨?_, h0.frozenAt k⟩⟩
    rw [h0.cellAt k hk, ints_at _ _ (by omega)]

theorem TwR.row {w w' : World} {e : Ending} (h : TwR w e w') : ∃ b cp, e = .returned (.slice (some ⟨b, 0, none⟩) 12 cp) ∧ w.heap.size ≤ b ∧ Row b (12 * 4) (fun k => tbA.getD k 0) w' ∧ Below w.heap.size w w' := by
  obtain ⟨v, rfl, ho, hb⟩ := h
  obtain ⟨b, cp, rfl, hB, hr⟩ := own_row ho (by omega)
  exact ⟨b, cp, rfl, hB, hr, hb⟩

set_option maxRecDepth 100000 in
set_option maxHeartbeats 4000000 in
theorem fnExactTurns_walk (w : World) (h : Tbl w) : Calls Tryd.prog 3 #[] w fun e w' => e = .returned (.bool true) ∧ Below w.heap.size w w' := by
  have HT := hide h
  have HS0 := hide (St.start w)
  have cS := fun w' => (specTurns_any w').mono (fun e u hu => hu.row)
  have cI := fun w' (hb : Below w.heap.size w w') => (implTurns_any w' (HT.out.below hb (Nat.le_refl _))).mono (fun e u hu => hu.row)
  have cE := fun b b' c c' w' h h' => eqTurnS_any (some ⟨b, 0, none⟩) (some ⟨b', 0, none⟩) 12 c c' (fun k => tbA.getD k 0) (by omega) w' h h'
  have cM := fun b c w' h => markTurnS_any (some ⟨b, 0, none⟩) b 12 c (fun k => tbA.getD k 0) (by omega) w' h
  have cH := fun b c w' h => heldTurnS_any (some ⟨b, 0, none⟩) b 12 c (by omega) w' h
  generalize (fun k => tbA.getD k 0) = f at *
  clear h HT
  go_enter Tryd.func3, Tryd.ntmps3
  go_wp2_with fail
  refine (cS _).mono ?_
  rintro e w1 ⟨p, pc, rfl, hp, hr, hb⟩
  have HS1 := hide (HS0.out.own hb hr.v (.inr hp))
  clear hb hr hp HS0 cS
  go_wp2_with fail
  refine (cI _ HS1.out.below).mono ?_
  rintro e w2 ⟨g, gc, rfl, hg, hr, hb⟩
  have HS2 := hide (HS1.out.own hb hr.v (.inr hg))
  clear hb hr hg HS1
  go_wp2_with fail
  refine (cE _ _ _ _ _ (HS2.out.nthO 0 rfl).px (HS2.out.nthO 1 rfl).px).mono ?_
  rintro e w3 ⟨rfl, hb⟩
  have HS3 := hide (HS2.out.next hb)
  clear hb HS2
  go_wp2_with fail
  refine (cM _ _ _ (HS3.out.nthO 0 rfl).i).mono ?_
  rintro e w4 ⟨rfl, ho, hk⟩
  have HS4 := hide (HS3.out.mark0 (by omega) hk ho.v)
  clear ho hk HS3 cM
  go_wp2_with fail
  refine (cH _ _ _ (HS4.out.nthO 0 rfl).i).mono ?_
  rintro e w5 ⟨rfl, rfl⟩
  go_wp2_with fail
  refine (cI _ HS4.out.below).mono ?_
  rintro e w6 ⟨v, vc, rfl, hg, hr, hb⟩
  have HS6 := hide (HS4.out.own hb hr.v (.inr hg))
  clear hb hr hg HS4
  go_wp2_with fail
  refine (cE _ _ _ _ _ (HS6.out.nthO 0 rfl).px (HS6.out.nthO 2 rfl).px).mono ?_
  rintro e w7 ⟨rfl, hb⟩
  have HS7 := hide (HS6.out.next hb)
  clear hb HS6
  go_wp2_with fail
  refine (cH _ _ _ (HS7.out.nthO 1 rfl).i).mono ?_
  rintro e w8 ⟨rfl, rfl⟩
  have HB := hide HS7.out.below
  go_wp2_with fail
  go_ret
  exact ⟨rfl, HB.out⟩

end Go.Proofs.YtggiegfkmkaaeaaDoor

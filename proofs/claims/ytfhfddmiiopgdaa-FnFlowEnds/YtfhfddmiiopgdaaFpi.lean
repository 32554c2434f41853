/- The program's FlowPlay. -/
import Derived.Test.YtfhfddmiiopgdaaFpn
import Derived.Test.YtfhfddmiiopgdaaFld
import Derived.Test.YtfhfddmiiopgdaaGrk
namespace Go.Proofs.Ytfhfddmiiopgdaa
open Go.RowKit

/-- a flow in the box P, and codes beside it -/
structure PS (P : Nat) (c : Int) (n : Nat) (L : List Int) (v cv : Value) (k : Nat) (C : List Int) (w : World) : Prop where
  fl : FS P P c v n L w
  cs : w.ownsRow P 2 1 cv k (ints C)
  ap : ∀ b, cv.ownBlock = some b → b ≠ P ∧ v.ownBlock ≠ some b
theorem PS.below {P : Nat} {c : Int} {n : Nat} {L : List Int} {v cv : Value} {k : Nat} {C : List Int} {w w' : World} (h : PS P c n L v cv k C w) (hb : Below w.heap.size w w') : PS P c n L v cv k C w' :=
  ⟨h.fl.below hb, ownsRow_below' h.cs hb, h.ap⟩
/-- the codes' block aside -/
def ghC (cv : Value) (w : World) : Nat → Option Obj := fun k => if cv.ownBlock = some k then w.heap[k]? else none
theorem PS.aside {P : Nat} {c : Int} {n : Nat} {L : List Int} {v cv : Value} {k : Nat} {C : List Int} {w : World} (h : PS P c n L v cv k C w) : FSG (ghC cv w) P P c v n L w :=
  ⟨h.fl.box, h.fl.own, h.fl.hB, h.fl.far, fun q o hq => by
    unfold ghC at hq
    split at hq
    · rename_i e; exact ⟨hq, h.ap q e⟩
    · cases hq⟩
theorem PS.did {P : Nat} {c c' : Int} {n n' : Nat} {L L' : List Int} {v v' cv : Value} {k : Nat} {C : List Int} {w w' : World} (h : PS P c n L v cv k C w) (hF : FSG (ghC cv w) P P c' v' n' L' w') : PS P c' n' L' v' cv k C w' := by
  have hs : ∀ b, cv.ownBlock = some b → w'.heap[b]? = w.heap[b]? ∧ b ≠ P ∧ v'.ownBlock ≠ some b := fun b hb => by
    have hlt := (h.cs.lt b hb).2
    obtain ⟨o, ho⟩ : ∃ o, w.heap[b]? = some o := ⟨_, Array.getElem?_eq_getElem hlt⟩
    have hg : ghC cv w b = some o := by unfold ghC; rw [if_pos hb]; exact ho
    obtain ⟨s1, s2, s3⟩ := hF.side b o hg
    exact ⟨s1.trans ho.symm, s2, s3⟩
  exact ⟨⟨hF.box, hF.own, hF.hB, hF.far, fun _ _ h => by cases h⟩, owns_keep h.cs fun b hb => (hs b hb).1, fun b hb => (hs b hb).2⟩
theorem PS.grown {P : Nat} {c : Int} {n : Nat} {L : List Int} {v cv cv' : Value} {k k' : Nat} {C C' : List Int} {w w' : World} (h : PS P c n L v cv k C w) (hk : KpV cv w w') (hm : Moved cv cv' w) (ho : w'.ownsRow P 2 1 cv' k' (ints C')) : PS P c n L v cv' k' C' w' := by
  have hP := h.fl.lt
  have hcP : cv.ownBlock ≠ some P := fun e => (h.ap P e).1 rfl
  refine ⟨⟨fun j u hj => ?_, owns_keep h.fl.own fun b hb => ?_, h.fl.hB, h.fl.far, fun _ _ h => by cases h⟩, ho, fun b hb => ?_⟩
  · obtain ⟨h1, h2⟩ := h.fl.box j u hj
    exact ⟨(World.cell?_of_block (a := ⟨P, j, none⟩) (hk P hP hcP)).trans h1, (World.frozen?_of_block (a := ⟨P, j, none⟩) (hk P hP hcP)).trans h2⟩
  · exact hk b (h.fl.own.lt b hb).2 (fun e => (h.ap b e).2 hb)
  · rcases hm b hb with h1 | h1
    · exact h.ap b h1
    · exact ⟨by omega, fun e => by have := (h.fl.own.lt b e).2; omega⟩
theorem PS.other {P : Nat} {c : Int} {n : Nat} {L : List Int} {v cv : Value} {k : Nat} {C : List Int} {w : World} (h : PS P c n L v cv k C w) {q : Addr} (hq : q.block < P) (u : Value) : PS P c n L v cv k C (w.setCell q u) :=
  ⟨FSG.other h.fl (Nat.ne_of_gt hq) (fun b hb => by have := (h.fl.own.lt b hb).1; omega) (fun _ _ h => by cases h) u, owns_set h.cs (fun b hb => by have := (h.cs.lt b hb).1; omega) u, h.ap⟩

/-- a flow and a list of numbers are answered -/
def FlP (c : Int) (n : Nat) (f : Nat → Int) (m : Nat) (s : Nat → Int) (w : World) (e : Ending) (w' : World) : Prop :=
  ∃ a cp b a2 cp2 b2, e = .returned (.tuple #[vFlow c a n cp, .slice a2 m cp2]) ∧ Ow a b (n * 4) f w' ∧ (n * 4 = 0 ∨ w.heap.size ≤ b) ∧ Ow a2 b2 m s w' ∧ (m = 0 ∨ w.heap.size ≤ b2) ∧ (n * 4 = 0 ∨ m = 0 ∨ b ≠ b2) ∧ Below w.heap.size w w' ∧ (a = none → n = 0 ∧ cp = 0)
theorem PS.ans {P : Nat} {c : Int} {n : Nat} {L : List Int} {v cv : Value} {k : Nat} {C : List Int} {w w' : World} (h : PS P c n L v cv k C w') (hP : w.heap.size ≤ P) (hb : Below w.heap.size w w') (hC : C.length = k) :
    FlP c n (gL L) k (gL C) w (.returned (.tuple #[.agg #[.int .i64 c, v], cv])) w' := by
  obtain ⟨a, cp, b, ha, how, hbb, hnn⟩ := ow_O h.fl.own
  have hcs := h.cs
  rw [← fl_gL C k hC] at hcs
  obtain ⟨a2, cp2, b2, ha2, how2, hbb2⟩ := ow_fl hcs
  subst ha ha2
  refine ⟨a, cp, b, a2, cp2, b2, rfl, how, hbb.imp id (Nat.le_trans hP), how2, hbb2.imp id (Nat.le_trans hP), ?_, hb, hnn⟩
  rcases how with h0 | ⟨rfl, -⟩
  · exact .inl h0
  · rcases how2 with h0 | ⟨rfl, -⟩
    · exact .inr (.inl h0)
    · refine .inr (.inr fun e => ?_)
      subst e
      exact (h.ap b rfl).2 rfl

set_option maxRecDepth 100000 in
set_option maxHeartbeats 4000000 in
theorem implFlowPlay_any (a : Option Addr) (m cap : Nat) (g : Nat → Int) (hl : m ≤ 1048576) (w : World) (h : Px a (m * 3) g w) :
    Calls Try.prog 7 #[.slice a m cap] w (FlP (fpK g m) (fpN g m) (fpL g m) (fpM m) (fpC g m) w) := by
  have HS0 := hide ((St.start w).box [.int .i64 0, .slice none 0 0] 28)
  have HP := hide (h.below HS0.out.below)
  clear h
  by_cases hm : 2000 < m
  · have HV : Hid (∀ w', Below w.heap.size w w' → FlP (fpK g m) (fpN g m) (fpL g m) (fpM m) (fpC g m) w (.returned (.tuple #[vFlow 0 none 0 0, .slice none 0 0])) w') := fun w' hb => by
      unfold fpK fpN fpL fpM fpC
      rw [if_pos hm, if_pos hm, if_pos hm, if_pos hm, if_pos hm]
      exact ⟨none, 0, 0, none, 0, 0, rfl, .inl rfl, .inl rfl, .inl rfl, .inl rfl, .inl rfl, hb, fun _ => ⟨rfl, rfl⟩⟩
    have hm' : (2000 : Int) < m := by omega
    have HV2 := hide (HV.out _ HS0.out.below)
    clear HV HS0 HP hm
    go_enter Try.func7, Try.ntmps7
    go_wp2_with fail
    exact bodyPost_ret (v := .tuple #[vFlow 0 none 0 0, .slice none 0 0]) (by simp [results, Try.results7, go_sem]) rfl HV2.out
  have hm' : ¬ (2000 : Int) < m := by omega
  have HKN : Hid (fpK g m = (plT g m).1 ∧ fpN g m = (plT g m).2.1 ∧ fpL g m = gL (plT g m).2.2 ∧ fpM m = m ∧ fpC g m = gL (plC g m)) := by
    unfold fpK fpN fpL fpM fpC
    rw [if_neg hm, if_neg hm, if_neg hm, if_neg hm, if_neg hm]
    exact ⟨rfl, rfl, rfl, rfl, rfl⟩
  rw [HKN.out.1, HKN.out.2.1, HKN.out.2.2.1, HKN.out.2.2.2.1, HKN.out.2.2.2.2]
  clear HKN
  obtain ⟨w1, hw1⟩ : ∃ w1, w1 = w.alloc (.cells #[.int .i64 0, .slice none 0 0] 28) := ⟨_, rfl⟩
  have hRP : w.heap.size < w1.heap.size := by rw [hw1]; simp
  replace HS0 : Hid (St w [(w.heap.size, [.int .i64 0, .slice none 0 0])] [] w1) := by rw [hw1]; exact HS0.out
  replace HP : Hid (Px a (m * 3) g w1) := by rw [hw1]; exact HP.out
  have hw1' := hw1.symm
  clear hw1
  obtain ⟨cur, hcur, hmk⟩ := make_cap m hl (w1.alloc (.cells #[.int .i64 0, .slice none 0 0] 28))
  have HPS : Hid (PS w1.heap.size 0 0 [] (.slice none 0 0) (.slice (some ⟨w1.heap.size + 1, 0, none⟩) 0 m) 0 [] ((w1.alloc (.cells #[.int .i64 0, .slice none 0 0] 28)).alloc (.cells cur 2)) ∧ Below w1.heap.size w1 ((w1.alloc (.cells #[.int .i64 0, .slice none 0 0] 28)).alloc (.cells cur 2))) := by
    have hq : (w1.alloc (.cells #[.int .i64 0, .slice none 0 0] 28)).heap.size = w1.heap.size + 1 := by simp
    have hb1 := bnew w1 (.cells #[.int .i64 0, .slice none 0 0] 28)
    have hmd := World.ownsRow_made (e := 2) (size := 1) (base := w1.heap.size) (w1.alloc (.cells #[.int .i64 0, .slice none 0 0] 28)) cur m hb1.size (by unfold maxLen; omega) hcur
    rw [hq] at hmd
    refine ⟨⟨⟨(Bx.new [.int .i64 0, .slice none 0 0] 28 w1).below (bnew _ _) (by rw [hq]; omega), ⟨rfl, .inl ⟨rfl, rfl⟩⟩, Nat.le_refl _, (fun b hb => by cases hb), fun _ _ h => by cases h⟩, hmd, fun b hb => ?_⟩, hb1.alloc hb1.size _⟩
    cases hb
    exact ⟨Nat.ne_of_gt (Nat.lt_succ_self _), fun e => by cases e⟩
  clear hcur
  have hq2 : (w1.alloc (.cells #[.int .i64 0, .slice none 0 0] 28)).heap.size = w1.heap.size + 1 := by simp
  rw [hq2] at hmk
  clear hq2
  go_enter Try.func7, Try.ntmps7
  go_wp2_with fail
  generalize (w1.alloc (.cells #[.int .i64 0, .slice none 0 0] 28)).alloc (.cells cur 2) = w3 at *
  generalize Value.slice (some ⟨w1.heap.size + 1, 0, none⟩) 0 m = cv0 at *
  clear hw1' hmk hm'
  generalize hPP : w1.heap.size = P at *
  go_loopw [5, 17] (fun co i wr => ∃ (k : Nat) (v vv : Value), k ≤ m ∧ vv = co ∧ i = .int .i64 k ∧ PS P (plT g k).1 (plT g k).2.1 (plT g k).2.2 v vv k (plC g k) wr ∧ Below P w1 wr) (fun _ i _ => m - (intOf i).toNat)
  case atStart => exact ⟨0, _, _, by omega, rfl, rfl, HPS.out.1, HPS.out.2⟩
  case round =>
    obtain ⟨k, v, vv, hk, rfl, rfl, hS, hB⟩ := hrel
    have HS := hide hS
    have HB := hide hB
    clear hS hB HPS
    by_cases hlt : k < m
    · obtain ⟨b, off, rfl, -, z0, z1, z2⟩ := (HP.out.below (hPP ▸ HB.out)).atAct hlt
      have HX : Hid (plT g (k + 1) = (doK (plT g k).1 (g (k * 3)), doN (plT g k).1 (plT g k).2.1 (plT g k).2.2 (g (k * 3)) (g (k * 3 + 1)) (g (k * 3 + 2)), doL (plT g k).1 (plT g k).2.1 (plT g k).2.2 (g (k * 3)) (g (k * 3 + 1)) (g (k * 3 + 2))) ∧ plC g (k + 1) = plC g k ++ [doC (plT g k).1 (plT g k).2.1 (plT g k).2.2 (g (k * 3)) (g (k * 3 + 1)) (g (k * 3 + 2))]) := ⟨rfl, rfl⟩
      have HOK := hide (plT_ok g k)
      generalize g (k * 3) = y0 at *
      generalize g (k * 3 + 1) = y1 at *
      generalize g (k * 3 + 2) = y2 at *
      generalize (plT g k).1 = c at *
      generalize (plT g k).2.1 = n at *
      generalize (plT g k).2.2 = L at *
      generalize plC g k = C at *
      obtain ⟨wb, hwb⟩ : ∃ wb, wb = wr.alloc (cAct y0 y1 y2 30) := ⟨_, rfl⟩
      have hbb : Below wr.heap.size wr wb := by rw [hwb]; exact bnew _ _
      obtain ⟨q0, q1, q2⟩ : BAct wr.heap.size y0 y1 y2 wb := by rw [hwb]; exact BAct.new _ _ _ _ _
      have hwb' := hwb.symm
      have HSb := hide (HS.out.below hbb)
      have HBb : Hid (Below P w1 wb) := HB.out.trans (hbb.mono (Nat.le_of_lt HS.out.fl.lt))
      have cD := implDo_any P P c v n L y0 y1 y2 HOK.out.hn HOK.out.hc HOK.out.hr wb HSb.out.aside
      clear hwb hbb HS HB HOK
      generalize doC c n L y0 y1 y2 = DC at *
      go_wp2_with fail
      refine cD.mono ?_
      rintro e w4 ⟨rfl, ⟨v', hF⟩, hb4⟩
      have HS4 := hide (HSb.out.did hF)
      have HB4 := hide (HBb.out.trans hb4)
      clear cD hF hb4 HSb HBb z0 z1 z2 q0 q1 q2 hwb'
      have HPl : Hid (P ≤ w4.heap.size) := Nat.le_of_lt HS4.out.fl.lt
      go_wp2_with (refine growN _ rfl _ _ rfl P vv k C rfl w1 HS4.out.cs HB4.out HPl.out DC rfl (by omega) ?_)
      intro cv5 w5 ho hb5 _ hkp hmv
      have HS5 := hide (HS4.out.grown hkp hmv ho)
      have HB5 := hide hb5
      clear ho hb5 hkp hmv HS4 HB4 HPl
      go_wp2_with fail
      exact ⟨⟨k + 1, v', _, by omega, rfl, rfl, by rw [HX.out.1, HX.out.2]; exact HS5.out, HB5.out⟩, by simp [intOf]; omega⟩
    · obtain rfl : k = m := by omega
      have HLN := hide (plC_len g k)
      have HSR := hide (HS0.out.next (hPP ▸ HB.out))
      obtain ⟨k0, k1⟩ := HSR.out.im2 0 rfl
      obtain ⟨e0, e1⟩ := HSR.out.fr2 0 rfl
      have t0 := (HS.out.fl.box 0 _ rfl).1
      have t1 := (HS.out.fl.box 1 _ rfl).1
      obtain ⟨ad, cp, rfl, -, -⟩ := own_pxO HS.out.fl.own
      generalize (plT g k).1 = c at *
      generalize (plT g k).2.1 = n at *
      generalize (plT g k).2.2 = L at *
      have HE := hide (St.fill (L1 := []) (St.fill (L1 := []) HSR.out 0 (.int .i64 c)) 1 (.slice ad n cp))
      have HSE := hide ((HS.out.other (q := ⟨w.heap.size, 0, none⟩) hRP (.int .i64 c)).other (q := ⟨w.heap.size, 1, none⟩) hRP (.slice ad n cp))
      have HV := hide (HSE.out.ans (w := w) (Nat.le_of_lt hRP) HE.out.below HLN.out)
      have d0 := (HE.out.im2 0 rfl).1
      have d1 := (HE.out.im2 0 rfl).2
      clear HS HB HSR HE HSE HLN HS0 HP hlt
      go_wp2_with fail
      exact bodyPost_ret (v := .tuple #[vFlow c ad n cp, vv]) (by simp [results, Try.results7, go_sem, d0, d1]) rfl HV.out

end Go.Proofs.Ytfhfddmiiopgdaa

/- The specification's FlowPlay. -/
import Derived.Test.YtfhfddmiiopgdaaFpi
import Derived.Test.YtfhfddmiiopgdaaFlh
import Derived.Deep.RegionHeld3
import Derived.Deep.DeepCutAuto
namespace Go.Proofs.Ytfhfddmiiopgdaa
open Go.RowKit

/-- a flow in the box P, its orders somewhere, and codes beside them -/
structure QS (P : Nat) (c : Int) (n : Nat) (L : List Int) (a : Option Addr) (cp b : Nat) (cv : Value) (k : Nat) (C : List Int) (w : World) : Prop where
  box : Bx P [.int .i64 c, .slice a n cp] w
  ow : Ow a b (n * 4) (gL L) w
  hb : n * 4 = 0 ∨ P < b
  nil : a = none → n = 0 ∧ cp = 0
  cs : w.ownsRow P 2 1 cv k (ints C)
  ap : ∀ q, cv.ownBlock = some q → q ≠ P ∧ (n * 4 = 0 ∨ q ≠ b)
theorem QS.lt {P : Nat} {c : Int} {n : Nat} {L : List Int} {a : Option Addr} {cp b : Nat} {cv : Value} {k : Nat} {C : List Int} {w : World} (h : QS P c n L a cp b cv k C w) : P < w.heap.size := World.block_lt_of_cell? _ _ (h.box 0 _ rfl).1
/-- what an act makes, in a box X of its own -/
def Mad (wr : World) (c : Int) (n : Nat) (s : Nat → Int) (X : Nat) (a : Option Addr) (cp b : Nat) (wc : World) : Prop :=
  Bx X [.int .i64 c, .slice a n cp] wc ∧ Ow a b (n * 4) s wc ∧ (n * 4 = 0 ∨ (wr.heap.size ≤ b ∧ b ≠ X)) ∧ (a = none → n = 0 ∧ cp = 0) ∧ wr.heap.size ≤ X ∧ Below wr.heap.size wr wc
theorem mad_after {wr w2 : World} {c : Int} {n : Nat} {s : Nat → Int} {a : Option Addr} {cp b : Nat} (how : Ow a b (n * 4) s w2) (hbb : n * 4 = 0 ∨ wr.heap.size ≤ b) (hb : Below wr.heap.size wr w2) (hnn : a = none → n = 0 ∧ cp = 0) :
    Mad wr c n s w2.heap.size a cp b (w2.alloc (.cells #[.int .i64 c, .slice a n cp] 28)) := by
  refine ⟨Bx.new [.int .i64 c, .slice a n cp] 28 w2, how.below' (bnew _ _), ?_, hnn, hb.size, hb.alloc hb.size _⟩
  rcases hbb with h | h
  · exact .inl h
  · by_cases h0 : n * 4 = 0
    · exact .inl h0
    · exact .inr ⟨h, Nat.ne_of_lt (OwV.lt how.v h0)⟩
theorem ow_other {a : Option Addr} {b m : Nat} {s : Nat → Int} {w : World} (h : Ow a b m s w) (q : Addr) (hq : m ≠ 0 → b ≠ q.block) (u : Value) : Ow a b m s (w.setCell q u) := by
  by_cases h0 : m = 0
  · exact .inl h0
  · exact (h.v.kept ((Kept.refl q.block w).setCell rfl u) (hq h0)).i
theorem mad_ahead {wr w2 : World} {c : Int} {n : Nat} {s : Nat → Int} {a : Option Addr} {cp b : Nat} (how : Ow a b (n * 4) s w2) (hbb : n * 4 = 0 ∨ wr.heap.size + 1 ≤ b) (hb : Below (wr.heap.size + 1) (wr.alloc (.cells #[.int .i64 0, .slice none 0 0] 28)).drew w2) (hnn : a = none → n = 0 ∧ cp = 0) :
    (w2.cell? ⟨wr.heap.size, 0, none⟩ = some (.int .i64 0) ∧ w2.cell? ⟨wr.heap.size, 1, none⟩ = some (.slice none 0 0) ∧ w2.frozen? ⟨wr.heap.size, 0, none⟩ = false ∧ w2.frozen? ⟨wr.heap.size, 1, none⟩ = false) ∧
    Mad wr c n s wr.heap.size a cp b ((w2.setCell ⟨wr.heap.size, 0, none⟩ (.int .i64 c)).setCell ⟨wr.heap.size, 1, none⟩ (.slice a n cp)) := by
  have hb0 : Below wr.heap.size wr (wr.alloc (.cells #[.int .i64 0, .slice none 0 0] 28)).drew := (bnew _ _).drew
  have hbx0 : Bx wr.heap.size [.int .i64 0, .slice none 0 0] (wr.alloc (.cells #[.int .i64 0, .slice none 0 0] 28)).drew := Bx.new [.int .i64 0, .slice none 0 0] 28 wr
  have hbx := hbx0.below hb (Nat.lt_succ_self _)
  have hb1 : Below wr.heap.size wr w2 := hb0.trans (hb.mono (by omega))
  refine ⟨⟨(hbx 0 _ rfl).1, (hbx 1 _ rfl).1, (hbx 0 _ rfl).2, (hbx 1 _ rfl).2⟩, (hbx.set 0 (.int .i64 c)).set 1 (.slice a n cp), ?_, ?_, hnn, Nat.le_refl _, (hb1.setCell (Nat.le_refl _) _).setCell (Nat.le_refl _) _⟩
  · have hne : n * 4 ≠ 0 → b ≠ wr.heap.size := fun h0 => by have := hbb.resolve_left h0; omega
    exact ow_other (ow_other how ⟨wr.heap.size, 0, none⟩ hne _) ⟨wr.heap.size, 1, none⟩ hne _
  · exact hbb.imp id fun h => ⟨by omega, by omega⟩
theorem QS.made {P : Nat} {c c' : Int} {n n' : Nat} {L L' : List Int} {a a' : Option Addr} {cp cp' b b' X : Nat} {cv : Value} {k : Nat} {C : List Int} {w wc : World} (h : QS P c n L a cp b cv k C w) (hm : Mad w c' n' (gL L') X a' cp' b' wc) :
    QS P c' n' L' a' cp' b' cv k C ((wc.setCell ⟨P, 0, none⟩ (.int .i64 c')).setCell ⟨P, 1, none⟩ (.slice a' n' cp')) ∧ wc.cell? ⟨P, 0, none⟩ = some (.int .i64 c) ∧ wc.cell? ⟨P, 1, none⟩ = some (.slice a n cp) ∧ wc.frozen? ⟨P, 0, none⟩ = false ∧ wc.frozen? ⟨P, 1, none⟩ = false := by
  obtain ⟨m1, m2, m3, m4, m5, m6⟩ := hm
  have hP := h.lt
  have hbx := h.box.below m6 hP
  have hcs := ownsRow_below' h.cs m6
  have hne : n' * 4 ≠ 0 → b' ≠ P := fun h0 => by have := (m3.resolve_left h0).1; omega
  have hc : ∀ q, cv.ownBlock = some q → q ≠ P := fun q hq => (h.ap q hq).1
  refine ⟨⟨(hbx.set 0 (.int .i64 c')).set 1 (.slice a' n' cp'), ow_other (ow_other m2 ⟨P, 0, none⟩ hne _) ⟨P, 1, none⟩ hne _, m3.imp id fun x => by omega, m4, owns_set (owns_set hcs (q := ⟨P, 0, none⟩) hc _) (q := ⟨P, 1, none⟩) hc _, fun q hq => ⟨hc q hq, ?_⟩⟩, (hbx 0 _ rfl).1, (hbx 1 _ rfl).1, (hbx 0 _ rfl).2, (hbx 1 _ rfl).2⟩
  have := (h.cs.lt q hq).2
  exact m3.imp id fun x => by omega
theorem QS.grown {P : Nat} {c : Int} {n : Nat} {L : List Int} {a : Option Addr} {cp b : Nat} {cv cv' : Value} {k k' : Nat} {C C' : List Int} {w w' : World} (h : QS P c n L a cp b cv k C w) (hk : KpV cv w w') (hm : Moved cv cv' w) (ho : w'.ownsRow P 2 1 cv' k' (ints C')) : QS P c n L a cp b cv' k' C' w' := by
  have hP := h.lt
  have hcP : cv.ownBlock ≠ some P := fun e => (h.ap P e).1 rfl
  refine ⟨fun j u hj => ?_, ?_, h.hb, h.nil, ho, fun q hq => ?_⟩
  · obtain ⟨h1, h2⟩ := h.box j u hj
    exact ⟨(World.cell?_of_block (a := ⟨P, j, none⟩) (hk P hP hcP)).trans h1, (World.frozen?_of_block (a := ⟨P, j, none⟩) (hk P hP hcP)).trans h2⟩
  · by_cases h0 : n * 4 = 0
    · exact .inl h0
    · rcases h.ow with h1 | ⟨rfl, h1⟩
      · exact .inl h1
      · have hb : b < w.heap.size := OwV.lt h.ow.v h0
        have hcb : cv.ownBlock ≠ some b := fun e => ((h.ap b e).2.resolve_left h0) rfl
        exact .inr ⟨rfl, fun j hj => ⟨(World.cell?_of_block (a := ⟨b, j, none⟩) (hk b hb hcb)).trans (h1 j hj).1, (World.frozen?_of_block (a := ⟨b, j, none⟩) (hk b hb hcb)).trans (h1 j hj).2⟩⟩
  · rcases hm q hq with h1 | h1
    · exact h.ap q h1
    · refine ⟨by omega, ?_⟩
      by_cases h0 : n * 4 = 0
      · exact .inl h0
      · have hb : b < w.heap.size := OwV.lt h.ow.v h0
        exact .inr (by omega)
theorem QS.ans {P : Nat} {c : Int} {n : Nat} {L : List Int} {a : Option Addr} {cp b : Nat} {cv : Value} {k : Nat} {C : List Int} {w wr : World} (h : QS P c n L a cp b cv k C wr) (hP : w.heap.size < P) (hC : C.length = k) (hB : Below w.heap.size w ((wr.setCell ⟨w.heap.size, 0, none⟩ (.int .i64 c)).setCell ⟨w.heap.size, 1, none⟩ (.slice a n cp))) :
    FlP c n (gL L) k (gL C) w (.returned (.tuple #[.agg #[.int .i64 c, .slice a n cp], cv])) ((wr.setCell ⟨w.heap.size, 0, none⟩ (.int .i64 c)).setCell ⟨w.heap.size, 1, none⟩ (.slice a n cp)) := by
  have hc : ∀ q, cv.ownBlock = some q → q ≠ w.heap.size := fun q hq => by have := (h.cs.lt q hq).1; omega
  have hcs := owns_set (owns_set h.cs (q := ⟨w.heap.size, 0, none⟩) hc (.int .i64 c)) (q := ⟨w.heap.size, 1, none⟩) hc (.slice a n cp)
  rw [← fl_gL C k hC] at hcs
  have hap := h.ap
  obtain ⟨a2, cp2, b2, ha2, how2, hbb2⟩ := ow_fl hcs
  subst ha2
  have hne : n * 4 ≠ 0 → b ≠ w.heap.size := fun h0 => by have := h.hb.resolve_left h0; omega
  refine ⟨a, cp, b, a2, cp2, b2, rfl, ow_other (ow_other h.ow ⟨w.heap.size, 0, none⟩ hne _) ⟨w.heap.size, 1, none⟩ hne _, h.hb.imp id fun x => by omega, how2, hbb2.imp id fun x => by omega, ?_, hB, h.nil⟩
  rcases how2 with h0 | ⟨rfl, -⟩
  · exact .inr (.inl h0)
  · exact ((hap b2 rfl).2).imp id fun x => .inr fun e => x e.symm

set_option maxRecDepth 100000 in
set_option maxHeartbeats 4000000 in
theorem specFlowPlay_any (a : Option Addr) (m cap : Nat) (g : Nat → Int) (hl : m ≤ 1048576) (w : World) (h : Px a (m * 3) g w) :
    Calls Try.prog 8 #[.slice a m cap] w (FlP (fpK g m) (fpN g m) (fpL g m) (fpM m) (fpC g m) w) := by
  obtain ⟨w1, hw1⟩ : ∃ w1, w1 = w.alloc (.cells #[.int .i64 0, .slice none 0 0] 28) := ⟨_, rfl⟩
  have hRP : w.heap.size < w1.heap.size := by rw [hw1]; simp
  have HS0 : Hid (St w [(w.heap.size, [.int .i64 0, .slice none 0 0])] [] w1) := by rw [hw1]; exact (St.start w).box [.int .i64 0, .slice none 0 0] 28
  have HP := hide (h.below HS0.out.below)
  have hw1' := hw1.symm
  clear h hw1
  have HQ : Hid (QS w1.heap.size 0 0 [] none 0 0 (.slice (some ⟨w1.heap.size + 1, 0, none⟩) 0 0) 0 [] ((w1.alloc (.cells #[.int .i64 0, .slice none 0 0] 28)).alloc (.cells #[] 2)) ∧ Below w1.heap.size w1 ((w1.alloc (.cells #[.int .i64 0, .slice none 0 0] 28)).alloc (.cells #[] 2))) := by
    have hq : (w1.alloc (.cells #[.int .i64 0, .slice none 0 0] 28)).heap.size = w1.heap.size + 1 := by simp
    have hb1 := bnew w1 (.cells #[.int .i64 0, .slice none 0 0] 28)
    have hmd := World.ownsRow_made (e := 2) (size := 1) (base := w1.heap.size) (w1.alloc (.cells #[.int .i64 0, .slice none 0 0] 28)) #[] 0 hb1.size (Nat.zero_le _) rfl
    rw [hq] at hmd
    refine ⟨⟨(Bx.new [.int .i64 0, .slice none 0 0] 28 w1).below (bnew _ _) (by rw [hq]; omega), .inl rfl, .inl rfl, fun _ => ⟨rfl, rfl⟩, hmd, fun b hb => ?_⟩, hb1.alloc hb1.size _⟩
    cases hb
    exact ⟨Nat.ne_of_gt (Nat.lt_succ_self _), .inl rfl⟩
  by_cases hm : 2000 < m
  · have HKN : Hid (fpK g m = 0 ∧ fpN g m = 0 ∧ fpL g m = gL [] ∧ fpM m = 0 ∧ fpC g m = gL []) := by
      unfold fpK fpN fpL fpM fpC
      rw [if_pos hm, if_pos hm, if_pos hm, if_pos hm, if_pos hm]
      exact ⟨rfl, rfl, rfl, rfl, rfl⟩
    rw [HKN.out.1, HKN.out.2.1, HKN.out.2.2.1, HKN.out.2.2.2.1, HKN.out.2.2.2.2]
    have hm' : (2000 : Int) < m := by omega
    clear HKN hm HP
    have HSR := hide (HS0.out.next HQ.out.2)
    have t0 := (HQ.out.1.box 0 _ rfl).1
    have t1 := (HQ.out.1.box 1 _ rfl).1
    obtain ⟨k0, k1⟩ := HSR.out.im2 0 rfl
    obtain ⟨e0, e1⟩ := HSR.out.fr2 0 rfl
    have HE := hide (HSR.out.fill2 (.int .i64 0) (.slice none 0 0))
    have HV := hide (HQ.out.1.ans (w := w) hRP rfl HE.out.below)
    have d0 := (HE.out.im2 0 rfl).1
    have d1 := (HE.out.im2 0 rfl).2
    clear HSR HE HS0 HQ
    go_enter Try.func8, Try.ntmps8
    go_upto_region 4 with fail
    generalize (w1.alloc (.cells #[.int .i64 0, .slice none 0 0] 28)).alloc (.cells #[] 2) = w3 at *
    go_wp2_with fail
    exact bodyPost_ret (v := .tuple #[vFlow 0 none 0 0, .slice (some ⟨w1.heap.size + 1, 0, none⟩) 0 0]) (by simp [results, Try.results8, go_sem, d0, d1]) rfl HV.out
  have hm' : ¬ (2000 : Int) < m := by omega
  have HKN : Hid (fpK g m = (plT g m).1 ∧ fpN g m = (plT g m).2.1 ∧ fpL g m = gL (plT g m).2.2 ∧ fpM m = m ∧ fpC g m = gL (plC g m)) := by
    unfold fpK fpN fpL fpM fpC
    rw [if_neg hm, if_neg hm, if_neg hm, if_neg hm, if_neg hm]
    exact ⟨rfl, rfl, rfl, rfl, rfl⟩
  rw [HKN.out.1, HKN.out.2.1, HKN.out.2.2.1, HKN.out.2.2.2.1, HKN.out.2.2.2.2]
  clear HKN
  go_enter Try.func8, Try.ntmps8
  go_wp2_with fail
  generalize (w1.alloc (.cells #[.int .i64 0, .slice none 0 0] 28)).alloc (.cells #[] 2) = w3 at *
  generalize Value.slice (some ⟨w1.heap.size + 1, 0, none⟩) 0 0 = cv0 at *
  clear hw1' hm'
  generalize hPP : w1.heap.size = P at *
  go_loopw [5, 6] (fun co i wr => ∃ (k : Nat) (a' : Option Addr) (cp b : Nat) (vv : Value), k ≤ m ∧ vv = co ∧ i = .int .i64 k ∧ QS P (plT g k).1 (plT g k).2.1 (plT g k).2.2 a' cp b vv k (plC g k) wr ∧ Below P w1 wr) (fun _ i _ => m - (intOf i).toNat)
  case atStart => exact ⟨0, none, 0, 0, _, by omega, rfl, rfl, HQ.out.1, HQ.out.2⟩
  case round =>
    obtain ⟨k, fa, fc, fb, vv, hk, rfl, rfl, hS, hB⟩ := hrel
    have HS := hide hS
    have HB := hide hB
    clear hS hB HQ
    have i0 := (HS.out.box 0 _ rfl).1
    have i1 := (HS.out.box 1 _ rfl).1
    by_cases hlt : k < m
    · obtain ⟨b, off, rfl, hbl, z0, z1, z2⟩ := (HP.out.below (hPP ▸ HB.out)).atAct hlt
      have HX : Hid (plT g (k + 1) = (doK (plT g k).1 (g (k * 3)), doN (plT g k).1 (plT g k).2.1 (plT g k).2.2 (g (k * 3)) (g (k * 3 + 1)) (g (k * 3 + 2)), doL (plT g k).1 (plT g k).2.1 (plT g k).2.2 (g (k * 3)) (g (k * 3 + 1)) (g (k * 3 + 2))) ∧ plC g (k + 1) = plC g k ++ [doC (plT g k).1 (plT g k).2.1 (plT g k).2.2 (g (k * 3)) (g (k * 3 + 1)) (g (k * 3 + 2))]) := ⟨rfl, rfl⟩
      have HOK := hide (plT_ok g k)
      generalize g (k * 3) = y0 at *
      generalize g (k * 3 + 1) = y1 at *
      generalize g (k * 3 + 2) = y2 at *
      generalize (plT g k).1 = c at *
      generalize (plT g k).2.1 = n at *
      generalize (plT g k).2.2 = L at *
      generalize plC g k = C at *
      have cD := fun w' h' => l16Do_any c fa n fc (gL L) HOK.out.hn HOK.out.hc (by rw [fl_gL L _ HOK.out.hl]; exact HOK.out.hr) HS.out.nil y0 y1 y2 w' h'
      rw [fl_gL L _ HOK.out.hl] at cD
      unfold FlR at cD
      have HPA : Hid (Px fa (n * 4) (gL L) wr.drew) := HS.out.ow.v.px
      have HPB : Hid (Px fa (n * 4) (gL L) (wr.alloc (.cells #[.int .i64 0, .slice none 0 0] 28)).drew) := HS.out.ow.v.px.below (bnew _ _).drew
      clear HOK
      generalize doC c n L y0 y1 y2 = DC at *
      generalize doK c y0 = DK at *
      generalize doN c n L y0 y1 y2 = DN at *
      generalize doL c n L y0 y1 y2 = DL at *
      have HGA : Hid (∀ a' cp' b' w2, Ow a' b' (DN * 4) (gL DL) w2 → (DN * 4 = 0 ∨ wr.drew.heap.size ≤ b') → Below wr.drew.heap.size wr.drew w2 → (a' = none → DN = 0 ∧ cp' = 0) →
          (w2.cell? ⟨P, 0, none⟩ = some (.int .i64 c) ∧ w2.cell? ⟨P, 1, none⟩ = some (.slice fa n fc) ∧ w2.cell? ⟨b, off + k * 3, none⟩ = some (.int .i64 y0) ∧ w2.cell? ⟨b, off + k * 3 + 1, none⟩ = some (.int .i64 y1) ∧ w2.cell? ⟨b, off + k * 3 + 2, none⟩ = some (.int .i64 y2)) ∧ P < w2.heap.size ∧ b < w2.heap.size ∧
          Mad wr DK DN (gL DL) w2.heap.size a' cp' b' (w2.alloc (.cells #[.int .i64 DK, .slice a' DN cp'] 28))) := fun a' cp' b' w2 how hbb hb0 hnn => by
        have hb : Below wr.heap.size wr w2 := (Below.refl _ _).drew.trans hb0
        exact ⟨⟨cell_up hb i0, cell_up hb i1, cell_up hb z0, cell_up hb z1, cell_up hb z2⟩, World.block_lt_of_cell? _ _ (cell_up hb i0), World.block_lt_of_cell? _ _ (cell_up hb z0), mad_after how hbb hb hnn⟩
      have HGB : Hid (∀ a' cp' b' w2, Ow a' b' (DN * 4) (gL DL) w2 → (DN * 4 = 0 ∨ (wr.alloc (.cells #[.int .i64 0, .slice none 0 0] 28)).drew.heap.size ≤ b') → Below (wr.alloc (.cells #[.int .i64 0, .slice none 0 0] 28)).drew.heap.size (wr.alloc (.cells #[.int .i64 0, .slice none 0 0] 28)).drew w2 → (a' = none → DN = 0 ∧ cp' = 0) →
          (w2.cell? ⟨P, 0, none⟩ = some (.int .i64 c) ∧ w2.cell? ⟨P, 1, none⟩ = some (.slice fa n fc) ∧ w2.cell? ⟨b, off + k * 3, none⟩ = some (.int .i64 y0) ∧ w2.cell? ⟨b, off + k * 3 + 1, none⟩ = some (.int .i64 y1) ∧ w2.cell? ⟨b, off + k * 3 + 2, none⟩ = some (.int .i64 y2)) ∧ P < w2.heap.size ∧ b < w2.heap.size ∧
          (w2.cell? ⟨wr.heap.size, 0, none⟩ = some (.int .i64 0) ∧ w2.cell? ⟨wr.heap.size, 1, none⟩ = some (.slice none 0 0) ∧ w2.frozen? ⟨wr.heap.size, 0, none⟩ = false ∧ w2.frozen? ⟨wr.heap.size, 1, none⟩ = false) ∧
          Mad wr DK DN (gL DL) wr.heap.size a' cp' b' ((w2.setCell ⟨wr.heap.size, 0, none⟩ (.int .i64 DK)).setCell ⟨wr.heap.size, 1, none⟩ (.slice a' DN cp'))) := fun a' cp' b' w2 how hbb hb0 hnn => by
        have hq : (wr.alloc (.cells #[.int .i64 0, .slice none 0 0] 28)).drew.heap.size = wr.heap.size + 1 := by simp
        rw [hq] at hbb hb0
        have hb : Below wr.heap.size wr w2 := ((bnew wr (.cells #[.int .i64 0, .slice none 0 0] 28)).drew).trans (hb0.mono (Nat.le_succ _))
        obtain ⟨h1, h2⟩ := mad_ahead how hbb hb0 hnn (c := DK)
        exact ⟨⟨cell_up hb i0, cell_up hb i1, cell_up hb z0, cell_up hb z1, cell_up hb z2⟩, World.block_lt_of_cell? _ _ (cell_up hb i0), World.block_lt_of_cell? _ _ (cell_up hb z0), h1, h2⟩
      go_upto_region 8 with fail
      go_cut [7, 8] (fun xs es wc => ∃ X a' cp' b', xs = .pointer (some ⟨X, 0, none⟩) ∧ es = .int .i64 DC ∧ Mad wr DK DN (gL DL) X a' cp' b' wc)
      case first =>
        go_region_held3 (fun (w' : World) => w'.cell? ⟨P, 0, none⟩ = some (.int .i64 c) ∧ w'.cell? ⟨P, 1, none⟩ = some (.slice fa n fc) ∧ w'.cell? ⟨b, off + k * 3, none⟩ = some (.int .i64 y0) ∧ w'.cell? ⟨b, off + k * 3 + 1, none⟩ = some (.int .i64 y1) ∧ w'.cell? ⟨b, off + k * 3 + 2, none⟩ = some (.int .i64 y2))
          (first | with_reducible exact ⟨i0, i1, z0, z1, z2⟩ | go_keep | with_reducible exact ⟨x0, x1, x2, x3, x4⟩ | exact ⟨cell_up HM.out.2.2.2.2.2 i0, cell_up HM.out.2.2.2.2.2 i1, cell_up HM.out.2.2.2.2.2 z0, cell_up HM.out.2.2.2.2.2 z1, cell_up HM.out.2.2.2.2.2 z2⟩)
          (first
            | (go_at_call 20; refine (cD _ HPA.out).mono ?_; rintro e w2 ⟨fa', cp', b', rfl, how, hbb, hb, hnn⟩; obtain ⟨⟨x0, x1, x2, x3, x4⟩, x5, x6, hM⟩ := HGA.out fa' cp' b' w2 how hbb hb hnn; have HM := hide hM; clear how hbb hb hnn hM)
            | (go_at_call 20; refine (cD _ HPB.out).mono ?_; rintro e w2 ⟨fa', cp', b', rfl, how, hbb, hb, hnn⟩; obtain ⟨⟨x0, x1, x2, x3, x4⟩, x5, x6, ⟨y0, y1, y2, y3⟩, hM⟩ := HGB.out fa' cp' b' w2 how hbb hb hnn; have HM := hide hM; clear how hbb hb hnn hM))
        all_goals
          go_wp2_with fail
          go_meet
          exact ⟨_, fa', cp', b', rfl, rfl, HM.out⟩
      case rest =>
        obtain ⟨X, fa', cp', b', rfl, rfl, hM⟩ := hcut
        have HM := hide hM
        obtain ⟨hQ, t0, t1, e0, e1⟩ := HS.out.made hM
        have x0 := (HM.out.1 0 _ rfl).1
        have x1 := (HM.out.1 1 _ rfl).1
        have HQ := hide hQ
        have HPw : Hid (P ≤ wc.heap.size) := Nat.le_of_lt (World.block_lt_of_cell? _ _ t0)
        have HB2 : Hid (Below P w1 ((wc.setCell ⟨P, 0, none⟩ (.int .i64 DK)).setCell ⟨P, 1, none⟩ (.slice fa' DN cp'))) := ((HB.out.trans (HM.out.2.2.2.2.2.mono (Nat.le_of_lt HS.out.lt))).setCell (Nat.le_refl _) _).setCell (Nat.le_refl _) _
        clear hM hQ cD HGA HGB HPA HPB HM HS HB i0 i1 z0 z1 z2
        go_upto_region 10 with fail
        have HPz : Hid (P ≤ ((wc.setCell ⟨P, 0, none⟩ (.int .i64 DK)).setCell ⟨P, 1, none⟩ (.slice fa' DN cp')).heap.size) := Nat.le_of_lt HQ.out.lt
        generalize (wc.setCell ⟨P, 0, none⟩ (.int .i64 DK)).setCell ⟨P, 1, none⟩ (.slice fa' DN cp') = w4 at *
        clear t0 t1 e0 e1 x0 x1 HPw
        go_wp2_with (refine growN _ rfl _ _ rfl P vv k C rfl w1 HQ.out.cs HB2.out HPz.out DC rfl (by omega) ?_)
        intro cv5 w5 ho hb5 _ hkp hmv
        have HS5 := hide (HQ.out.grown hkp hmv ho)
        have HB5 := hide hb5
        clear ho hb5 hkp hmv HQ HB2 HPz
        go_wp2_with fail
        exact ⟨⟨k + 1, fa', cp', b', _, by omega, rfl, rfl, by rw [HX.out.1, HX.out.2]; exact HS5.out, HB5.out⟩, by simp [intOf]; omega⟩
    · obtain rfl : k = m := by omega
      have HLN := hide (plC_len g k)
      have HSR := hide (HS0.out.next (hPP ▸ HB.out))
      obtain ⟨k0, k1⟩ := HSR.out.im2 0 rfl
      obtain ⟨e0, e1⟩ := HSR.out.fr2 0 rfl
      generalize (plT g k).1 = c at *
      generalize (plT g k).2.1 = n at *
      generalize (plT g k).2.2 = L at *
      have HE := hide (HSR.out.fill2 (.int .i64 c) (.slice fa n fc))
      have HV := hide (HS.out.ans (w := w) hRP HLN.out HE.out.below)
      have d0 := (HE.out.im2 0 rfl).1
      have d1 := (HE.out.im2 0 rfl).2
      clear HS HB HSR HE HLN HS0 HP hlt
      go_wp2_with fail
      exact bodyPost_ret (v := .tuple #[vFlow c fa n fc, vv]) (by simp [results, Try.results8, go_sem, d0, d1]) rfl HV.out

end Go.Proofs.Ytfhfddmiiopgdaa

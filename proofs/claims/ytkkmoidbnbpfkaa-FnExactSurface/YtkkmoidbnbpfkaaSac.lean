/- The bare faces of a voxel: the program. -/
import Derived.Test.YtkkmoidbnbpfkaaSva
import Derived.Test.YtkkmoidbnbpfkaaSfs
import Derived.Deep.RegionHeld3
import Derived.Deep.DrawnRows
import Derived.Lib.MinMax
namespace Go.Proofs.Ytkkmoidbnbpfkaa
open Go.RowKit

def sg (j : Nat) : Int := if j = 0 then -1 else 1
set_option linter.unusedSimpArgs false in
theorem sfQ_gen (X Y Z : Int) (f : Nat → Int) (x y z : Int) {q j : Nat} (hq : q < 3) (hj : j < 2) :
    sfQ X Y Z f x y z (2 * q + j) = fcL (vAt X Y Z f (x + aln (q + 1) 1 * sg j) (y + aln (q + 1) 2 * sg j) (z + aln (q + 1) 3 * sg j)) [x + aln (q + 1) 1 * max (sg j) 0, y + aln (q + 1) 2 * max (sg j) 0, z + aln (q + 1) 3 * max (sg j) 0, q + 1, sg j] := by
  have e : (q = 0 ∨ q = 1 ∨ q = 2) ∧ (j = 0 ∨ j = 1) := by omega
  have h1 : max (-1 : Int) 0 = 0 := by decide
  have h2 : max (1 : Int) 0 = 1 := by decide
  rcases e with ⟨rfl | rfl | rfl, rfl | rfl⟩ <;> simp [sfQ, aln, sg, h1, h2] <;> rfl
theorem aln_01 (ax q : Int) : aln ax q = 0 ∨ aln ax q = 1 := by unfold aln; split <;> simp
theorem alnm_bd {ax q s : Int} (hs : -1 ≤ s ∧ s ≤ 1) : -1 ≤ aln ax q * s ∧ aln ax q * s ≤ 1 := by
  rcases aln_01 ax q with e | e <;> rw [e] <;> omega
theorem sg_bd (j : Nat) : (-1 ≤ sg j ∧ sg j ≤ 1) ∧ (0 ≤ max (sg j) 0 ∧ max (sg j) 0 ≤ 1) := by unfold sg; split <;> omega

theorem at_new {w : World} {b : Nat} {u v t : Value} (h : w.cell? ⟨b, 0, none⟩ = some u ∧ w.cell? ⟨b, 1, none⟩ = some v ∧ w.cell? ⟨b, 2, none⟩ = some t) (hb : b < w.heap.size) (o : Obj) : (w.alloc o).cell? ⟨b, 0, none⟩ = some u ∧ (w.alloc o).cell? ⟨b, 1, none⟩ = some v ∧ (w.alloc o).cell? ⟨b, 2, none⟩ = some t :=
  ⟨((bnew w o).cell (p := ⟨b, 0, none⟩) hb).trans h.1, ((bnew w o).cell (p := ⟨b, 1, none⟩) hb).trans h.2.1, ((bnew w o).cell (p := ⟨b, 2, none⟩) hb).trans h.2.2⟩
theorem at_newd {w : World} {b : Nat} {u v t : Value} (h : w.cell? ⟨b, 0, none⟩ = some u ∧ w.cell? ⟨b, 1, none⟩ = some v ∧ w.cell? ⟨b, 2, none⟩ = some t) (hb : b < w.heap.size) (o : Obj) : (w.alloc o).drew.cell? ⟨b, 0, none⟩ = some u ∧ (w.alloc o).drew.cell? ⟨b, 1, none⟩ = some v ∧ (w.alloc o).drew.cell? ⟨b, 2, none⟩ = some t := at_new h hb o
theorem bx_newd (vs : List Value) (t : TypeId) (w : World) {w' : World} (hb : Below ((w.alloc (.cells vs.toArray t)).drew).heap.size ((w.alloc (.cells vs.toArray t)).drew) w') : Bx w.heap.size vs w' := Bx.below (w := (w.alloc (.cells vs.toArray t)).drew) (Bx.new vs t w) hb (by show w.heap.size < (w.alloc (.cells vs.toArray t)).heap.size; simp)
theorem below_newd (w : World) (o : Obj) {w' : World} (hb : Below ((w.alloc o).drew).heap.size ((w.alloc o).drew) w') : Below w.heap.size w w' := bnext ((bnew w o).drew) (Nat.le_refl _) hb
theorem at_set1 {w : World} {b c i : Nat} {u v t y : Value} (h : w.cell? ⟨b, 0, none⟩ = some u ∧ w.cell? ⟨b, 1, none⟩ = some v ∧ w.cell? ⟨b, 2, none⟩ = some t) (hne : c ≠ b) : (w.setCell ⟨c, i, none⟩ y).cell? ⟨b, 0, none⟩ = some u ∧ (w.setCell ⟨c, i, none⟩ y).cell? ⟨b, 1, none⟩ = some v ∧ (w.setCell ⟨c, i, none⟩ y).cell? ⟨b, 2, none⟩ = some t := by
  have hk : Kept c w (w.setCell ⟨c, i, none⟩ y) := (Kept.refl c w).setCell rfl _
  exact ⟨hk.cell (fun e => hne e.symm) h.1, hk.cell (fun e => hne e.symm) h.2.1, hk.cell (fun e => hne e.symm) h.2.2⟩
theorem at_set {w : World} {b c : Nat} {u v t y0 y1 y2 : Value} (h : w.cell? ⟨b, 0, none⟩ = some u ∧ w.cell? ⟨b, 1, none⟩ = some v ∧ w.cell? ⟨b, 2, none⟩ = some t) (hne : c ≠ b) :
    (((w.setCell ⟨c, 0, none⟩ y0).setCell ⟨c, 1, none⟩ y1).setCell ⟨c, 2, none⟩ y2).cell? ⟨b, 0, none⟩ = some u ∧ (((w.setCell ⟨c, 0, none⟩ y0).setCell ⟨c, 1, none⟩ y1).setCell ⟨c, 2, none⟩ y2).cell? ⟨b, 1, none⟩ = some v ∧ (((w.setCell ⟨c, 0, none⟩ y0).setCell ⟨c, 1, none⟩ y1).setCell ⟨c, 2, none⟩ y2).cell? ⟨b, 2, none⟩ = some t :=
  at_set1 (at_set1 (at_set1 h hne) hne) hne

set_option maxRecDepth 100000 in
set_option maxHeartbeats 4000000 in
theorem appendBare_any (X Y Z : Int) (a : Option Addr) (n cap : Nat) (f : Nat → Int) (hX : 1 ≤ X ∧ X ≤ 32) (hY : 1 ≤ Y ∧ Y ≤ 32) (hZ : 1 ≤ Z ∧ Z ≤ 32) (hn : (n : Int) = X * Y * Z) (x y z : Int) (hx : 0 ≤ x ∧ x ≤ 32) (hy : 0 ≤ y ∧ y ≤ 32) (hz : 0 ≤ z ∧ z ≤ 32)
    (B : Nat) (v : Value) (m : Nat) (L : List Int) (hL : L.length ≤ 983040) (w : World) (hown : w.ownsRow B 39 5 v m (ints L)) (hB : B ≤ w.heap.size) (hP : ∀ wr, Below B w wr → Px a n f wr) :
    Calls Try.prog 18 #[v, vVolume X Y Z a n cap, v3v x y z] w fun e w' => ∃ v', e = .returned v' ∧ ∃ m', w'.ownsRow B 39 5 v' m' (ints (L ++ sfP X Y Z f x y z 6)) ∧ Below B w w' := by
  obtain ⟨wS, hwS⟩ : ∃ wS, (w.alloc (.cells #[.int .i64 X, .int .i64 Y, .int .i64 Z, .slice a n cap] 28)).alloc (.cells #[.int .i64 x, .int .i64 y, .int .i64 z] 43) = wS := ⟨_, rfl⟩
  have hS : St w [(w.heap.size + 1, [.int .i64 x, .int .i64 y, .int .i64 z]), (w.heap.size, [.int .i64 X, .int .i64 Y, .int .i64 Z, .slice a n cap])] [] wS := by rw [← hwS]; exact ((St.start w).box [.int .i64 X, .int .i64 Y, .int .i64 Z, .slice a n cap] 28).box' [.int .i64 x, .int .i64 y, .int .i64 z] 43 (b := w.heap.size + 1) (by simp)
  have hzs : wS.heap.size = w.heap.size + 2 := by rw [← hwS]; simp
  have hT0 : TyF w.heap.size wS := ⟨_, 28, by rw [← hwS, (bnew (w.alloc _) _).block w.heap.size (by simp)]; exact heap_alloc_new w _, by decide⟩
  have hT1 : TyF (w.heap.size + 1) wS := ⟨_, 43, by rw [← hwS, show w.heap.size + 1 = (w.alloc (.cells #[.int .i64 X, .int .i64 Y, .int .i64 Z, .slice a n cap] 28)).heap.size by simp]; exact heap_alloc_new _ _, by decide⟩
  have HO0 : Hid (wS.ownsRow B 39 5 v m (ints (L ++ sfP X Y Z f x y z (2 * 0)))) := by
    show wS.ownsRow _ _ _ _ _ _
    rw [show L ++ sfP X Y Z f x y z (2 * 0) = L by simp [sfP]]
    exact ownsRow_below' hown hS.below
  have HB0 : Hid (Below B w wS) := hS.below.mono hB
  have HBx : Hid (∀ wr : World, wr.heap[w.heap.size]? = wS.heap[w.heap.size]? → wr.heap[w.heap.size + 1]? = wS.heap[w.heap.size + 1]? → (wr.cell? ⟨w.heap.size, 0, none⟩ = some (.int .i64 X) ∧ wr.cell? ⟨w.heap.size, 1, none⟩ = some (.int .i64 Y) ∧ wr.cell? ⟨w.heap.size, 2, none⟩ = some (.int .i64 Z) ∧ wr.cell? ⟨w.heap.size, 3, none⟩ = some (.slice a n cap)) ∧ (wr.cell? ⟨w.heap.size + 1, 0, none⟩ = some (.int .i64 x) ∧ wr.cell? ⟨w.heap.size + 1, 1, none⟩ = some (.int .i64 y) ∧ wr.cell? ⟨w.heap.size + 1, 2, none⟩ = some (.int .i64 z))) := by
    intro wr h0 h1
    refine ⟨⟨?_, ?_, ?_, ?_⟩, ?_, ?_, ?_⟩
    · rw [World.cell?_of_block (a := ⟨w.heap.size, 0, none⟩) h0]; exact hS.cell 1 rfl 0 rfl
    · rw [World.cell?_of_block (a := ⟨w.heap.size, 1, none⟩) h0]; exact hS.cell 1 rfl 1 rfl
    · rw [World.cell?_of_block (a := ⟨w.heap.size, 2, none⟩) h0]; exact hS.cell 1 rfl 2 rfl
    · rw [World.cell?_of_block (a := ⟨w.heap.size, 3, none⟩) h0]; exact hS.cell 1 rfl 3 rfl
    · rw [World.cell?_of_block (a := ⟨w.heap.size + 1, 0, none⟩) h1]; exact hS.cell 0 rfl 0 rfl
    · rw [World.cell?_of_block (a := ⟨w.heap.size + 1, 1, none⟩) h1]; exact hS.cell 0 rfl 1 rfl
    · rw [World.cell?_of_block (a := ⟨w.heap.size + 1, 2, none⟩) h1]; exact hS.cell 0 rfl 2 rfl
  have HT0 := hide hT0
  have HT1 := hide hT1
  have HWS := hide hwS
  have HPp := hide hP
  have HNn := hide hn
  have HBb := hide hB
  clear hwS hS hzs hT0 hT1 hP hn hB hown
  go_enter Try.func18, Try.ntmps18
  go_upto_region 1 with fail
  rw [HWS.out]
  go_wp2_with fail
  go_loopw [0, 7] (fun s i wr => ∃ (q m : Nat) (v : Value), q ≤ 3 ∧ i = .int .i64 (q + 1) ∧ v = s ∧ wr.ownsRow B 39 5 v m (ints (L ++ sfP X Y Z f x y z (2 * q))) ∧ Below B w wr ∧ wr.heap[w.heap.size]? = wS.heap[w.heap.size]? ∧ wr.heap[w.heap.size + 1]? = wS.heap[w.heap.size + 1]?) (fun _ i _ => 4 - (intOf i).toNat)
  case atStart => exact ⟨0, m, _, by omega, rfl, rfl, HO0.out, HB0.out, rfl, rfl⟩
  case round =>
    obtain ⟨q, m0, vv0, hq, rfl, rfl, ho, hb, h0, h1⟩ := hrel
    clear HO0 HB0
    have HO := hide ho
    have HB := hide hb
    have HE := hide (And.intro h0 h1)
    clear ho hb h0 h1
    by_cases hlt : q < 3
    · obtain ⟨wo, rfl⟩ : ∃ wo, wo = wr := ⟨_, rfl⟩
      have hle : (q : Int) + 1 ≤ 3 := by omega
      have hwi := bnew wo (.cells #[.int .i64 (-1), .int .i64 1] 2)
      obtain ⟨wi, hwie⟩ : ∃ wi, wo.alloc (.cells #[.int .i64 (-1), .int .i64 1] 2) = wi := ⟨_, rfl⟩
      have hTs : TyF wo.heap.size wi := ⟨_, 2, by rw [← hwie]; exact heap_alloc_new wo _, by decide⟩
      have hBs : Bx wo.heap.size [.int .i64 (-1), .int .i64 1] wi := by rw [← hwie]; exact Bx.new _ _ _
      rw [hwie] at hwi
      have lt0 : w.heap.size < wo.heap.size := by
        have := HT0.out.lt
        obtain ⟨cs, t, hc, _⟩ := HT0.out
        rw [← HE.out.1] at hc
        exact (Array.getElem?_eq_some_iff.1 hc).1
      have lt1 : w.heap.size + 1 < wo.heap.size := by
        obtain ⟨cs, t, hc, _⟩ := HT1.out
        rw [← HE.out.2] at hc
        exact (Array.getElem?_eq_some_iff.1 hc).1
      have HOi : Hid (wi.ownsRow B 39 5 vv0 m0 (ints (L ++ sfP X Y Z f x y z (2 * q + 0)))) := ownsRow_below' HO.out hwi
      have HBi : Hid (Below B w wi) := bnext HB.out HBb.out hwi
      have HEi : Hid (wi.heap[w.heap.size]? = wS.heap[w.heap.size]? ∧ wi.heap[w.heap.size + 1]? = wS.heap[w.heap.size + 1]?) := ⟨(hwi.block _ lt0).trans HE.out.1, (hwi.block _ lt1).trans HE.out.2⟩
      have HTs := hide hTs
      have HBsx := hide hBs
      have HWI := hide hwie
      clear hwi hwie hTs hBs lt0 lt1 HO HB HE
      go_upto_region 5 with fail
      rw [HWI.out]
      go_wp2_with fail
      go_loopw [0, 17] (fun s i wr => ∃ (j m : Nat) (v : Value), j ≤ 2 ∧ i = .int .i64 j ∧ v = s ∧ wr.ownsRow B 39 5 v m (ints (L ++ sfP X Y Z f x y z (2 * q + j))) ∧ Below B w wr ∧ (wr.heap[w.heap.size]? = wS.heap[w.heap.size]? ∧ wr.heap[w.heap.size + 1]? = wS.heap[w.heap.size + 1]?) ∧ wr.heap[wo.heap.size]? = wi.heap[wo.heap.size]?) (fun _ i _ => 2 - (intOf i).toNat)
      case atStart => exact ⟨0, m0, _, by omega, rfl, rfl, HOi.out, HBi.out, HEi.out, rfl⟩
      case round =>
        obtain ⟨j, m1, vv1, hj, rfl, rfl, ho, hb, he, hs⟩ := hrel
        clear HOi HBi HEi
        have HO := hide ho
        have HB := hide hb
        have HE := hide he
        have HEs := hide hs
        clear ho hb he hs
        by_cases hlt2 : j < 2
        · have hsg : wr.cell? ⟨wo.heap.size, j, none⟩ = some (.int .i64 (sg j)) := by
            rw [World.cell?_of_block (a := ⟨wo.heap.size, j, none⟩) HEs.out]
            rcases (show j = 0 ∨ j = 1 by omega) with rfl | rfl
            · exact (HBsx.out 0 _ rfl).1
            · exact (HBsx.out 1 _ rfl).1
          obtain ⟨⟨v0, v1, v2, v3⟩, t0, t1, t2⟩ := HBx.out wr HE.out.1 HE.out.2
          have hb0 : w.heap.size < wr.heap.size := World.block_lt_of_cell? wr _ v0
          have hb1 : w.heap.size + 1 < wr.heap.size := World.block_lt_of_cell? wr _ t0
          have HQ : Hid (sfP X Y Z f x y z (2 * q + (j + 1)) = sfP X Y Z f x y z (2 * q + j) ++ fcL (vAt X Y Z f (x + aln (q + 1) 1 * sg j) (y + aln (q + 1) 2 * sg j) (z + aln (q + 1) 3 * sg j)) [x + aln (q + 1) 1 * max (sg j) 0, y + aln (q + 1) 2 * max (sg j) 0, z + aln (q + 1) 3 * max (sg j) 0, q + 1, sg j]) := by
            show sfP X Y Z f x y z (2 * q + j + 1) = _
            rw [← sfQ_gen X Y Z f x y z hlt hlt2]
            rfl
          obtain ⟨⟨s0, s1⟩, s2, s3⟩ := sg_bd j
          have cA := along_any ((q : Int) + 1) (by omega)
          have d1 := alnm_bd (ax := (q : Int) + 1) (q := 1) ⟨s0, s1⟩
          have d2 := alnm_bd (ax := (q : Int) + 1) (q := 2) ⟨s0, s1⟩
          have d3 := alnm_bd (ax := (q : Int) + 1) (q := 3) ⟨s0, s1⟩
          have g1 := alnm_bd (ax := (q : Int) + 1) (q := 1) (s := max (sg j) 0) (by omega)
          have g2 := alnm_bd (ax := (q : Int) + 1) (q := 2) (s := max (sg j) 0) (by omega)
          have g3 := alnm_bd (ax := (q : Int) + 1) (q := 3) (s := max (sg j) 0) (by omega)
          have cM := vscaled9_any (aln (q + 1) 1) (aln (q + 1) 2) (aln (q + 1) 3) (sg j) _ _ _ (show _ = aln (q + 1) 1 * sg j by rw [IntKind.wrap_i64]; omega) (show _ = aln (q + 1) 2 * sg j by rw [IntKind.wrap_i64]; omega) (show _ = aln (q + 1) 3 * sg j by rw [IntKind.wrap_i64]; omega)
          have cN := vscaled9_any (aln (q + 1) 1) (aln (q + 1) 2) (aln (q + 1) 3) (max (sg j) 0) _ _ _ (show _ = aln (q + 1) 1 * max (sg j) 0 by rw [IntKind.wrap_i64]; omega) (show _ = aln (q + 1) 2 * max (sg j) 0 by rw [IntKind.wrap_i64]; omega) (show _ = aln (q + 1) 3 * max (sg j) 0 by rw [IntKind.wrap_i64]; omega)
          have cP := vplus9_any x y z (aln (q + 1) 1 * sg j) (aln (q + 1) 2 * sg j) (aln (q + 1) 3 * sg j) (by omega) (by omega)
          have cR := vplus9_any x y z (aln (q + 1) 1 * max (sg j) 0) (aln (q + 1) 2 * max (sg j) 0) (aln (q + 1) 3 * max (sg j) 0) (by omega) (by omega)
          have cV := fun w' hb => voxelAt_any X Y Z a n cap f hX hY hZ HNn.out (x + aln (q + 1) 1 * sg j) (y + aln (q + 1) 2 * sg j) (z + aln (q + 1) 3 * sg j) w' (HPp.out w' hb)
          have hlp := sfP_len X Y Z f x y z (2 * q + j)
          have hmm : m1 ≤ 1048576 := by have := own_len HO.out; rw [List.length_append] at this; omega
          generalize vAt X Y Z f (x + aln (q + 1) 1 * sg j) (y + aln (q + 1) 2 * sg j) (z + aln (q + 1) 3 * sg j) = V at *
          generalize aln ((q : Int) + 1) 1 * max (sg j) 0 = M1 at *
          generalize aln ((q : Int) + 1) 2 * max (sg j) 0 = M2 at *
          generalize aln ((q : Int) + 1) 3 * max (sg j) 0 = M3 at *
          generalize aln ((q : Int) + 1) 1 * sg j = D1 at *
          generalize aln ((q : Int) + 1) 2 * sg j = D2 at *
          generalize aln ((q : Int) + 1) 3 * sg j = D3 at *
          generalize aln ((q : Int) + 1) 1 = A1 at *
          generalize aln ((q : Int) + 1) 2 = A2 at *
          generalize aln ((q : Int) + 1) 3 = A3 at *
          generalize sg j = S at *
          have HW : Hid (Below wr.heap.size wr wr.drew) := (Below.refl _ _).drew
          have SK : Hid (_ ∧ _ ∧ _ ∧ _ ∧ _ ∧ _ ∧ _) := ⟨v0, v1, v2, v3, t0, t1, t2⟩
          have SK0 := SK
          go_upto_region 7 with fail
          clear v0 v1 v2 v3 t0 t1 t2 hsg
          go_region_held3 (fun (w' : World) => w'.cell? ⟨w.heap.size, 0, none⟩ = some (.int .i64 X) ∧ w'.cell? ⟨w.heap.size, 1, none⟩ = some (.int .i64 Y) ∧ w'.cell? ⟨w.heap.size, 2, none⟩ = some (.int .i64 Z) ∧ w'.cell? ⟨w.heap.size, 3, none⟩ = some (.slice a n cap) ∧ w'.cell? ⟨w.heap.size + 1, 0, none⟩ = some (.int .i64 x) ∧ w'.cell? ⟨w.heap.size + 1, 1, none⟩ = some (.int .i64 y) ∧ w'.cell? ⟨w.heap.size + 1, 2, none⟩ = some (.int .i64 z))
            (exact SK.out)
            (((first
              | (go_at_call 28; refine (cA _).mono ?_)
              | (go_at_call 29; refine (cM _).mono ?_)
              | (go_at_call 27; refine (cP _).mono ?_)
              | (go_at_call 26; refine (cV _ (bnext HB.out HBb.out HW.out)).mono ?_)); rintro e w5 ⟨rfl, hb5⟩; (replace HW := hide (bnext HW.out (Nat.le_refl _) hb5)); (replace SK : Hid (_ ∧ _ ∧ _ ∧ _ ∧ _ ∧ _ ∧ _) := ⟨(HW.out.cell (p := ⟨w.heap.size, 0, none⟩) hb0).trans SK0.out.1, (HW.out.cell (p := ⟨w.heap.size, 1, none⟩) hb0).trans SK0.out.2.1, (HW.out.cell (p := ⟨w.heap.size, 2, none⟩) hb0).trans SK0.out.2.2.1, (HW.out.cell (p := ⟨w.heap.size, 3, none⟩) hb0).trans SK0.out.2.2.2.1, (HW.out.cell (p := ⟨w.heap.size + 1, 0, none⟩) hb1).trans SK0.out.2.2.2.2.1, (HW.out.cell (p := ⟨w.heap.size + 1, 1, none⟩) hb1).trans SK0.out.2.2.2.2.2.1, (HW.out.cell (p := ⟨w.heap.size + 1, 2, none⟩) hb1).trans SK0.out.2.2.2.2.2.2⟩); clear hb5))
          have hbs : wo.heap.size < wr.heap.size := by
            obtain ⟨cs, t, hc, _⟩ := HTs.out
            rw [← HEs.out] at hc
            exact (Array.getElem?_eq_some_iff.1 hc).1
          obtain ⟨wz, rfl⟩ : ∃ wz, wz = w5 := ⟨_, rfl⟩
          have HOz := hide (ownsRow_below' HO.out HW.out)
          have HBz := hide (bnext HB.out HBb.out HW.out)
          have HEz : Hid ((wz.heap[w.heap.size]? = wS.heap[w.heap.size]? ∧ wz.heap[w.heap.size + 1]? = wS.heap[w.heap.size + 1]?) ∧ wz.heap[wo.heap.size]? = wi.heap[wo.heap.size]?) := ⟨⟨(HW.out.block _ hb0).trans HE.out.1, (HW.out.block _ hb1).trans HE.out.2⟩, (HW.out.block _ hbs).trans HEs.out⟩
          have hz0 : w.heap.size < wz.heap.size := Nat.lt_of_lt_of_le hb0 HW.out.size
          have hz1 : w.heap.size + 1 < wz.heap.size := Nat.lt_of_lt_of_le hb1 HW.out.size
          have hzs : wo.heap.size < wz.heap.size := Nat.lt_of_lt_of_le hbs HW.out.size
          have HSK := hide SK.out.2.2.2.2
          clear SK SK0 HW HO HB HE HEs cM cP cV hb0 hb1 hbs
          by_cases hv : V ≤ 0
          case neg =>
            have HL : Hid (L ++ sfP X Y Z f x y z (2 * q + j) = L ++ sfP X Y Z f x y z (2 * q + (j + 1))) := by show _ ++ _ = _; rw [HQ.out, fcL_out hv, List.append_nil]
            go_wp2_with fail
            exact ⟨⟨j + 1, m1, vv1, by omega, rfl, rfl, by rw [← HL.out]; exact HOz.out, HBz.out, HEz.out.1, HEz.out.2⟩, by simp [intOf]; omega⟩
          obtain ⟨k0, k1, k2⟩ := HSK.out
          go_upto_region 8 with fail
          go_cut [10] (fun sl wc => ∃ c, sl = .pointer (some ⟨c, 0, none⟩) ∧ Bx c [.int .i64 (x + M1), .int .i64 (y + M2), .int .i64 (z + M3)] wc ∧ Below wz.heap.size wz wc)
          case first =>
            clear d1 d2 d3 g1 g2 g3 s0 s1 s2 s3 hlp hX hY hZ hx hy hz hmm HQ HOz HBz HEz hz0 hzs HBx HT0 HT1 HWS HPp HNn HBb HTs HBsx HWI hle hlt hlt2 hj hq hv hL
            have HW : Hid (Below wz.heap.size wz wz.drew) := (Below.refl _ _).drew
            have SK : Hid (wz.drew.cell? ⟨w.heap.size + 1, 0, none⟩ = some (.int .i64 x) ∧ wz.drew.cell? ⟨w.heap.size + 1, 1, none⟩ = some (.int .i64 y) ∧ wz.drew.cell? ⟨w.heap.size + 1, 2, none⟩ = some (.int .i64 z)) := ⟨k0, k1, k2⟩
            clear k0 k1 k2
            have hzc : w.heap.size + 1 < wz.drew.heap.size := hz1
            go_region_held (fun (w' : World) => w'.cell? ⟨w.heap.size + 1, 0, none⟩ = some (.int .i64 x) ∧ w'.cell? ⟨w.heap.size + 1, 1, none⟩ = some (.int .i64 y) ∧ w'.cell? ⟨w.heap.size + 1, 2, none⟩ = some (.int .i64 z))
              (first | (with_reducible exact SK.out) | (with_reducible exact at_newd HSK.out hz1 _) | (with_reducible exact at_new SK.out hzc _) | (with_reducible exact at_set SK.out (by omega)))
              (((first
                | (go_at_call 28; refine (cA _).mono ?_)
                | (go_at_call 29; refine (cN _).mono ?_)
                | (go_at_call 27; refine (cR _).mono ?_)); rintro e w5 ⟨rfl, hb5⟩; (first | ((with_reducible (replace HW := hide (below_newd _ _ hb5))); have hcB := Nat.le_refl wz.heap.size; have NB := hide (bx_newd [.int .i64 0, .int .i64 0, .int .i64 0] 43 wz hb5); have n0 := (NB.out 0 _ rfl).1; have n1 := (NB.out 1 _ rfl).1; have n2 := (NB.out 2 _ rfl).1; have o0 := (NB.out 0 _ rfl).2; have o1 := (NB.out 1 _ rfl).2; have o2 := (NB.out 2 _ rfl).2) | (replace HW := hide (bnext HW.out (Nat.le_refl _) hb5); try (replace NB := hide (NB.out.below hb5 (World.block_lt_of_cell? _ _ (NB.out 0 _ rfl).1)); have n0 := (NB.out 0 _ rfl).1; have n1 := (NB.out 1 _ rfl).1; have n2 := (NB.out 2 _ rfl).1; have o0 := (NB.out 0 _ rfl).2; have o1 := (NB.out 1 _ rfl).2; have o2 := (NB.out 2 _ rfl).2)) | (have hcB := HW.out.size; replace HW := hide (bnext (bnext HW.out (Nat.le_refl _) (bnew _ _)) (Nat.le_refl _) hb5); have NB := hide ((Bx.new [.int .i64 0, .int .i64 0, .int .i64 0] 43 _).below hb5 (by simp)); (try change Hid (Bx wz.heap.size _ _) at NB); have n0 := (NB.out 0 _ rfl).1; have n1 := (NB.out 1 _ rfl).1; have n2 := (NB.out 2 _ rfl).1; have o0 := (NB.out 0 _ rfl).2; have o1 := (NB.out 1 _ rfl).2; have o2 := (NB.out 2 _ rfl).2)); (replace SK : Hid (_ ∧ _ ∧ _) := ⟨(HW.out.cell (p := ⟨w.heap.size + 1, 0, none⟩) hz1).trans HSK.out.1, (HW.out.cell (p := ⟨w.heap.size + 1, 1, none⟩) hz1).trans HSK.out.2.1, (HW.out.cell (p := ⟨w.heap.size + 1, 2, none⟩) hz1).trans HSK.out.2.2⟩); (have hzc := Nat.lt_of_lt_of_le hz1 HW.out.size); clear hb5))
            all_goals
              go_wp2_with fail
              go_meet
              first
                | (refine ⟨_, rfl, ?_, (by with_reducible exact bnext HW.out (Nat.le_refl _) (bnew _ _))⟩; exact Bx.new _ _ _)
                | (refine ⟨_, rfl, ?_, (by with_reducible exact ((HW.out.setCell hcB _).setCell hcB _).setCell hcB _)⟩; exact ((NB.out.set 0 _).set 1 _).set 2 _)
                | fail "meet"
          case rest =>
            obtain ⟨c, rfl, hbx, hbz⟩ := hcut
            have z0 := (hbx 0 _ rfl).1
            have z1 := (hbx 1 _ rfl).1
            have z2 := (hbx 2 _ rfl).1
            have HOc := hide (ownsRow_below' HOz.out hbz)
            have HBc := hide (bnext HBz.out HBb.out hbz)
            have HEc : Hid ((wc.heap[w.heap.size]? = wS.heap[w.heap.size]? ∧ wc.heap[w.heap.size + 1]? = wS.heap[w.heap.size + 1]?) ∧ wc.heap[wo.heap.size]? = wi.heap[wo.heap.size]?) := ⟨⟨(hbz.block _ hz0).trans HEz.out.1.1, (hbz.block _ hz1).trans HEz.out.1.2⟩, (hbz.block _ hzs).trans HEz.out.2⟩
            have HTc : Hid (TyF w.heap.size wc ∧ TyF (w.heap.size + 1) wc ∧ TyF wo.heap.size wc) := by
              refine ⟨?_, ?_, ?_⟩
              · obtain ⟨cs, t, hc, ht⟩ := HT0.out; exact ⟨cs, t, HEc.out.1.1.trans hc, ht⟩
              · obtain ⟨cs, t, hc, ht⟩ := HT1.out; exact ⟨cs, t, HEc.out.1.2.trans hc, ht⟩
              · obtain ⟨cs, t, hc, ht⟩ := HTs.out; exact ⟨cs, t, HEc.out.2.trans hc, ht⟩
            have HL : Hid (L ++ sfP X Y Z f x y z (2 * q + j) ++ [x + M1, y + M2, z + M3, (q : Int) + 1, S] = L ++ sfP X Y Z f x y z (2 * q + (j + 1))) := by show _ ++ _ = _; rw [HQ.out, fcL_in hv, List.append_assoc]
            have HSz : Hid (B ≤ wc.heap.size) := Nat.le_trans HBb.out HBc.out.size
            clear hbx hbz HOz HBz HEz HQ HSK k0 k1 k2 cA cN cR hz0 hz1 hzs d1 d2 d3 g1 g2 g3 s0 s1 s2 s3 hlp
            go_wp2_with (refine growG wc rfl _ _ rfl B vv1 m1 (L ++ sfP X Y Z f x y z (2 * q + j)) rfl w HOc.out HBc.out HSz.out (x + M1) (y + M2) (z + M3) ((q : Int) + 1) S rfl hmm ?_)
            intro v' w' ho hb hk
            have HOd : Hid (w'.ownsRow B 39 5 v' (m1 + 1) (ints (L ++ sfP X Y Z f x y z (2 * q + (j + 1))))) := by
              show w'.ownsRow _ _ _ _ _ _
              rw [← HL.out]
              first | exact ho | (rw [List.append_assoc]; exact ho)
            have HBd := hide hb
            have HEd : Hid ((w'.heap[w.heap.size]? = wS.heap[w.heap.size]? ∧ w'.heap[w.heap.size + 1]? = wS.heap[w.heap.size + 1]?) ∧ w'.heap[wo.heap.size]? = wi.heap[wo.heap.size]?) := ⟨⟨(hk _ HTc.out.1).trans HEc.out.1.1, (hk _ HTc.out.2.1).trans HEc.out.1.2⟩, (hk _ HTc.out.2.2).trans HEc.out.2⟩
            clear ho hb hk HOc HBc HEc HTc HL z0 z1 z2
            go_wp2_with fail
            exact ⟨⟨j + 1, m1 + 1, v', by omega, rfl, rfl, HOd.out, HBd.out, HEd.out.1, HEd.out.2⟩, by simp [intOf]; omega⟩
        · obtain rfl : j = 2 := by omega
          have HF : Hid (wr.ownsRow B 39 5 vv1 m1 (ints (L ++ sfP X Y Z f x y z (2 * (q + 1))))) := HO.out
          clear HO HEs
          go_wp2_with fail
          exact ⟨⟨q + 1, m1, vv1, by omega, by congr 1, rfl, HF.out, HB.out, HE.out.1, HE.out.2⟩, by simp [intOf]; omega⟩
    · obtain rfl : q = 3 := by omega
      have HF : Hid (wr.ownsRow B 39 5 vv0 m0 (ints (L ++ sfP X Y Z f x y z 6))) := HO.out
      clear HO
      go_wp2_with fail
      go_ret
      exact ⟨_, rfl, _, HF.out, HB.out⟩

end Go.Proofs.Ytkkmoidbnbpfkaa

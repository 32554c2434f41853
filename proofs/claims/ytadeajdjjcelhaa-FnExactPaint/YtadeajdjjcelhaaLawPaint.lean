/- The law on Paint, walked. -/
import Derived.Test.YtadeajdjjcelhaaMarkS
namespace Go.Proofs.Ytadeajdjjcelhaa
open Go.RowKit
set_option maxRecDepth 100000
set_option maxHeartbeats 2000000

set_option maxRecDepth 20000 in
set_option maxHeartbeats 8000000 in
theorem fnExactPaint_walk (a : Option Addr) (len cap : Nat) (g : Nat → Int) (hl : len ≤ maxLen) (W H : Int) (w : World) (h : Px a (len * 7) g w) :
    Calls Try.prog 7 #[.slice a len cap, .int .i64 W, .int .i64 H] w fun e w' => e = .returned (.bool true) ∧ Below w.heap.size w w' := by
  have hl' : (len : Int) ≤ 9223372036854775807 := by unfold maxLen at hl; omega
  have cZ := szShapeS_any a len cap 1048576 (by omega) (by omega) hl'
  clear hl
  by_cases hbig : (1048576 : Int) < len
  · rw [if_pos hbig] at cZ
    clear h hbig hl'
    go_enter Try.func7, Try.ntmps7
    go_wp2_with fail
    refine (cZ _).mono ?_
    rintro e w' ⟨rfl, rfl⟩
    go_wp2_with fail
    go_ret
    exact ⟨rfl, Below.refl _ _⟩
  rw [if_neg hbig] at cZ
  have hL : len ≤ 1048576 := by omega
  have hpos : ¬ (1048576 : Int) - len < 0 := by omega
  have HP : Hid (Px a (len * 7) g w) := h
  have cT := toShapeS_any a len cap g hL
  have cS := fun a' => specPaint_any a' len len g hL W H
  have cI := fun a' => implPaint_any a' len len g hL W H
  have cE := fun a1 a2 => eqShapeS_any a1 a2 len len len g hL
  have cM := fun b => markShapeS_any b len len g hL
  clear h hbig hl'
  unfold Added at cS cI
  have hsm := @paint_small g len W H
  generalize paintB g len W H = r at *
  have hrn : (if r = true then (W * H).toNat else 0) ≤ 1048576 := by
    split
    · exact hsm ‹_›
    · omega
  clear hsm
  generalize (if r = true then W else 0) = rW at *
  generalize (if r = true then H else 0) = rH at *
  generalize (if r = true then (W * H).toNat else 0) = rN at *
  generalize pict g W len = s at *
  have eqR := fun x y w' h h' => eqImage_any rW rH x y rN rN rN s hrn w' h h'
  go_enter Try.func7, Try.ntmps7
  go_wp2_with fail
  refine (cZ _).mono ?_
  rintro e w' ⟨rfl, rfl⟩
  clear cZ
  go_wp2_with fail
  refine (cT _ HP.out).mono ?_
  rintro e w1 ⟨rfl, hr, hb, hs⟩
  have HS1 := hide ((St.start w').own hb (Ow.of_row hr) (Nat.le_refl _) hs)
  clear hr hb hs
  have pA := (HS1.out.nthO 0 rfl).1.px
  go_wp2_with fail
  refine (cS _ _ pA).mono ?_
  rintro e w2 ⟨a0, b0, rfl, ho, h1, h2, hb⟩
  have HS2 := hide ((HS1.out.own hb ho h1 h2).box rW rH (.slice a0 rN rN) 29)
  clear h1 h2 ho hb HS1 pA cS
  go_wp2_with fail
  refine (cT _ (HP.out.below HS2.out.below)).mono ?_
  rintro e w3 ⟨rfl, hr, hb, hs⟩
  have HS3 := hide (HS2.out.own hb (Ow.of_row hr) (Nat.le_refl _) hs)
  generalize hbx : (w2.alloc (.cells #[.int .i64 rW, .int .i64 rH, .slice a0 rN rN] 29)).heap.size = bx at *
  clear hr hb hs HS2
  have pA := (HS3.out.nthO 0 rfl).1.px
  go_wp2_with fail
  refine (cI _ _ pA).mono ?_
  rintro e w4 ⟨a9, b9, rfl, ho, h1, h2, hb⟩
  have HS4 := hide ((HS3.out.own hb ho h1 h2).box rW rH (.slice a9 rN rN) 29)
  clear h1 h2 ho hb HS3 pA
  obtain ⟨i0, i1, i2⟩ := HS4.out.nth 0 rfl
  obtain ⟨j0, j1, j2⟩ := HS4.out.nth 1 rfl
  have pA := (HS4.out.nthO 0 rfl).1.px
  have pB := (HS4.out.nthO 2 rfl).1.px
  go_wp2_with fail
  refine (eqR _ _ _ pA pB).mono ?_
  rintro e w5 ⟨rfl, hb⟩
  have HS5 := hide (HS4.out.next hb)
  clear HS4 hb i0 i1 i2 j0 j1 j2 pA pB
  go_wp2_with fail
  refine (cT _ (HP.out.below HS5.out.below)).mono ?_
  rintro e w6 ⟨rfl, hr, hb, hs⟩
  have pB := hr.px
  have HS6 := hide (HS5.out.next hb)
  have pA := (HS6.out.nthO 1 rfl).1.px
  clear hr hb hs HS5
  go_wp2_with fail
  refine (cE _ _ _ pA pB).mono ?_
  rintro e w7 ⟨rfl, hb⟩
  have HS7 := hide (HS6.out.next hb)
  clear HS6 hb pA pB
  have hrow : Row bx (len * 7) g w7 := by
    rcases (HS7.out.nthO 1 rfl).1 with h0 | ⟨_, hr⟩
    · intro q hq; omega
    · exact hr
  go_wp2_with fail
  refine (cM _ _ hrow).mono ?_
  rintro e w8 ⟨⟨z, rfl, hz⟩, ⟨f', hr8⟩, hk8⟩
  have HS8 := hide (HS7.out.mark (O1 := [_]) hk8 (Ow.of_row hr8))
  have hz' : ¬ z < 0 := by omega
  clear HS7 hk8 hr8 hrow cM hz
  obtain ⟨i0, i1, i2⟩ := HS8.out.nth 0 rfl
  obtain ⟨j0, j1, j2⟩ := HS8.out.nth 1 rfl
  have pA := (HS8.out.nthO 0 rfl).1.px
  have pB := (HS8.out.nthO 2 rfl).1.px
  go_wp2_with fail
  refine (eqR _ _ _ pA pB).mono ?_
  rintro e w9 ⟨rfl, hb⟩
  have HS9 := hide (HS8.out.next hb)
  clear HS8 hb i0 i1 i2 j0 j1 j2 pA pB
  obtain ⟨i0, i1, i2⟩ := HS9.out.nth 0 rfl
  go_wp2_with fail
  refine (markImage_any rW rH a9 b9 rN rN s 1 (by omega) (by omega) hrn _ (HS9.out.nthO 0 rfl).1 (HS9.out.nthO 0 rfl).2).mono ?_
  rintro e w10 ⟨rfl, ho, hk⟩
  have HS10 := hide (HS9.out.mark (O1 := []) hk ho)
  clear HS9 ho hk i0 i1 i2
  obtain ⟨i0, i1, i2⟩ := HS10.out.nth 0 rfl
  have held := fun w' h hb => heldImage_any rW rH a9 b9 rN rN 1 (by omega) (by omega) hrn w' h hb
  have hq0 : ¬ 1 + (rN : Int) < 0 := by omega
  have hq1 : (1 + (rN : Int) != 1 + (rN : Int)) = false := by simp
  go_wp2_with fail
  refine (held _ (HS10.out.nthO 0 rfl).1 (HS10.out.nthO 0 rfl).2).mono ?_
  rintro e w11 ⟨rfl, hb⟩
  have HS11 := hide (HS10.out.next hb)
  clear HS10 hb i0 i1 i2
  go_wp2_with fail
  refine (cT _ (HP.out.below HS11.out.below)).mono ?_
  rintro e w12 ⟨rfl, hr, hb, hs⟩
  have HS12 := hide (HS11.out.next hb)
  have pA := hr.px
  clear hr hb hs HS11
  go_wp2_with fail
  refine (cI _ _ pA).mono ?_
  rintro e w13 ⟨a1, b1, rfl, ho, h1, h2, hb⟩
  have HS13 := hide ((HS12.out.own hb ho h1 h2).box rW rH (.slice a1 rN rN) 29)
  clear h1 h2 ho hb HS12 pA cI cT
  obtain ⟨i0, i1, i2⟩ := HS13.out.nth 0 rfl
  obtain ⟨j0, j1, j2⟩ := HS13.out.nth 2 rfl
  have pA := (HS13.out.nthO 0 rfl).1.px
  have pB := (HS13.out.nthO 3 rfl).1.px
  go_wp2_with fail
  refine (eqR _ _ _ pA pB).mono ?_
  rintro e w14 ⟨rfl, hb⟩
  have HS14 := hide (HS13.out.next hb)
  clear HS13 hb i0 i1 i2 j0 j1 j2 pA pB
  obtain ⟨i0, i1, i2⟩ := HS14.out.nth 1 rfl
  go_wp2_with fail
  refine (held _ (HS14.out.nthO 1 rfl).1 (HS14.out.nthO 1 rfl).2).mono ?_
  rintro e w15 ⟨rfl, hb⟩
  have HB := hide (HS14.out.next hb).below
  clear HS14 hb i0 i1 i2 held
  go_wp2_with fail
  go_ret
  exact ⟨rfl, HB.out⟩

end Go.Proofs.Ytadeajdjjcelhaa

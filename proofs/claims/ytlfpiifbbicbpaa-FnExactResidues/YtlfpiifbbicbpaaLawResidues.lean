/- The law on Residues, walked. -/
import Derived.Test.YtlfpiifbbicbpaaRsd
import Derived.Deep.RegionHeld
import Derived.Deep.DeepCutAuto
namespace Go.Proofs.Ytlfpiifbbicbpaa
open Go.RowKit

set_option maxRecDepth 100000 in
set_option maxHeartbeats 1000000 in
theorem fnExactResidues_walk (W H : Int) (a : Option Addr) (len cap : Nat) (f : Nat → Int) (hl : len ≤ maxLen) (w : World) (h : Px a len f w) :
    Calls Try.prog 5 #[im W H a len cap] w fun e w' => e = .returned (.bool true) ∧ Below w.heap.size w w' := by
  unfold maxLen at hl
  have hz := szImage_any W H a len cap 1048576 (by omega) (by omega) (by omega)
  have HS0 := hide ((St.start w).box [.int .i64 W, .int .i64 H, .slice a len cap] 29)
  have HP := hide h
  clear h
  by_cases hbig : (1048576 : Int) < len
  · rw [if_pos hbig] at hz
    clear hbig hl
    go_enter Try.func5, Try.ntmps5
    go_wp2_with fail
    refine (hz _).mono ?_
    rintro e w1 ⟨rfl, hb⟩
    have HB := hide (HS0.out.next hb).below
    clear hb hz
    go_wp2_with fail
    go_ret
    exact ⟨rfl, HB.out⟩
  rw [if_neg hbig] at hz
  have hL : len ≤ 1048576 := by omega
  have hn : ¬ 1048576 - (len : Int) < 0 := by omega
  have cT := fun w' h => toImage_any W H a len cap f hL w' h
  have cS := fun b w' h => specResidues_any W H (some ⟨b, 0, none⟩) len len f hL w' h
  have cI := fun b w' h => implResidues_any W H (some ⟨b, 0, none⟩) len len f hL w' h
  have cA := fun b b' w' h h' => eqImage_any W H (some ⟨b, 0, none⟩) (some ⟨b', 0, none⟩) len len len f hL w' h h'
  have cM := fun b b' => markImage_any W H (some ⟨b, 0, none⟩) b' len len f 1 (by omega) (by omega) hL
  unfold ImR at cS cI
  have hrn : (if okB W H len f = true then len else 0) ≤ 1048576 := by split <;> omega
  clear hl hbig
  generalize (if okB W H len f = true then W else 0) = rW at *
  generalize (if okB W H len f = true then H else 0) = rH at *
  generalize (if okB W H len f = true then len else 0) = rN at *
  generalize resF f = s at *
  have cE := fun x y c1 c2 w' h h' => eqImage_any rW rH x y rN c1 c2 s hrn w' h h'
  have cN := fun x b c1 => markImage_any rW rH x b rN c1 s 1 (by omega) (by omega) hrn
  have cH := fun x b c1 => heldImage_any rW rH x b rN c1 1 (by omega) (by omega) hrn
  have q0 : ¬ 1 + (rN : Int) < 0 := by omega
  have q1 : (1 + (rN : Int) != 1 + (rN : Int)) = false := by simp
  have q2 : ¬ 1 + (len : Int) < 0 := by omega
  go_enter Try.func5, Try.ntmps5
  go_wp2_with fail
  refine (hz _).mono ?_
  rintro e w1 ⟨rfl, hb⟩
  have HS1 := hide (HS0.out.next hb)
  obtain ⟨i0, i1, i2⟩ := HS1.out.im3 0 rfl
  clear hb hz HS0
  go_wp2_with fail
  refine (cT _ (HP.out.below HS1.out.below)).mono ?_
  rintro e w2 ⟨b1, rfl, -, -, hr, hb⟩
  have HS2 := hide (HS1.out.next hb)
  clear HS1 hb i0 i1 i2
  go_wp2_with fail
  refine (cS _ _ hr.px).mono ?_
  rintro e w3 ⟨a0, c0, b0, rfl, ho, h1, hb⟩
  have HS3 := hide ((HS2.out.own hb ho.v h1).box [.int .i64 rW, .int .i64 rH, .slice a0 rN c0] 32)
  generalize hxw4 : w3.alloc (.cells [.int .i64 rW, .int .i64 rH, .slice a0 rN c0].toArray 32) = w4 at HS3
  have hyw4 : w3.alloc (.cells #[.int .i64 rW, .int .i64 rH, .slice a0 rN c0] 32) = w4 := hxw4
  clear hxw4
  clear HS2 hb hr ho h1 cS
  obtain ⟨i0, i1, i2⟩ := HS3.out.im3 1 rfl
  go_wp2_with fail
  refine (cT _ (HP.out.below HS3.out.below)).mono ?_
  rintro e w5 ⟨b2, rfl, h2, -, hr, hb⟩
  have HS5 := hide ((HS3.out.own hb hr.v (.inr h2)).box [.int .i64 W, .int .i64 H, .slice (some ⟨b2, 0, none⟩) len len] 32)
  generalize hxw6 : w5.alloc (.cells [.int .i64 W, .int .i64 H, .slice (some ⟨b2, 0, none⟩) len len].toArray 32) = w6 at HS5
  have hyw6 : w5.alloc (.cells #[.int .i64 W, .int .i64 H, .slice (some ⟨b2, 0, none⟩) len len] 32) = w6 := hxw6
  clear hxw6
  clear HS3 hb hr h2 i0 i1 i2 hyw4
  obtain ⟨j0, j1, j2⟩ := HS5.out.im3 0 rfl
  have pA := (HS5.out.nthO 0 rfl).px
  go_wp2_with fail
  refine (cI _ _ pA).mono ?_
  rintro e w7 ⟨a9, c9, b9, rfl, ho, h1, hb⟩
  have HS7 := hide ((HS5.out.own hb ho.v h1).box [.int .i64 rW, .int .i64 rH, .slice a9 rN c9] 32)
  generalize hxw8 : w7.alloc (.cells [.int .i64 rW, .int .i64 rH, .slice a9 rN c9].toArray 32) = w8 at HS7
  have hyw8 : w7.alloc (.cells #[.int .i64 rW, .int .i64 rH, .slice a9 rN c9] 32) = w8 := hxw8
  clear hxw8
  clear HS5 hb ho h1 j0 j1 j2 pA hyw6
  obtain ⟨i0, i1, i2⟩ := HS7.out.im3 0 rfl
  obtain ⟨j0, j1, j2⟩ := HS7.out.im3 2 rfl
  have pA := (HS7.out.nthO 0 rfl).px
  have pB := (HS7.out.nthO 2 rfl).px
  go_wp2_with fail
  refine (cE _ _ _ _ _ pA pB).mono ?_
  rintro e w9 ⟨rfl, hb⟩
  have HS9 := hide (HS7.out.next hb)
  clear HS7 hb i0 i1 i2 j0 j1 j2 pA pB hyw8
  obtain ⟨i0, i1, i2⟩ := HS9.out.im3 3 rfl
  obtain ⟨j0, j1, j2⟩ := HS9.out.im3 1 rfl
  go_upto_region 10 with fail
  go_region_with (first
    | (go_at_call 15; (with_reducible refine (cT _ (HP.out.below HS9.out.drew.below)).mono ?_); rintro e w10 ⟨b3, rfl, -, -, hr, hb⟩; have HS10 := hide (HS9.out.drew.next hb); obtain ⟨k0, k1, k2⟩ := HS10.out.im3 1 rfl)
    | (go_at_call 17; (with_reducible refine (cA _ _ _ (HS10.out.nthO 1 rfl).px hr.px).mono ?_); rintro e w11 ⟨rfl, hb11⟩))
  all_goals
    have HS11 := hide (HS10.out.next hb11)
    clear hb hr hb11 HS10 HS9 k0 k1 k2 i0 i1 i2 j0 j1 j2
    obtain ⟨j0, j1, j2⟩ := HS11.out.im3 1 rfl
    go_wp2_with fail
    refine (cM _ _ _ (HS11.out.nthO 1 rfl).bk.i).mono ?_
    rintro e w12 ⟨rfl, ho, hk⟩
    have HS12 := hide (HS11.out.mark (O1 := [_]) hk ho.v)
    clear HS11 ho hk j0 j1 j2 cM
    obtain ⟨i0, i1, i2⟩ := HS12.out.im3 0 rfl
    obtain ⟨j0, j1, j2⟩ := HS12.out.im3 2 rfl
    have pA := (HS12.out.nthO 0 rfl).px
    have pB := (HS12.out.nthO 2 rfl).px
    go_wp2_with fail
    refine (cE _ _ _ _ _ pA pB).mono ?_
    rintro e w13 ⟨rfl, hb⟩
    have HS13 := hide (HS12.out.next hb)
    clear HS12 hb i0 i1 i2 j0 j1 j2 pA pB
    obtain ⟨i0, i1, i2⟩ := HS13.out.im3 0 rfl
    go_wp2_with fail
    refine (cN _ _ _ _ (HS13.out.nthO 0 rfl).bk.i).mono ?_
    rintro e w14 ⟨rfl, ho, hk⟩
    have HS14 := hide (HS13.out.mark (O1 := []) hk ho.v)
    clear HS13 ho hk i0 i1 i2
    obtain ⟨i0, i1, i2⟩ := HS14.out.im3 0 rfl
    go_wp2_with fail
    refine (cH _ _ _ _ (HS14.out.nthO 0 rfl).i).mono ?_
    rintro e w15 ⟨rfl, hb⟩
    have HS15 := hide (HS14.out.next hb)
    clear HS14 hb i0 i1 i2
    obtain ⟨i0, i1, i2⟩ := HS15.out.im3 3 rfl
    go_wp2_with fail
    refine (cT _ (HP.out.below HS15.out.below)).mono ?_
    rintro e w16 ⟨b4, rfl, -, -, hr, hb⟩
    have HS16 := hide (HS15.out.next hb)
    have pA := hr.px
    clear HS15 hb hr i0 i1 i2
    go_wp2_with fail
    refine (cI _ _ pA).mono ?_
    rintro e w17 ⟨a1, c1, b5, rfl, ho, h1, hb⟩
    have HS17 := hide ((HS16.out.own hb ho.v h1).box [.int .i64 rW, .int .i64 rH, .slice a1 rN c1] 32)
    generalize hxw18 : w17.alloc (.cells [.int .i64 rW, .int .i64 rH, .slice a1 rN c1].toArray 32) = w18 at HS17
    have hyw18 : w17.alloc (.cells #[.int .i64 rW, .int .i64 rH, .slice a1 rN c1] 32) = w18 := hxw18
    clear hxw18
    clear HS16 hb ho h1 pA
    obtain ⟨i0, i1, i2⟩ := HS17.out.im3 0 rfl
    obtain ⟨j0, j1, j2⟩ := HS17.out.im3 3 rfl
    have pA := (HS17.out.nthO 0 rfl).px
    have pB := (HS17.out.nthO 3 rfl).px
    go_wp2_with fail
    refine (cE _ _ _ _ _ pA pB).mono ?_
    rintro e w19 ⟨rfl, hb⟩
    have HS19 := hide (HS17.out.next hb)
    clear HS17 hb i0 i1 i2 j0 j1 j2 pA pB hyw18
    obtain ⟨i0, i1, i2⟩ := HS19.out.im3 1 rfl
    go_wp2_with fail
    refine (cH _ _ _ _ (HS19.out.nthO 1 rfl).i).mono ?_
    rintro e w20 ⟨rfl, hb⟩
    have HB := hide (HS19.out.next hb).below
    clear HS19 hb i0 i1 i2
    go_wp2_with fail
    go_ret
    exact ⟨rfl, HB.out⟩

end Go.Proofs.Ytlfpiifbbicbpaa

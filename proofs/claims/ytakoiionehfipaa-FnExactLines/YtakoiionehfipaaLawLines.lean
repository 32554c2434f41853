/- The law on Lines, walked. -/
import Derived.Test.YtakoiionehfipaaLni
import Derived.Deep.RegionHeld
import Derived.Deep.DeepCutAuto
namespace Go.Proofs.Ytakoiionehfipaa
open Go.RowKit

theorem lnN_le {W H : Int} {n : Nat} {f : Nat → Int} : lnN W H n f ≤ 1048576 := by
  unfold lnN
  split
  · rename_i h
    obtain ⟨p, hW, _, _, p1, p2, _⟩ := toneB_parts h
    subst hW
    rw [Int.toNat_natCast]
    exact Nat.le_trans (Nat.mul_le_mul (show p + 1 ≤ 32 by omega) p2) (by omega)
  · omega

set_option maxRecDepth 100000 in
set_option maxHeartbeats 4000000 in
theorem fnExactLines_walk (W H : Int) (a : Option Addr) (len cap : Nat) (f : Nat → Int) (hl : len ≤ maxLen) (w : World) (h : Px a len f w) :
    Calls Try.prog 7 #[im W H a len cap] w fun e w' => e = .returned (.bool true) ∧ Below w.heap.size w w' := by
  unfold maxLen at hl
  have hz := szImage_any W H a len cap 1048576 (by omega) (by omega) (by omega)
  have HS0 := hide ((St.start w).box [.int .i64 W, .int .i64 H, .slice a len cap] 55)
  have HP := hide h
  clear h
  by_cases hbig : (1048576 : Int) < len
  · rw [if_pos hbig] at hz
    clear hbig hl
    go_enter Try.func7, Try.ntmps7
    go_wp2_with fail
    refine (hz _).mono ?_
    rintro e w1 ⟨rfl, hb⟩
    have HB := hide (HS0.out.next hb).below
    clear hb hz
    go_wp2_with fail
    go_ret
    exact ⟨rfl, HB.out⟩
  rw [if_neg hbig] at hz
  have hL : len ≤ 1048576 := by omega
  have hn : ¬ 1048576 - (len : Int) < 0 := by omega
  have cT := fun w' h => toImage_any W H a len cap f hL w' h
  have cS := fun b w' h => specLines_any W H (some ⟨b, 0, none⟩) len len f hL w' h
  have cI := fun b w' h => implLines_any W H (some ⟨b, 0, none⟩) len len f hL w' h
  have cA := fun b b' w' h h' => eqImage_any W H (some ⟨b, 0, none⟩) (some ⟨b', 0, none⟩) len len len f hL w' h h'
  have cM := fun b b' => markImage_any W H (some ⟨b, 0, none⟩) b' len len f 1 (by omega) (by omega) hL
  unfold LsR at cS cI
  have hrn : lnN W H len f ≤ 1048576 := lnN_le
  clear hl hbig
  generalize lnN W H len f = rN at *
  generalize lnF W f = s at *
  have cE := fun a1 a2 c1 c2 => eqInts_b a1 a2 rN c1 c2 s hrn
  have cN := fun a' b c1 => mark_any a' b rN c1 s 1 (by omega) (by omega) hrn
  have cH := fun a' b c1 => held_any a' b rN c1 1 (by omega) (by omega) hrn
  have q0 : ¬ 1 + (rN : Int) < 0 := by omega
  have q1 : (1 + (rN : Int) != 1 + (rN : Int)) = false := by simp
  have q2 : ¬ 1 + (len : Int) < 0 := by omega
  go_enter Try.func7, Try.ntmps7
  go_wp2_with fail
  refine (hz _).mono ?_
  rintro e w1 ⟨rfl, hb⟩
  have HS1 := hide (HS0.out.next hb)
  obtain ⟨i0, i1, i2⟩ := HS1.out.im3 0 rfl
  clear hb hz HS0
  go_wp2_with fail
  refine (cT _ (HP.out.below HS1.out.below)).mono ?_
  rintro e w2 ⟨b1, rfl, -, -, hr, hb⟩
  have HS2 := hide (HS1.out.next hb)
  clear HS1 hb i0 i1 i2
  go_wp2_with fail
  refine (cS _ _ hr.px).mono ?_
  rintro e w3 ⟨a0, c0, b0, rfl, ho, h1, hb⟩
  have HS3 := hide (HS2.out.own hb ho.v h1)
  clear HS2 hb hr ho h1 cS
  obtain ⟨i0, i1, i2⟩ := HS3.out.im3 0 rfl
  go_wp2_with fail
  refine (cT _ (HP.out.below HS3.out.below)).mono ?_
  rintro e w5 ⟨b2, rfl, h2, -, hr, hb⟩
  have HS5 := hide ((HS3.out.own hb hr.v (.inr h2)).box [.int .i64 W, .int .i64 H, .slice (some ⟨b2, 0, none⟩) len len] 26)
  generalize hxw6 : w5.alloc (.cells [.int .i64 W, .int .i64 H, .slice (some ⟨b2, 0, none⟩) len len].toArray 26) = w6 at HS5
  have hyw6 : w5.alloc (.cells #[.int .i64 W, .int .i64 H, .slice (some ⟨b2, 0, none⟩) len len] 26) = w6 := hxw6
  clear hxw6
  clear HS3 hb hr h2 i0 i1 i2
  obtain ⟨j0, j1, j2⟩ := HS5.out.im3 0 rfl
  have pA := (HS5.out.nthO 0 rfl).px
  go_wp2_with fail
  refine (cI _ _ pA).mono ?_
  rintro e w7 ⟨a9, c9, b9, rfl, ho, h1, hb⟩
  have HS7 := hide (HS5.out.own hb ho.v h1)
  clear HS5 hb ho h1 j0 j1 j2 pA hyw6
  have pA := (HS7.out.nthO 0 rfl).px
  have pB := (HS7.out.nthO 2 rfl).px
  go_wp2_with fail
  refine (cE _ _ _ _ _ pA pB).mono ?_
  rintro e w9 ⟨rfl, hb⟩
  have HS9 := hide (HS7.out.next hb)
  clear HS7 hb pA pB
  obtain ⟨i0, i1, i2⟩ := HS9.out.im3 1 rfl
  obtain ⟨j0, j1, j2⟩ := HS9.out.im3 0 rfl
  go_upto_region 10 with fail
  go_region_with (first
    | (go_at_call 36; (with_reducible refine (cT _ (HP.out.below HS9.out.drew.below)).mono ?_); rintro e w10 ⟨b3, rfl, -, -, hr, hb⟩; have HS10 := hide (HS9.out.drew.next hb); obtain ⟨k0, k1, k2⟩ := HS10.out.im3 0 rfl)
    | (go_at_call 38; (with_reducible refine (cA _ _ _ (HS10.out.nthO 1 rfl).px hr.px).mono ?_); rintro e w11 ⟨rfl, hb11⟩))
  all_goals
    have HS11 := hide (HS10.out.next hb11)
    clear hb hr hb11 HS10 HS9 k0 k1 k2 i0 i1 i2 j0 j1 j2
    obtain ⟨j0, j1, j2⟩ := HS11.out.im3 0 rfl
    go_wp2_with fail
    refine (cM _ _ _ (HS11.out.nthO 1 rfl).bk.i).mono ?_
    rintro e w12 ⟨rfl, ho, hk⟩
    have HS12 := hide (HS11.out.mark (O1 := [_]) hk ho.v)
    clear HS11 ho hk j0 j1 j2 cM
    have pA := (HS12.out.nthO 0 rfl).px
    have pB := (HS12.out.nthO 2 rfl).px
    go_wp2_with fail
    refine (cE _ _ _ _ _ pA pB).mono ?_
    rintro e w13 ⟨rfl, hb⟩
    have HS13 := hide (HS12.out.next hb)
    clear HS12 hb pA pB
    go_wp2_with fail
    refine (cN _ _ _ _ (HS13.out.nthO 0 rfl).bk.i).mono ?_
    rintro e w14 ⟨rfl, ho, hk, -⟩
    have HS14 := hide (HS13.out.mark (O1 := []) hk ho.v)
    clear HS13 ho hk
    go_wp2_with fail
    refine (cH _ _ _ _ (HS14.out.nthO 0 rfl).i).mono ?_
    rintro e w15 ⟨rfl, rfl⟩
    obtain ⟨i0, i1, i2⟩ := HS14.out.im3 1 rfl
    go_wp2_with fail
    refine (cT _ (HP.out.below HS14.out.below)).mono ?_
    rintro e w16 ⟨b4, rfl, -, -, hr, hb⟩
    have HS16 := hide (HS14.out.next hb)
    have pA := hr.px
    clear HS14 hb hr i0 i1 i2
    go_wp2_with fail
    refine (cI _ _ pA).mono ?_
    rintro e w17 ⟨a1, c1, b5, rfl, ho, h1, hb⟩
    have HS17 := hide (HS16.out.own hb ho.v h1)
    clear HS16 hb ho h1 pA
    have pA := (HS17.out.nthO 0 rfl).px
    have pB := (HS17.out.nthO 3 rfl).px
    go_wp2_with fail
    refine (cE _ _ _ _ _ pA pB).mono ?_
    rintro e w19 ⟨rfl, hb⟩
    have HS19 := hide (HS17.out.next hb)
    clear HS17 hb pA pB
    go_wp2_with fail
    refine (cH _ _ _ _ (HS19.out.nthO 1 rfl).i).mono ?_
    rintro e w20 ⟨rfl, rfl⟩
    have HB := hide HS19.out.below
    clear HS19
    go_wp2_with fail
    go_ret
    exact ⟨rfl, HB.out⟩

end Go.Proofs.Ytakoiionehfipaa

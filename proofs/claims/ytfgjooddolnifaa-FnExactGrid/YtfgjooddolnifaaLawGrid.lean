/- The law on Grid, walked. -/
import Derived.Test.YtfgjooddolnifaaGrs
namespace Go.Proofs.Ytfgjooddolnifaa
open Ieee Go.RowKit

set_option maxRecDepth 100000 in
set_option maxHeartbeats 1000000 in
theorem fnExactGrid_walk (n : Int) (a : Option Addr) (len cap : Nat) (A : Nat → Int) (F : Nat → Nat) (hA : ∀ k, -9223372036854775808 ≤ A k ∧ A k ≤ 9223372036854775807) (hl : len ≤ maxLen) (w : World) (h : PxV a (len * 3) (spv A F) w) :
    Calls Try.prog 7 #[.int .i64 n, .slice a len cap] w fun e w' => e = .returned (.bool true) ∧ Below w.heap.size w w' := by
  unfold maxLen at hl
  have hz := szSpotS_any a len cap 1048576 (by omega) (by omega) (by omega)
  by_cases hbig : (1048576 : Int) < len
  · rw [if_pos hbig] at hz
    clear h hl
    go_enter Try.func7, Try.ntmps7
    go_wp2_with fail
    refine (hz _).mono ?_
    rintro e w' ⟨rfl, rfl⟩
    go_wp2_with fail
    go_ret
    exact ⟨rfl, Below.refl _ _⟩
  rw [if_neg hbig] at hz
  have hL : len ≤ 1048576 := by omega
  have hL2 : ¬ 1048576 - (len : Int) < 0 := by omega
  have HP := hide h
  have cT := toSpotS_any a len cap A F hL
  have cS := fun a' w' => specGrid_any n a' len len A F hA hL w'
  have cI := fun a' w' => implGrid_any n a' len len A F hA hL w'
  have cA := fun a1 a2 => eqSpotS_any a1 a2 len len len A F hL
  have cM := fun a' b => markSpotS_any a' b len len A F 1 (by omega) (by omega) hL
  unfold LsP at cS cI
  have hrn : gridN n len ≤ 1048576 := by (unfold gridN; split; (rename_i h9; have h8 := h9.1; unfold inB at h8; simp at h8; omega); omega)
  have hP : ∀ k r r', gridP n A F len k r → gridP n A F len k r' → same r r' := fun k r r' h1 h2 => gridP_same h1 h2
  clear h hl hbig
  have cE := fun a1 a2 c1 c2 F1 G1 hs => eqCxS_any a1 a2 (gridN n len) c1 c2 F1 G1 hrn hs
  have cN := fun a' b c1 F1 => markCxS_any a' b (gridN n len) c1 F1 1 (by omega) (by omega) hrn
  have cH := fun a' b c1 => heldCxS_any a' b (gridN n len) c1 1 (by omega) (by omega) hrn
  have q0 : ¬ 1 + ((gridN n len * 2 : Nat) : Int) < 0 := by omega
  have q1 : (1 + ((gridN n len * 2 : Nat) : Int) != 1 + ((gridN n len * 2 : Nat) : Int)) = false := by simp
  have q2 : ¬ 1 + ((len * 3 : Nat) : Int) < 0 := by omega
  generalize len * 3 = CA at *
  generalize gridP n A F len = P at *
  generalize gridN n len * 2 = rC at *
  generalize gridN n len = rN at *
  go_enter Try.func7, Try.ntmps7
  go_wp2_with fail
  refine (hz _).mono ?_
  rintro e wz ⟨rfl, rfl⟩
  clear hz
  go_wp2_with fail
  refine (cT _ HP.out).mono ?_
  rintro e w1 ⟨rfl, hr, hb, hs⟩
  have HS1 := hide ((St.start wz).own hb hr.ow (.inr (Nat.le_refl _)))
  clear hr hb hs
  have pA := (HS1.out.nthO 0 rfl).pxv
  go_wp2_with fail
  refine (cS _ _ pA).mono ?_
  rintro e w2 ⟨a0, c0, b0, r0, rfl, ho, h1, hb, hp0⟩
  have HS2 := hide (HS1.out.own hb ho h1)
  have HP0 := hide hp0
  clear h1 ho hb HS1 pA cS hp0
  go_wp2_with fail
  refine (cT _ (HP.out.below HS2.out.below)).mono ?_
  rintro e w3 ⟨rfl, hr, hb, hs⟩
  have HS3 := hide (HS2.out.own hb hr.ow (.inr (Nat.le_refl _)))
  generalize hbx : w2.heap.size = bx at *
  clear hr hb hs HS2
  have pA := (HS3.out.nthO 0 rfl).pxv
  go_wp2_with fail
  refine (cI _ _ pA).mono ?_
  rintro e w4 ⟨a9, c9, b9, r9, rfl, ho, h1, hb, hp9⟩
  have HS4 := hide (HS3.out.own hb ho h1)
  have HR9 := hide (fun k hk => hP k _ _ (hp9 k hk) (HP0.out k hk))
  clear h1 ho hb HS3 pA hp9
  have pA := (HS4.out.nthO 0 rfl).pxv
  have pB := (HS4.out.nthO 2 rfl).pxv
  go_wp2_with fail
  refine (cE _ _ _ _ _ _ HR9.out _ pA pB).mono ?_
  rintro e w5 ⟨rfl, hb⟩
  have HS5 := hide (HS4.out.next hb)
  clear HS4 hb pA pB
  go_wp2_with fail
  refine (cT _ (HP.out.below HS5.out.below)).mono ?_
  rintro e w6 ⟨rfl, hr, hb, hs⟩
  have pB := hr.ow.pxv
  have HS6 := hide (HS5.out.next hb)
  have pA := (HS6.out.nthO 1 rfl).pxv
  clear hr hb hs HS5
  go_wp2_with fail
  refine (cA _ _ _ pA pB).mono ?_
  rintro e w7 ⟨rfl, hb⟩
  have HS7 := hide (HS6.out.next hb)
  clear HS6 hb pA pB
  go_wp2_with fail
  refine (cM _ _ _ (HS7.out.nthO 1 rfl).bk).mono ?_
  rintro e w8 ⟨rfl, ho, hk⟩
  have HS8 := hide (HS7.out.mark (O1 := [_]) hk ho)
  clear HS7 hk ho cM
  have pA := (HS8.out.nthO 0 rfl).pxv
  have pB := (HS8.out.nthO 2 rfl).pxv
  go_wp2_with fail
  refine (cE _ _ _ _ _ _ HR9.out _ pA pB).mono ?_
  rintro e w9 ⟨rfl, hb⟩
  have HS9 := hide (HS8.out.next hb)
  clear HS8 hb pA pB HR9
  go_wp2_with fail
  refine (cN _ _ _ _ _ (HS9.out.nthO 0 rfl).bk).mono ?_
  rintro e w10 ⟨rfl, ho, hk⟩
  have HS10 := hide (HS9.out.mark (O1 := []) hk ho)
  clear HS9 ho hk
  go_wp2_with fail
  refine (cH _ _ _ _ (HS10.out.nthO 0 rfl)).mono ?_
  rintro e w11 ⟨rfl, rfl⟩
  go_wp2_with fail
  refine (cT _ (HP.out.below HS10.out.below)).mono ?_
  rintro e w12 ⟨rfl, hr, hb, hs⟩
  have HS12 := hide (HS10.out.next hb)
  have pA := hr.ow.pxv
  clear hr hb hs HS10
  go_wp2_with fail
  refine (cI _ _ pA).mono ?_
  rintro e w13 ⟨a1, c1, b1, r1, rfl, ho, h1, hb, hp1⟩
  have HS13 := hide (HS12.out.own hb ho h1)
  have HR1 := hide (fun k hk => hP k _ _ (hp1 k hk) (HP0.out k hk))
  clear h1 ho hb HS12 pA cI cT hp1
  have pA := (HS13.out.nthO 0 rfl).pxv
  have pB := (HS13.out.nthO 3 rfl).pxv
  go_wp2_with fail
  refine (cE _ _ _ _ _ _ HR1.out _ pA pB).mono ?_
  rintro e w14 ⟨rfl, hb⟩
  have HS14 := hide (HS13.out.next hb)
  clear HS13 hb pA pB
  go_wp2_with fail
  refine (cH _ _ _ _ (HS14.out.nthO 1 rfl)).mono ?_
  rintro e w15 ⟨rfl, rfl⟩
  have HB := hide HS14.out.below
  clear HS14
  go_wp2_with fail
  go_ret
  exact ⟨rfl, HB.out⟩

end Go.Proofs.Ytfgjooddolnifaa

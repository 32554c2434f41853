/- The law on FromLines, walked. -/
import Derived.Test.YtakoiionehfipaaFrs
namespace Go.Proofs.Ytakoiionehfipaa
open Go.RowKit

theorem frN_le {m : Nat} {g : Nat → Int} : frN m g ≤ 1048576 := by
  unfold frN
  split
  · rename_i h
    unfold frB at h
    simp only [Bool.and_eq_true, bne_iff_ne, ne_eq] at h
    obtain ⟨p, _, _, _, hpP, _, p31, _⟩ := sdv_pos (l6sV_pos h.1).2.1
    rw [hpP]
    exact Nat.le_trans (Nat.mul_le_mul p31 p31) (by omega)
  · omega

set_option maxRecDepth 100000 in
set_option maxHeartbeats 4000000 in
theorem fnExactFromLines_walk (a : Option Addr) (len cap : Nat) (f : Nat → Int) (hl : len ≤ maxLen) (w : World) (h : Px a len f w) :
    Calls Try.prog 9 #[.slice a len cap] w fun e w' => e = .returned (.bool true) ∧ Below w.heap.size w w' := by
  unfold maxLen at hl
  have HP := hide h
  clear h
  by_cases hbig : (1048576 : Int) < len
  · clear hl
    go_enter Try.func9, Try.ntmps9
    go_wp2_with fail
    go_ret
    exact ⟨rfl, Below.refl _ _⟩
  have hL : len ≤ 1048576 := by omega
  have cT := fun w' h => toInts_any a len cap f hL w' h
  have cS := fun a' w' => specFromLines_any a' len len f hL w'
  have cI := fun a' w' => implFromLines_any a' len len f hL (Nat.le_refl _) w'
  have cA := fun a1 a2 => eqInts_b a1 a2 len len len f hL
  have cM := fun a' b => mark_any a' b len len f 1 (by omega) (by omega) hL
  unfold ImRB at cS cI
  have hrn : frN len f ≤ 1048576 := frN_le
  clear hl
  generalize frW len f = rW at *
  generalize frN len f = rN at *
  generalize frB len f = rB at *
  generalize frX (frP len) f = s at *
  have qc : (rB != rB) = false := by simp
  have cE := fun x y c1 c2 w' h h' => eqImage_any rW rW x y rN c1 c2 s hrn w' h h'
  have cN := fun x b c1 => markImage_any rW rW x b rN c1 s 1 (by omega) (by omega) hrn
  have cH := fun x b c1 => heldImage_any rW rW x b rN c1 1 (by omega) (by omega) hrn
  have q0 : ¬ 1 + (rN : Int) < 0 := by omega
  have q1 : (1 + (rN : Int) != 1 + (rN : Int)) = false := by simp
  have q2 : ¬ 1 + (len : Int) < 0 := by omega
  go_enter Try.func9, Try.ntmps9
  go_wp2_with fail
  refine (cT _ HP.out).mono ?_
  rintro e w1 ⟨rfl, hr, hb, hs⟩
  have HS1 := hide ((St.start w).own hb hr.v (.inr (Nat.le_refl _)))
  clear hr hb hs
  have pA := (HS1.out.nthO 0 rfl).px
  go_wp2_with fail
  refine (cS _ _ pA).mono ?_
  rintro e w2 ⟨a0, c0, b0, rfl, ho, h1, hb⟩
  have HS2 := hide ((HS1.out.own hb ho.v h1).box [.int .i64 rW, .int .i64 rW, .slice a0 rN c0] 26)
  generalize hx3 : w2.alloc (.cells [.int .i64 rW, .int .i64 rW, .slice a0 rN c0].toArray 26) = w3 at HS2
  have hy3 : w2.alloc (.cells #[.int .i64 rW, .int .i64 rW, .slice a0 rN c0] 26) = w3 := hx3
  clear h1 ho hb HS1 pA cS hx3
  go_wp2_with fail
  refine (cT _ (HP.out.below HS2.out.below)).mono ?_
  rintro e w4 ⟨rfl, hr, hb, hs⟩
  have HS4 := hide (HS2.out.own hb hr.v (.inr (Nat.le_refl _)))
  clear hr hb hs HS2 hy3
  generalize w3.heap.size = bx at *
  have pA := (HS4.out.nthO 0 rfl).px
  go_wp2_with fail
  refine (cI _ _ pA).mono ?_
  rintro e w5 ⟨a9, c9, b9, rfl, ho, h1, hb⟩
  have HS5 := hide ((HS4.out.own hb ho.v h1).box [.int .i64 rW, .int .i64 rW, .slice a9 rN c9] 26)
  generalize hx6 : w5.alloc (.cells [.int .i64 rW, .int .i64 rW, .slice a9 rN c9].toArray 26) = w6 at HS5
  have hy6 : w5.alloc (.cells #[.int .i64 rW, .int .i64 rW, .slice a9 rN c9] 26) = w6 := hx6
  clear h1 ho hb HS4 pA hx6
  obtain ⟨i0, i1, i2⟩ := HS5.out.im3 0 rfl
  obtain ⟨j0, j1, j2⟩ := HS5.out.im3 1 rfl
  have pA := (HS5.out.nthO 0 rfl).px
  have pB := (HS5.out.nthO 2 rfl).px
  go_wp2_with fail
  refine (cE _ _ _ _ _ pA pB).mono ?_
  rintro e w7 ⟨rfl, hb⟩
  have HS7 := hide (HS5.out.next hb)
  clear HS5 hb i0 i1 i2 j0 j1 j2 pA pB hy6
  go_wp2_with fail
  refine (cT _ (HP.out.below HS7.out.below)).mono ?_
  rintro e w8 ⟨rfl, hr, hb, hs⟩
  have pB := hr.px
  have HS8 := hide (HS7.out.next hb)
  have pA := (HS8.out.nthO 1 rfl).px
  clear hr hb hs HS7
  go_wp2_with fail
  refine (cA _ _ _ pA pB).mono ?_
  rintro e w9 ⟨rfl, hb⟩
  have HS9 := hide (HS8.out.next hb)
  clear HS8 hb pA pB
  go_wp2_with fail
  refine (cM _ _ _ (HS9.out.nthO 1 rfl).bk.i).mono ?_
  rintro e w10 ⟨rfl, ho, hk, -⟩
  have HS10 := hide (HS9.out.mark (O1 := [_]) hk ho.v)
  clear HS9 hk ho cM
  obtain ⟨i0, i1, i2⟩ := HS10.out.im3 0 rfl
  obtain ⟨j0, j1, j2⟩ := HS10.out.im3 1 rfl
  have pA := (HS10.out.nthO 0 rfl).px
  have pB := (HS10.out.nthO 2 rfl).px
  go_wp2_with fail
  refine (cE _ _ _ _ _ pA pB).mono ?_
  rintro e w11 ⟨rfl, hb⟩
  have HS11 := hide (HS10.out.next hb)
  clear HS10 hb i0 i1 i2 j0 j1 j2 pA pB
  obtain ⟨i0, i1, i2⟩ := HS11.out.im3 0 rfl
  go_wp2_with fail
  refine (cN _ _ _ _ (HS11.out.nthO 0 rfl).bk.i).mono ?_
  rintro e w12 ⟨rfl, ho, hk⟩
  have HS12 := hide (HS11.out.mark (O1 := []) hk ho.v)
  clear HS11 ho hk i0 i1 i2
  obtain ⟨i0, i1, i2⟩ := HS12.out.im3 0 rfl
  go_wp2_with fail
  refine (cH _ _ _ _ (HS12.out.nthO 0 rfl).i).mono ?_
  rintro e w13 ⟨rfl, hb⟩
  have HS13 := hide (HS12.out.next hb)
  clear HS12 hb i0 i1 i2
  go_wp2_with fail
  refine (cT _ (HP.out.below HS13.out.below)).mono ?_
  rintro e w14 ⟨rfl, hr, hb, hs⟩
  have HS14 := hide (HS13.out.next hb)
  have pA := hr.px
  clear hr hb hs HS13
  go_wp2_with fail
  refine (cI _ _ pA).mono ?_
  rintro e w15 ⟨a1, c1, b1, rfl, ho, h1, hb⟩
  have HS15 := hide ((HS14.out.own hb ho.v h1).box [.int .i64 rW, .int .i64 rW, .slice a1 rN c1] 26)
  generalize hx16 : w15.alloc (.cells [.int .i64 rW, .int .i64 rW, .slice a1 rN c1].toArray 26) = w16 at HS15
  have hy16 : w15.alloc (.cells #[.int .i64 rW, .int .i64 rW, .slice a1 rN c1] 26) = w16 := hx16
  clear h1 ho hb HS14 pA hx16 cI cT
  obtain ⟨i0, i1, i2⟩ := HS15.out.im3 0 rfl
  obtain ⟨j0, j1, j2⟩ := HS15.out.im3 2 rfl
  have pA := (HS15.out.nthO 0 rfl).px
  have pB := (HS15.out.nthO 3 rfl).px
  go_wp2_with fail
  refine (cE _ _ _ _ _ pA pB).mono ?_
  rintro e w17 ⟨rfl, hb⟩
  have HS17 := hide (HS15.out.next hb)
  clear HS15 hb i0 i1 i2 j0 j1 j2 pA pB hy16
  obtain ⟨i0, i1, i2⟩ := HS17.out.im3 1 rfl
  go_wp2_with fail
  refine (cH _ _ _ _ (HS17.out.nthO 1 rfl).i).mono ?_
  rintro e w18 ⟨rfl, hb⟩
  have HB := hide (HS17.out.next hb).below
  clear HS17 hb i0 i1 i2
  go_wp2_with fail
  go_ret
  exact ⟨rfl, HB.out⟩

end Go.Proofs.Ytakoiionehfipaa

/- The law on Misfit, walked. -/
import Derived.Test.YtakoiionehfipaaMss
namespace Go.Proofs.Ytakoiionehfipaa
open Go.RowKit

set_option maxRecDepth 100000 in
set_option maxHeartbeats 4000000 in
theorem fnExactMisfit_walk (W H : Int) (a : Option Addr) (len cap : Nat) (f : Nat → Int) (hl : len ≤ maxLen) (a' : Option Addr) (m cap' : Nat) (g : Nat → Int) (hl' : m ≤ maxLen) (w : World) (h : Px a len f w) (h' : Px a' m g w) :
    Calls Try.prog 10 #[im W H a len cap, .slice a' m cap'] w fun e w' => e = .returned (.bool true) ∧ Below w.heap.size w w' := by
  unfold maxLen at hl hl'
  have hz := szImage_any W H a len cap 1048576 (by omega) (by omega) (by omega)
  have HS0 := hide ((St.start w).box [.int .i64 W, .int .i64 H, .slice a len cap] 55)
  have HP := hide h
  have HP' := hide h'
  clear h h'
  by_cases hbig' : (1048576 : Int) < m
  · have HB := hide HS0.out.below
    clear hz hl hl'
    go_enter Try.func10, Try.ntmps10
    go_wp2_with fail
    go_ret
    exact ⟨rfl, HB.out⟩
  by_cases hbig : (1048576 : Int) < len
  · rw [if_pos hbig] at hz
    clear hbig hl hl'
    go_enter Try.func10, Try.ntmps10
    go_wp2_with fail
    refine (hz _).mono ?_
    rintro e w1 ⟨rfl, hb⟩
    have HB := hide (HS0.out.next hb).below
    clear hb hz
    go_wp2_with fail
    go_ret
    exact ⟨rfl, HB.out⟩
  rw [if_neg hbig] at hz
  have hL : len ≤ 1048576 := by omega
  have hL' : m ≤ 1048576 := by omega
  have hn : ¬ 1048576 - (len : Int) < 0 := by omega
  have cT := fun w' h => toImage_any W H a len cap f hL w' h
  have cU := fun w' h => toInts_any a' m cap' g hL' w' h
  have cS := fun b c w' h h' => specMisfit_any W H (some ⟨b, 0, none⟩) len len f hL (some ⟨c, 0, none⟩) m m g hL' w' h h'
  have cI := fun b c w' h h' => implMisfit_any W H (some ⟨b, 0, none⟩) len len f hL (some ⟨c, 0, none⟩) m m g hL' w' h h'
  have cA := fun b b' w' h h' => eqImage_any W H (some ⟨b, 0, none⟩) (some ⟨b', 0, none⟩) len len len f hL w' h h'
  have cB := fun a1 a2 => eqInts_b a1 a2 m m m g hL'
  clear hl hl' hbig
  generalize msV W H len f m g = V at *
  have hV : (V != V) = false := by simp
  go_enter Try.func10, Try.ntmps10
  go_wp2_with fail
  refine (hz _).mono ?_
  rintro e w1 ⟨rfl, hb⟩
  have HS1 := hide (HS0.out.next hb)
  obtain ⟨i0, i1, i2⟩ := HS1.out.im3 0 rfl
  clear hb hz HS0
  go_wp2_with fail
  refine (cT _ (HP.out.below HS1.out.below)).mono ?_
  rintro e w2 ⟨b1, rfl, h2, -, hr, hb⟩
  have HS2 := hide (HS1.out.own hb hr.v (.inr h2))
  clear HS1 hb i0 i1 i2 hr h2
  go_wp2_with fail
  refine (cU _ (HP'.out.below HS2.out.below)).mono ?_
  rintro e w3 ⟨rfl, hr, hb, -⟩
  have HS3 := hide (HS2.out.own hb hr.v (.inr (Nat.le_refl _)))
  clear HS2 hb hr
  have pA := (HS3.out.nthO 1 rfl).px
  have pB := (HS3.out.nthO 0 rfl).px
  go_wp2_with fail
  refine (cS _ _ _ pA pB).mono ?_
  rintro e w4 ⟨rfl, hb⟩
  have HS4 := hide (HS3.out.next hb)
  obtain ⟨i0, i1, i2⟩ := HS4.out.im3 0 rfl
  clear HS3 hb pA pB cS
  go_wp2_with fail
  refine (cT _ (HP.out.below HS4.out.below)).mono ?_
  rintro e w5 ⟨b2, rfl, h2, -, hr, hb⟩
  have HS5 := hide ((HS4.out.own hb hr.v (.inr h2)).box [.int .i64 W, .int .i64 H, .slice (some ⟨b2, 0, none⟩) len len] 26)
  generalize hxw6 : w5.alloc (.cells [.int .i64 W, .int .i64 H, .slice (some ⟨b2, 0, none⟩) len len].toArray 26) = w6 at HS5
  have hyw6 : w5.alloc (.cells #[.int .i64 W, .int .i64 H, .slice (some ⟨b2, 0, none⟩) len len] 26) = w6 := hxw6
  clear hxw6
  clear HS4 hb hr h2 i0 i1 i2
  go_wp2_with fail
  refine (cU _ (HP'.out.below HS5.out.below)).mono ?_
  rintro e w7 ⟨rfl, hr, hb, -⟩
  have HS7 := hide (HS5.out.own hb hr.v (.inr (Nat.le_refl _)))
  clear HS5 hb hr hyw6
  generalize w6.heap.size = b6 at *
  obtain ⟨j0, j1, j2⟩ := HS7.out.im3 0 rfl
  have pA := (HS7.out.nthO 1 rfl).px
  have pB := (HS7.out.nthO 0 rfl).px
  go_wp2_with fail
  refine (cI _ _ _ pA pB).mono ?_
  rintro e w8 ⟨rfl, hb⟩
  have HS9 := hide (HS7.out.next hb)
  clear HS7 hb pA pB cI j0 j1 j2
  obtain ⟨i0, i1, i2⟩ := HS9.out.im3 1 rfl
  obtain ⟨j0, j1, j2⟩ := HS9.out.im3 0 rfl
  go_upto_region 13 with fail
  go_region_with (first
    | (go_at_call 36; (with_reducible refine (cT _ (HP.out.below HS9.out.drew.below)).mono ?_); rintro e w10 ⟨b3, rfl, -, -, hr, hb⟩; have HS10 := hide (HS9.out.drew.next hb); obtain ⟨k0, k1, k2⟩ := HS10.out.im3 0 rfl)
    | (go_at_call 38; (with_reducible refine (cA _ _ _ (HS10.out.nthO 1 rfl).px hr.px).mono ?_); rintro e w11 ⟨rfl, hb11⟩))
  all_goals
    have HS11 := hide (HS10.out.next hb11)
    clear hb hr hb11 HS10 HS9 k0 k1 k2 i0 i1 i2 j0 j1 j2
    go_wp2_with fail
    refine (cU _ (HP'.out.below HS11.out.below)).mono ?_
    rintro e w12 ⟨rfl, hr, hb, -⟩
    have HS12 := hide (HS11.out.next hb)
    have pA := (HS12.out.nthO 0 rfl).px
    have pB := hr.px
    clear HS11 hb hr
    go_wp2_with fail
    refine (cB _ _ _ pA pB).mono ?_
    rintro e w13 ⟨rfl, hb⟩
    have HB := hide (HS12.out.next hb).below
    clear hb HS12 pA pB
    go_wp2_with fail
    go_ret
    exact ⟨rfl, HB.out⟩

end Go.Proofs.Ytakoiionehfipaa

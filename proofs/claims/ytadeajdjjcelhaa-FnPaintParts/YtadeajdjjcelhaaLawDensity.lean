/- The law on Density, walked. -/
import Derived.Test.YtadeajdjjcelhaaDns
namespace Go.Proofs.Ytadeajdjjcelhaa
open Go.RowKit
set_option maxRecDepth 100000
set_option maxHeartbeats 2000000

theorem implDens_any (a : Option Addr) (len cap : Nat) (g : Nat → Int) (hl : len ≤ 1048576) (x y : Int) (w : World) (h : Px a (len * 7) g w) :
    Calls Try.prog 13 #[.slice a len cap, .int .i64 x, .int .i64 y] w fun e w' => e = .returned (.int .i64 (densB g len x y)) ∧ Below w.heap.size w w' := by
  have cP := placeShapes_any a len cap g hl w h
  have cQ := isPoint_any x y
  clear h
  cases hO : okS g len
  · have hr : densB g len x y = 0 := by unfold densB; rw [hO]; rfl
    rw [hr]
    go_enter Try.func13, Try.ntmps13
    go_wp2_with fail
    refine cP.mono ?_
    rintro e w1 ⟨hp, hb⟩
    unfold PlacedE at hp
    rw [hO] at hp
    obtain ⟨v, rfl⟩ := hp
    clear cP cQ
    go_wp2_with fail
    go_ret
    exact ⟨rfl, hb⟩
  cases hQ : (inB x (-100000) 100000 && inB y (-100000) 100000)
  · have hr : densB g len x y = 0 := by unfold densB; rw [hO, hQ]; rfl
    rw [hr]
    rw [hQ] at cQ
    go_enter Try.func13, Try.ntmps13
    go_wp2_with fail
    refine cP.mono ?_
    rintro e w1 ⟨hp, hb⟩
    unfold PlacedE at hp
    rw [hO] at hp
    obtain ⟨v, rfl, _⟩ := hp
    clear cP
    go_wp2_with fail
    refine (cQ _).mono ?_
    rintro e w2 ⟨rfl, rfl⟩
    clear cQ
    go_wp2_with fail
    go_ret
    exact ⟨rfl, hb⟩
  have hr : densB g len x y = dens g x y len := by unfold densB; rw [hO, hQ]; rfl
  rw [hr]
  rw [hQ] at cQ
  simp only [Bool.and_eq_true] at hQ
  obtain ⟨hx, hy⟩ := hQ
  go_enter Try.func13, Try.ntmps13
  go_wp2_with fail
  refine cP.mono ?_
  rintro e w1 ⟨hp, hb⟩
  unfold PlacedE at hp
  rw [hO] at hp
  obtain ⟨v, rfl, ho⟩ := hp
  obtain ⟨a', cap', rfl, hPl⟩ := pl_of ho
  have HPl : Hid (Pl a' len g w1) := hPl
  have HB : Hid (Below w.heap.size w w1) := hb
  clear cP ho hPl hb
  go_wp2_with fail
  refine (cQ _).mono ?_
  rintro e w2 ⟨rfl, rfl⟩
  clear cQ
  go_wp2_with fail
  refine (densityAt_any a' len cap' g hO x y hx hy _ HPl.out).mono ?_
  rintro e w3 ⟨rfl, hb3⟩
  have HB3 : Hid (Below w.heap.size w w3) := bnext HB.out (Nat.le_refl _) hb3
  clear hb3 HB HPl hx hy hO
  go_wp2_with fail
  go_ret
  exact ⟨rfl, HB3.out⟩

set_option maxHeartbeats 8000000 in
theorem fnExactDensity_walk (a : Option Addr) (len cap : Nat) (g : Nat → Int) (hl : len ≤ maxLen) (x y : Int) (w : World) (h : Px a (len * 7) g w) :
    Calls Try.prog 5 #[.slice a len cap, .int .i64 x, .int .i64 y] w fun e w' => e = .returned (.bool true) ∧ Below w.heap.size w w' := by
  have hl' : (len : Int) ≤ 9223372036854775807 := by unfold maxLen at hl; omega
  have cZ := szShapeS_any a len cap 1048576 (by omega) (by omega) hl'
  clear hl
  by_cases hbig : (1048576 : Int) < len
  · rw [if_pos hbig] at cZ
    clear h hbig hl'
    go_enter Try.func5, Try.ntmps5
    go_wp2_with fail
    refine (cZ _).mono ?_
    rintro e w' ⟨rfl, rfl⟩
    go_wp2_with fail
    go_ret
    exact ⟨rfl, Below.refl _ _⟩
  rw [if_neg hbig] at cZ
  have hL : len ≤ 1048576 := by omega
  have hpos : ¬ (1048576 : Int) - len < 0 := by omega
  have HP : Hid (Px a (len * 7) g w) := h
  have cT := toShapeS_any a len cap g hL
  have cS := fun a' => specDens_any a' len len g hL x y
  have cI := fun a' => implDens_any a' len len g hL x y
  have cE := fun a1 a2 => eqShapeS_any a1 a2 len len len g hL
  clear h hbig hl'
  generalize densB g len x y = r at *
  go_enter Try.func5, Try.ntmps5
  go_wp2_with fail
  refine (cZ _).mono ?_
  rintro e w' ⟨rfl, rfl⟩
  clear cZ
  go_wp2_with fail
  refine (cT _ HP.out).mono ?_
  rintro e w1 ⟨rfl, hr1, hb1, _⟩
  have HP1 : Hid (Px a (len * 7) g w1) := HP.out.below hb1
  have HR1 : Hid (Px (some ⟨_, 0, none⟩) (len * 7) g w1) := hr1.px
  have HB1 : Hid (Below _ _ w1) := hb1
  clear hr1 hb1
  go_wp2_with fail
  refine (cS _ _ HR1.out).mono ?_
  rintro e w2 ⟨rfl, hb2⟩
  have HP2 : Hid (Px a (len * 7) g w2) := HP1.out.below hb2
  have HB2 : Hid (Below _ _ w2) := bnext HB1.out (Nat.le_refl _) hb2
  clear hb2 HB1 HP1 HR1 cS
  go_wp2_with fail
  refine (cT _ HP2.out).mono ?_
  rintro e w3 ⟨rfl, hr3, hb3, _⟩
  have HP3 : Hid (Px a (len * 7) g w3) := HP2.out.below hb3
  have HR3 : Hid (Px (some ⟨_, 0, none⟩) (len * 7) g w3) := hr3.px
  have HB3 : Hid (Below _ _ w3) := bnext HB2.out (Nat.le_refl _) hb3
  clear hr3 hb3 HB2 HP2
  go_wp2_with fail
  refine (cI _ _ HR3.out).mono ?_
  rintro e w4 ⟨rfl, hb4⟩
  have HP4 : Hid (Px a (len * 7) g w4) := HP3.out.below hb4
  have HR4 : Hid (Px (some ⟨_, 0, none⟩) (len * 7) g w4) := HR3.out.below hb4
  have HB4 : Hid (Below _ _ w4) := bnext HB3.out (Nat.le_refl _) hb4
  clear hb4 HB3 HP3 HR3 cI
  go_wp2_with fail
  refine (cT _ HP4.out).mono ?_
  rintro e w5 ⟨rfl, hr5, hb5, _⟩
  have HR5 : Hid (Px (some ⟨_, 0, none⟩) (len * 7) g w5) := hr5.px
  have HX5 : Hid (Px (some ⟨_, 0, none⟩) (len * 7) g w5) := HR4.out.below hb5
  have HB5 : Hid (Below _ _ w5) := bnext HB4.out (Nat.le_refl _) hb5
  clear hr5 hb5 HB4 HP4 HR4 cT
  go_wp2_with fail
  refine (cE _ _ _ HX5.out HR5.out).mono ?_
  rintro e w6 ⟨rfl, hb6⟩
  have HB6 : Hid (Below _ _ w6) := bnext HB5.out (Nat.le_refl _) hb6
  clear hb6 HB5 HX5 HR5 cE
  go_wp2_with fail
  go_ret
  exact ⟨rfl, HB6.out⟩

end Go.Proofs.Ytadeajdjjcelhaa

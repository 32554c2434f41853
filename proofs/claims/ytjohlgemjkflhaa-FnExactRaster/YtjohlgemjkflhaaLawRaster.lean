/- The law on Raster, walked. -/
import Derived.Test.YtjohlgemjkflhaaRas
namespace Go.Proofs.Ytjohlgemjkflhaa
open Go.RowKit

def RasY (m : Nat) (w : World) (e : Ending) (w' : World) : Prop :=
  ∃ a cap b, e = .returned (.slice a (rasN m) cap) ∧ Ow a b (rasN m * 4) (fun q => (rasL m m).getD q 0) w' ∧ w.heap.size ≤ b ∧ b < w'.heap.size ∧ Below w.heap.size w w'

theorem specRaster_Y (m : Nat) (h1 : 1 ≤ m) (hm : m ≤ 64) (hs : sideB (m : Int) = true) (w : World) : Calls Try.prog 10 #[.int .i64 m] w (RasY m w) :=
  (specRaster_yes m hm hs w).mono fun e w' ⟨v, he, ho, hb, _⟩ => by
    obtain ⟨a, cap, b, rfl, h2, h3, h4⟩ := ow_of_some ho (by unfold rasN; omega)
    exact ⟨a, cap, b, he, h2, h3, h4, hb⟩
theorem implRaster_Y (m : Nat) (h1 : 1 ≤ m) (hm : m ≤ 64) (hs : sideB (m : Int) = true) (w : World) : Calls Try.prog 11 #[.int .i64 m] w (RasY m w) :=
  (implRaster_yes m hm hs w).mono fun e w' ⟨v, he, ho, hb⟩ => by
    obtain ⟨a, cap, b, rfl, h2, h3, h4⟩ := ow_of_some ho (by unfold rasN; omega)
    exact ⟨a, cap, b, he, h2, h3, h4, hb⟩
theorem specRaster_N (n : Int) (hs : sideB n = false) (w : World) : Calls Try.prog 10 #[.int .i64 n] w fun e w' => (∃ a, e = .returned (.slice a 0 0)) ∧ Below w.heap.size w w' := by
  have c := l3Side_any n
  rw [hs] at c
  clear hs
  go_enter Try.func10, Try.ntmps10
  go_wp2_with fail
  refine (c _).mono ?_
  rintro e w1 ⟨rfl, rfl⟩
  go_wp2_with fail
  go_ret
  exact ⟨⟨_, rfl⟩, bnew _ _⟩
theorem implRaster_N (n : Int) (hs : sideB n = false) (w : World) : Calls Try.prog 11 #[.int .i64 n] w fun e w' => (∃ a, e = .returned (.slice a 0 0)) ∧ Below w.heap.size w w' := by
  have c := isRasterSide_any n
  rw [hs] at c
  clear hs
  go_enter Try.func11, Try.ntmps11
  go_wp2_with fail
  refine (c _).mono ?_
  rintro e w1 ⟨rfl, rfl⟩
  go_wp2_with fail
  go_ret
  exact ⟨⟨_, rfl⟩, Below.refl _ _⟩

theorem Kept.gone {w w' : World} (h : Kept w.heap.size w w') : Below w.heap.size w w' := h.below (Nat.le_refl _) (Nat.le_refl _)

set_option maxHeartbeats 1000000 in
theorem law_no (n : Int) (hs : sideB n = false) (w : World) : Calls Try.prog 4 #[.int .i64 n] w fun e w' => e = .returned (.bool true) ∧ Below w.heap.size w w' := by
  have cS := specRaster_N n hs
  have cI := implRaster_N n hs
  have cE := fun a a' w' => eqPulseS_any a a' 0 0 0 (fun _ => 0) (by omega) w' (.inl (by simp)) (.inl (by simp))
  have cM := fun a w' => markPulseS_any a (World.heap w').size 0 0 (fun _ => 0) (by omega) w' (.inl (by simp))
  have cH := fun a b w' => heldPulseS_any a b 0 0 (by omega) w' (.inl (by simp))
  clear hs
  go_enter Try.func4, Try.ntmps4
  go_wp2_with fail
  refine (cS _).mono ?_
  rintro e w1 ⟨⟨a1, rfl⟩, hb⟩
  have HB1 := hide hb
  clear hb
  go_wp2_with fail
  refine (cI _).mono ?_
  rintro e w2 ⟨⟨a2, rfl⟩, hb⟩
  have HB2 := hide (bnext HB1.out (Nat.le_refl _) hb)
  clear hb HB1
  go_wp2_with fail
  refine (cE _ _ _).mono ?_
  rintro e w3 ⟨rfl, hb⟩
  have HB3 := hide (bnext HB2.out (Nat.le_refl _) hb)
  clear hb HB2
  go_wp2_with fail
  refine (cM _ _).mono ?_
  rintro e w4 ⟨rfl, _, hk⟩
  have HB4 := hide (bnext HB3.out (Nat.le_refl _) hk.gone)
  clear hk HB3
  go_wp2_with fail
  refine (cH _ 0 _).mono ?_
  rintro e w5 ⟨rfl, rfl⟩
  go_wp2_with fail
  refine (cI _).mono ?_
  rintro e w6 ⟨⟨a3, rfl⟩, hb⟩
  have HB6 := hide (bnext HB4.out (Nat.le_refl _) hb)
  clear hb HB4
  go_wp2_with fail
  refine (cE _ _ _).mono ?_
  rintro e w7 ⟨rfl, hb⟩
  have HB7 := hide (bnext HB6.out (Nat.le_refl _) hb)
  clear hb HB6
  go_wp2_with fail
  refine (cH _ 0 _).mono ?_
  rintro e w8 ⟨rfl, rfl⟩
  go_wp2_with fail
  go_ret
  exact ⟨rfl, HB7.out⟩

set_option maxHeartbeats 1000000 in
theorem law_yes (m : Nat) (h1 : 1 ≤ m) (hm : m ≤ 64) (hs : sideB (m : Int) = true) (w : World) : Calls Try.prog 4 #[.int .i64 m] w fun e w' => e = .returned (.bool true) ∧ Below w.heap.size w w' := by
  have cS := specRaster_Y m h1 hm hs
  have cI := implRaster_Y m h1 hm hs
  have hN : rasN m ≤ 1048576 := by unfold rasN; omega
  have cE := fun a a' cap cap' => eqPulseS_any a a' (rasN m) cap cap' (fun q => (rasL m m).getD q 0) hN
  have cM := fun a b cap => markPulseS_any a b (rasN m) cap (fun q => (rasL m m).getD q 0) hN
  have cH := fun a b cap => heldPulseS_any a b (rasN m) cap hN
  clear hs h1 hm
  unfold RasY at cS cI
  generalize rasN m = N at *
  generalize (fun q => (rasL (m : Int) m).getD q 0) = f at *
  have q0 : ¬ 1 + 4 * (N : Int) < 0 := by omega
  have q1 : (1 + 4 * (N : Int) != 1 + 4 * (N : Int)) = false := by simp
  go_enter Try.func4, Try.ntmps4
  go_wp2_with fail
  refine (cS _).mono ?_
  rintro e w1 ⟨a1, c1, b1, rfl, o1, l1, u1, hb⟩
  have HB1 := hide hb
  clear hb cS
  go_wp2_with fail
  refine (cI _).mono ?_
  rintro e w2 ⟨a2, c2, b2, rfl, o2, l2, u2, hb⟩
  have HB2 := hide (bnext HB1.out (Nat.le_refl _) hb)
  have O1 := hide (o1.below hb u1)
  have O2 := hide o2
  have p1 := O1.out.px
  have p2 := o2.px
  have hne : b1 ≠ b2 := by omega
  have v1 : b1 < w2.heap.size := Nat.lt_of_lt_of_le u1 hb.size
  have v2 : w.heap.size ≤ b2 := Nat.le_trans HB1.out.size l2
  clear hb HB1 o1 o2 u1 l2
  go_wp2_with fail
  refine (cE _ _ _ _ _ p2 p1).mono ?_
  rintro e w3 ⟨rfl, hb⟩
  have HB3 := hide (bnext HB2.out (Nat.le_refl _) hb)
  have O13 := hide (O1.out.below hb v1)
  have o2 := O2.out.below hb u2
  have x1 := Nat.lt_of_lt_of_le v1 hb.size
  have x2 := Nat.lt_of_lt_of_le u2 hb.size
  clear hb HB2 O1 O2 p1 p2 v1 u2
  go_wp2_with fail
  refine (cM _ _ _ _ o2).mono ?_
  rintro e w4 ⟨rfl, o24, hk⟩
  have HB4 := hide (HB3.out.trans (hk.below v2 HB3.out.size))
  have O14 := hide (O13.out.kept hk hne)
  have O24 := hide o24
  have z1 := Nat.lt_of_lt_of_le x1 hk.size
  have z2 := Nat.lt_of_lt_of_le x2 hk.size
  clear hk HB3 O13 o2 x1 x2
  go_wp2_with fail
  refine (cH _ _ _ _ o24).mono ?_
  rintro e w5 ⟨rfl, rfl⟩
  clear o24
  go_wp2_with fail
  refine (cI _).mono ?_
  rintro e w6 ⟨a6, c6, b6, rfl, o6, l6, u6, hb⟩
  have HB6 := hide (bnext HB4.out (Nat.le_refl _) hb)
  have p1 := (O14.out.below hb z1).px
  have O26 := hide (O24.out.below hb z2)
  have p6 := o6.px
  have y2 := Nat.lt_of_lt_of_le z2 hb.size
  clear hb HB4 o6 O14 O24 z1 z2
  go_wp2_with fail
  refine (cE _ _ _ _ _ p6 p1).mono ?_
  rintro e w7 ⟨rfl, hb⟩
  have HB7 := hide (bnext HB6.out (Nat.le_refl _) hb)
  have o27 := O26.out.below hb y2
  clear hb HB6 p1 p6 O26
  go_wp2_with fail
  refine (cH _ _ _ _ o27).mono ?_
  rintro e w8 ⟨rfl, rfl⟩
  clear o27
  go_wp2_with fail
  go_ret
  exact ⟨rfl, HB7.out⟩

theorem fnExactRaster_walk (n : Int) (w : World) : Calls Try.prog 4 #[.int .i64 n] w fun e w' => e = .returned (.bool true) ∧ Below w.heap.size w w' := by
  cases hs : sideB n
  · exact law_no n hs w
  · obtain ⟨m, rfl, h1, h2⟩ := sideB_nat hs
    exact law_yes m h1 h2 hs w

end Go.Proofs.Ytjohlgemjkflhaa

/- The law FnExactImageOk, walked. -/
import Derived.Test.YtenllofhaoaboaaOk
import Derived.Deep.RegionHeld
import Derived.Deep.DeepCutAuto
namespace Go.Proofs.Ytenllofhaoaboaa
open Go.RowKit

/-- an image lies in the three cells of a block -/
def Im (b : Nat) (W H : Int) (s : Value) (w : World) : Prop :=
  w.cell? ⟨b, 0, none⟩ = some (.int .i64 W) ∧ w.cell? ⟨b, 1, none⟩ = some (.int .i64 H) ∧ w.cell? ⟨b, 2, none⟩ = some s

theorem Im.below {b : Nat} {W H : Int} {s : Value} {w w' : World} (h : Im b W H s w) (hb : Below w.heap.size w w') : Im b W H s w' := by
  have hl : b < w.heap.size := World.block_lt_of_cell? w _ h.1
  exact ⟨(hb.cell (p := ⟨b, 0, none⟩) hl).trans h.1, (hb.cell (p := ⟨b, 1, none⟩) hl).trans h.2.1, (hb.cell (p := ⟨b, 2, none⟩) hl).trans h.2.2⟩

theorem Im.drew {b : Nat} {W H : Int} {s : Value} {w : World} (h : Im b W H s w) : Im b W H s w.drew := h
theorem Px.drew {a : Option Addr} {len : Nat} {f : Nat → Int} {w : World} (h : Px a len f w) : Px a len f w.drew := h

theorem Im.new (W H : Int) (s : Value) (t : TypeId) (w : World) : Im w.heap.size W H s (w.alloc (.cells #[.int .i64 W, .int .i64 H, s] t)) := by
  refine ⟨?_, ?_, ?_⟩ <;> simp [go_sem]

theorem Below.next {B : Nat} {W w1 w2 : World} (h : Below B W w1) (hB : B ≤ W.heap.size) (h2 : Below w1.heap.size w1 w2) : Below B W w2 :=
  h.trans (h2.mono (Nat.le_trans hB h.size))

set_option maxHeartbeats 1000000 in
theorem fnExactImageOk_walk (W H : Int) (a : Option Addr) (len cap : Nat) (f : Nat → Int) (hl : len ≤ maxLen) (w : World) (h : Px a len f w) :
    Calls Try.prog 6 #[im W H a len cap] w fun e w' => e = .returned (.bool true) ∧ Below w.heap.size w w' := by
  unfold maxLen at hl
  have hz := szImage_any W H a len cap 1048576 (by omega) (by omega) (by omega)
  have B0 : Below w.heap.size w (w.alloc (.cells #[.int .i64 W, .int .i64 H, .slice a len cap] 48)) := (Below.refl _ _).alloc (Nat.le_refl _) _
  have I0 := Im.new W H (.slice a len cap) 48 w
  have HI0 : Hid (Im w.heap.size W H (.slice a len cap) (w.alloc (.cells #[.int .i64 W, .int .i64 H, .slice a len cap] 48))) := I0
  have HB0 : Hid (Below w.heap.size w (w.alloc (.cells #[.int .i64 W, .int .i64 H, .slice a len cap] 48))) := B0
  have HP : Hid (Px a len f w) := h
  clear h B0 I0
  by_cases hlen : 1048576 < (len : Int)
  · rw [if_pos hlen] at hz
    clear hlen hl
    go_enter Try.func6, Try.ntmps6
    go_wp2_with fail
    refine (hz _).mono ?_
    rintro e w1 ⟨rfl, hb⟩
    have HB1 : Hid (Below w.heap.size w w1) := Below.next HB0.out (Nat.le_refl _) hb
    clear hb hz
    go_wp2_with fail
    go_ret
    exact ⟨rfl, HB1.out⟩
  · rw [if_neg hlen] at hz
    have hl2 : len ≤ 1048576 := by omega
    have hn : ¬ 1048576 - (len : Int) < 0 := by omega
    have ht := fun w' h => toImage_any W H a len cap f hl2 w' h
    have hs := fun b w' h => specOk_any W H (some ⟨b, 0, none⟩) len len f hl2 w' h
    have hi := fun b w' h => implOk_any W H (some ⟨b, 0, none⟩) len len f hl2 w' h
    have he := fun b b' w' h h' => eqImage_any W H (some ⟨b, 0, none⟩) (some ⟨b', 0, none⟩) len len len f hl2 w' h h'
    clear hlen hl hl2
    generalize okB W H len f = q at *
    go_enter Try.func6, Try.ntmps6
    go_wp2_with fail
    refine (hz _).mono ?_
    rintro e w1 ⟨rfl, hb⟩
    have HB1 : Hid (Below w.heap.size w w1) := Below.next HB0.out (Nat.le_refl _) hb
    have HI1 := HI0.out.below hb
    obtain ⟨i0, i1, i2⟩ := HI1
    have HI1 : Hid (Im w.heap.size W H (.slice a len cap) w1) := ⟨i0, i1, i2⟩
    clear hb hz HB0 HI0
    go_wp2_with fail
    refine (ht _ (HP.out.below HB1.out)).mono ?_
    rintro e w2 ⟨b1, rfl, -, -, hr1, hb2⟩
    have HB2 : Hid (Below w.heap.size w w2) := Below.next HB1.out (Nat.le_refl _) hb2
    have HI2 : Hid (Im w.heap.size W H (.slice a len cap) w2) := HI1.out.below hb2
    clear i0 i1 i2 HB1 HI1 hb2
    go_wp2_with fail
    refine (hs _ _ hr1.px).mono ?_
    rintro e w3 ⟨rfl, hb3⟩
    have HB3 : Hid (Below w.heap.size w w3) := Below.next HB2.out (Nat.le_refl _) hb3
    have HI3 : Hid (Im w.heap.size W H (.slice a len cap) w3) := HI2.out.below hb3
    obtain ⟨i0, i1, i2⟩ := HI3.out
    clear hb3 HB2 HI2 hr1 hs
    go_wp2_with fail
    refine (ht _ (HP.out.below HB3.out)).mono ?_
    rintro e w4 ⟨b2, rfl, -, hlt, hr2, hb4⟩
    have HB4 : Hid (Below w.heap.size w w4) := Below.next HB3.out (Nat.le_refl _) hb4
    have HI4 : Hid (Im w.heap.size W H (.slice a len cap) w4) := HI3.out.below hb4
    have HR2 : Hid (Row b2 len f w4) := hr2
    clear hb4 HB3 HI3 i0 i1 i2 hr2
    go_wp2_with fail
    have hbA : Below w4.heap.size w4 (w4.alloc (.cells #[.int .i64 W, .int .i64 H, .slice (some ⟨b2, 0, none⟩) len len] 29)) := (Below.refl _ _).alloc (Nat.le_refl _) _
    refine (hi _ _ (HR2.out.px.below hbA)).mono ?_
    rintro e w5 ⟨rfl, hb5⟩
    have HB5 : Hid (Below w.heap.size w w5) := Below.next (Below.next HB4.out (Nat.le_refl _) hbA) (Nat.le_refl _) hb5
    have HI5 : Hid (Im w.heap.size W H (.slice a len cap) w5) := (HI4.out.below hbA).below hb5
    have HJ5 : Hid (Im w4.heap.size W H (.slice (some ⟨b2, 0, none⟩) len len) w5) := (Im.new W H _ 29 w4).below hb5
    have HX5 : Hid (Px (some ⟨b2, 0, none⟩) len f w5) := (HR2.out.px.below hbA).below hb5
    obtain ⟨i0, i1, i2⟩ := HI5.out
    obtain ⟨j0, j1, j2⟩ := HJ5.out
    clear hb5 HB4 HI4 HR2 hlt hi hbA
    go_upto_region 10 with fail
    go_region_with (first
      | (go_at_call 27; (with_reducible refine (ht _ (HP.out.below HB5.out.drew)).mono ?_); rintro e w6 ⟨b3, rfl, -, -, hr6, hb6⟩; obtain ⟨k0, k1, k2⟩ := HJ5.out.drew.below hb6)
      | (go_at_call 29; (with_reducible refine (he _ _ _ (HX5.out.drew.below hb6) hr6.px).mono ?_); rintro e w7 ⟨rfl, hb7⟩))
    all_goals
      have HB7 : Hid (Below w.heap.size w w7) := Below.next (Below.next HB5.out.drew (Nat.le_refl _) hb6) (Nat.le_refl _) hb7
      clear hb6 hb7 hr6 k0 k1 k2 i0 i1 i2 j0 j1 j2
      go_wp2_with fail
      go_ret
      exact ⟨rfl, HB7.out⟩

end Go.Proofs.Ytenllofhaoaboaa

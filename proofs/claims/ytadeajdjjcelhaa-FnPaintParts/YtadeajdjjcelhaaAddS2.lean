/- Adding images: the specification, with what it refuses. -/
import Derived.Test.YtadeajdjjcelhaaAddS1
namespace Go.Proofs.Ytadeajdjjcelhaa
open Go.RowKit

set_option maxHeartbeats 2000000 in
theorem specAdd_any (W H : Int) (a : Option Addr) (n cap : Nat) (f : Nat → Int) (hl : n ≤ 1048576) (W' H' : Int) (a' : Option Addr) (n' cap' : Nat) (g : Nat → Int) (hl' : n' ≤ 1048576) (w : World) (h : Px a n f w) (h' : Px a' n' g w) :
    Calls Try.prog 33 #[im W H a n cap, im W' H' a' n' cap'] w (Added (addB W H n f W' H' n' g) W H n (plus f g) w) := by
  have hA := specOk_any W H a n cap f hl
  have hA' := specOk_any W' H' a' n' cap' g hl'
  have HP : Hid (Px a n f w) := h
  have HP' : Hid (Px a' n' g w) := h'
  have HB0 : Hid (Below w.heap.size w (three w W H (.slice a n cap) W' H' (.slice a' n' cap'))) := three_below _ _ _ _ _ _ _
  have HT0 : Hid (Three w.heap.size W H (.slice a n cap) W' H' (.slice a' n' cap') (three w W H (.slice a n cap) W' H' (.slice a' n' cap'))) := Three.start _ _ _ _ _ _ _
  have HS0 : Hid ((three w W H (.slice a n cap) W' H' (.slice a' n' cap')).heap.size = w.heap.size + 3) := three_size _ _ _ _ _ _ _
  clear h h'
  cases hq : okB W H n f
  · have HR : Hid (addB W H n f W' H' n' g = false) := by show _ = _; unfold addB; rw [hq]; rfl
    rw [hq] at hA
    clear hq hA'
    generalize addB W H n f W' H' n' g = r at *
    go_enter Try.func33, Try.ntmps33
    go_wp2_with fail
    refine (hA _ (HP.out.below HB0.out)).mono ?_
    rintro e w1 ⟨rfl, hb⟩
    obtain ⟨⟨i0, i1, i2⟩, ⟨j0, j1, j2⟩, ⟨z0, z1, z2⟩, ⟨e0, e1, e2⟩⟩ := HT0.out.below hb
    have hs1 := hb.size
    rw [HS0.out] at hs1
    have HB1 : Hid (Below w.heap.size w w1) := Below.next HB0.out (Nat.le_refl _) hb
    clear hA hb
    go_wp2_with fail
    refine bodyPost_ret (v := im 0 0 none 0 0) (by simp [results, Try.results33, go_sem, z0, z1, z2]) rfl (Added.none HR.out _ _ _ _ ?_ ?_)
    · exact ((HB1.out.setCell (by simp; omega) _).setCell (by simp; omega) _).setCell (by simp; omega) _
    · simp; omega
  cases hq' : okB W' H' n' g
  · have HR : Hid (addB W H n f W' H' n' g = false) := by show _ = _; unfold addB; rw [hq']; simp
    rw [hq] at hA
    rw [hq'] at hA'
    clear hq hq'
    generalize addB W H n f W' H' n' g = r at *
    go_enter Try.func33, Try.ntmps33
    go_wp2_with fail
    refine (hA _ (HP.out.below HB0.out)).mono ?_
    rintro e w1 ⟨rfl, hb⟩
    obtain ⟨⟨i0, i1, i2⟩, ⟨j0, j1, j2⟩, ⟨z0, z1, z2⟩, ⟨e0, e1, e2⟩⟩ := HT0.out.below hb
    have HT1 : Hid (Three w.heap.size W H (.slice a n cap) W' H' (.slice a' n' cap') w1) := HT0.out.below hb
    have hs1 := hb.size
    rw [HS0.out] at hs1
    have HB1 : Hid (Below w.heap.size w w1) := Below.next HB0.out (Nat.le_refl _) hb
    clear hA hb HT0 HB0 HS0
    go_wp2_with fail
    refine (hA' _ (HP'.out.below HB1.out)).mono ?_
    rintro e w2 ⟨rfl, hb⟩
    clear i0 i1 i2 j0 j1 j2 z0 z1 z2 e0 e1 e2
    obtain ⟨⟨i0, i1, i2⟩, ⟨j0, j1, j2⟩, ⟨z0, z1, z2⟩, ⟨e0, e1, e2⟩⟩ := HT1.out.below hb
    have HT2 : Hid (Three w.heap.size W H (.slice a n cap) W' H' (.slice a' n' cap') w2) := HT1.out.below hb
    have hs2 := hb.size
    have HB2 : Hid (Below w.heap.size w w2) := Below.next HB1.out (Nat.le_refl _) hb
    clear hA' hb HT1 HB1
    go_wp2_with fail
    refine bodyPost_ret (v := im 0 0 none 0 0) (by simp [results, Try.results33, go_sem, z0, z1, z2]) rfl (Added.none HR.out _ _ _ _ ?_ ?_)
    · exact ((HB2.out.setCell (by simp; omega) _).setCell (by simp; omega) _).setCell (by simp; omega) _
    · simp; omega
  by_cases hW : W = W'
  case neg =>
    have HR : Hid (addB W H n f W' H' n' g = false) := by show _ = _; unfold addB; rw [decide_eq_false hW]; simp
    have hWb : (W != W') = true := by simp [hW]
    rw [hq] at hA
    rw [hq'] at hA'
    clear hq hq' hW
    generalize addB W H n f W' H' n' g = r at *
    go_enter Try.func33, Try.ntmps33
    go_wp2_with fail
    refine (hA _ (HP.out.below HB0.out)).mono ?_
    rintro e w1 ⟨rfl, hb⟩
    obtain ⟨⟨i0, i1, i2⟩, ⟨j0, j1, j2⟩, ⟨z0, z1, z2⟩, ⟨e0, e1, e2⟩⟩ := HT0.out.below hb
    have HT1 : Hid (Three w.heap.size W H (.slice a n cap) W' H' (.slice a' n' cap') w1) := HT0.out.below hb
    have hs1 := hb.size
    rw [HS0.out] at hs1
    have HB1 : Hid (Below w.heap.size w w1) := Below.next HB0.out (Nat.le_refl _) hb
    clear hA hb HT0 HB0 HS0
    go_wp2_with fail
    refine (hA' _ (HP'.out.below HB1.out)).mono ?_
    rintro e w2 ⟨rfl, hb⟩
    clear i0 i1 i2 j0 j1 j2 z0 z1 z2 e0 e1 e2
    obtain ⟨⟨i0, i1, i2⟩, ⟨j0, j1, j2⟩, ⟨z0, z1, z2⟩, ⟨e0, e1, e2⟩⟩ := HT1.out.below hb
    have HT2 : Hid (Three w.heap.size W H (.slice a n cap) W' H' (.slice a' n' cap') w2) := HT1.out.below hb
    have hs2 := hb.size
    have HB2 : Hid (Below w.heap.size w w2) := Below.next HB1.out (Nat.le_refl _) hb
    clear hA' hb HT1 HB1
    go_wp2_with fail
    refine bodyPost_ret (v := im 0 0 none 0 0) (by simp [results, Try.results33, go_sem, z0, z1, z2]) rfl (Added.none HR.out _ _ _ _ ?_ ?_)
    · exact ((HB2.out.setCell (by simp; omega) _).setCell (by simp; omega) _).setCell (by simp; omega) _
    · simp; omega
  subst hW
  by_cases hH : H = H'
  case neg =>
    have HR : Hid (addB W H n f W H' n' g = false) := by show _ = _; unfold addB; rw [decide_eq_false hH]; simp
    have hHb : (H != H') = true := by simp [hH]
    have hWb : (W != W) = false := by simp
    rw [hq] at hA
    rw [hq'] at hA'
    clear hq hq' hH
    generalize addB W H n f W H' n' g = r at *
    go_enter Try.func33, Try.ntmps33
    go_wp2_with fail
    refine (hA _ (HP.out.below HB0.out)).mono ?_
    rintro e w1 ⟨rfl, hb⟩
    obtain ⟨⟨i0, i1, i2⟩, ⟨j0, j1, j2⟩, ⟨z0, z1, z2⟩, ⟨e0, e1, e2⟩⟩ := HT0.out.below hb
    have HT1 : Hid (Three w.heap.size W H (.slice a n cap) W H' (.slice a' n' cap') w1) := HT0.out.below hb
    have hs1 := hb.size
    rw [HS0.out] at hs1
    have HB1 : Hid (Below w.heap.size w w1) := Below.next HB0.out (Nat.le_refl _) hb
    clear hA hb HT0 HB0 HS0
    go_wp2_with fail
    refine (hA' _ (HP'.out.below HB1.out)).mono ?_
    rintro e w2 ⟨rfl, hb⟩
    clear i0 i1 i2 j0 j1 j2 z0 z1 z2 e0 e1 e2
    obtain ⟨⟨i0, i1, i2⟩, ⟨j0, j1, j2⟩, ⟨z0, z1, z2⟩, ⟨e0, e1, e2⟩⟩ := HT1.out.below hb
    have HT2 : Hid (Three w.heap.size W H (.slice a n cap) W H' (.slice a' n' cap') w2) := HT1.out.below hb
    have hs2 := hb.size
    have HB2 : Hid (Below w.heap.size w w2) := Below.next HB1.out (Nat.le_refl _) hb
    clear hA' hb HT1 HB1
    go_wp2_with fail
    refine bodyPost_ret (v := im 0 0 none 0 0) (by simp [results, Try.results33, go_sem, z0, z1, z2]) rfl (Added.none HR.out _ _ _ _ ?_ ?_)
    · exact ((HB2.out.setCell (by simp; omega) _).setCell (by simp; omega) _).setCell (by simp; omega) _
    · simp; omega
  subst hH
  exact specAdd_main W H a n cap f hl a' n' cap' g hl' w HP.out HP'.out hq hq'

end Go.Proofs.Ytadeajdjjcelhaa

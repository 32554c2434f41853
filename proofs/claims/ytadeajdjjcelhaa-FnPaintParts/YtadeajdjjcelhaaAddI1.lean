/- Adding images: the program. -/
import Derived.Test.YtadeajdjjcelhaaAddS1
import Derived.Test.YtadeajdjjcelhaaOkI
namespace Go.Proofs.Ytadeajdjjcelhaa
open Go.RowKit

theorem bnewA (w : World) (o : Obj) : Below w.heap.size w (w.alloc o) := (Below.refl _ _).alloc (Nat.le_refl _) o

set_option maxRecDepth 100000 in
set_option maxHeartbeats 1000000 in
theorem sameSize_any (W H : Int) (a : Option Addr) (n cap : Nat) (W' H' : Int) (a' : Option Addr) (n' cap' : Nat) (w : World) :
    Calls Try.prog 46 #[im W H a n cap, im W' H' a' n' cap'] w fun e w' => e = .returned (.bool (decide (W = W') && decide (H = H'))) ∧ Below w.heap.size w w' := by
  have HB : Hid (∀ o o', Below w.heap.size w ((w.alloc o).alloc o')) := fun o o' => (bnewA _ _).alloc (by simp) _
  by_cases h1 : W = W'
  · have q1 : (W == W') = true := by simp [h1]
    have HH : Hid ((H == H') = decide (H = H')) := by show _ = _; by_cases h : H = H' <;> simp [h]
    rw [decide_eq_true h1, Bool.true_and]
    clear h1
    go_enter Try.func46, Try.ntmps46
    go_wp2_with fail
    go_ret
    exact ⟨by rw [← HH.out]; rfl, HB.out _ _⟩
  · have q1 : (W == W') = false := by simp [h1]
    rw [decide_eq_false h1, Bool.false_and]
    clear h1
    go_enter Try.func46, Try.ntmps46
    go_wp2_with fail
    go_ret
    exact ⟨rfl, HB.out _ _⟩

set_option maxHeartbeats 2000000 in
theorem implAdd_main (W H : Int) (a : Option Addr) (n cap : Nat) (f : Nat → Int) (hl : n ≤ 1048576) (a' : Option Addr) (n' cap' : Nat) (g : Nat → Int) (hl' : n' ≤ 1048576) (w : World) (h : Px a n f w) (h' : Px a' n' g w) (hq : okB W H n f = true) (hq' : okB W H n' g = true) :
    Calls Try.prog 15 #[im W H a n cap, im W H a' n' cap'] w (Added (addB W H n f W H n' g) W H n (plus f g) w) := by
  have hA := implOk_any W H a n cap f hl
  have hA' := implOk_any W H a' n' cap' g hl'
  have HP : Hid (Px a n f w) := h
  have HP' : Hid (Px a' n' g w) := h'
  obtain ⟨q1, q2, q3, q4⟩ := okB_parts hq
  obtain ⟨_, _, q3', _⟩ := okB_parts hq'
  obtain ⟨p1, p2⟩ := prod_bounds q1 q2
  obtain rfl : n = n' := by omega
  have HB0 : Hid (Below w.heap.size w (three w W H (.slice a n cap) W H (.slice a' n cap'))) := three_below _ _ _ _ _ _ _
  have HT0 : Hid (Three w.heap.size W H (.slice a n cap) W H (.slice a' n cap') (three w W H (.slice a n cap) W H (.slice a' n cap'))) := Three.start _ _ _ _ _ _ _
  have HS0 : Hid ((three w W H (.slice a n cap) W H (.slice a' n cap')).heap.size = w.heap.size + 3) := three_size _ _ _ _ _ _ _
  clear h h'
  have hn4 : n ≤ 4096 := by omega
  have hn1 : 0 < n := by omega
  have hmk := fun w => make_px n (by omega) w
  have HR : Hid (addB W H n f W H n g = allB (plus f g) n) := by show _ = _; unfold addB; rw [hq, hq', decide_eq_true rfl, decide_eq_true rfl]; simp
  rw [hq] at hA
  rw [hq'] at hA'
  clear hq hq' q1 q2 q3 q4 q3' p1 p2 hl hl'
  go_enter Try.func15, Try.ntmps15
  go_wp2_with fail
  refine (hA _ (HP.out.below HB0.out)).mono ?_
  rintro e w1 ⟨rfl, hb⟩
  obtain ⟨⟨i0, i1, i2⟩, ⟨j0, j1, j2⟩, ⟨z0, z1, z2⟩, ⟨e0, e1, e2⟩⟩ := HT0.out.below hb
  have HT1 : Hid (Three w.heap.size W H (.slice a n cap) W H (.slice a' n cap') w1) := HT0.out.below hb
  have hs1 := hb.size
  rw [HS0.out] at hs1
  have HB1 : Hid (Below w.heap.size w w1) := Below.next HB0.out (Nat.le_refl _) hb
  clear hA hb HT0 HB0 HS0
  go_wp2_with fail
  refine (hA' _ (HP'.out.below HB1.out)).mono ?_
  rintro e w2 ⟨rfl, hb⟩
  clear i0 i1 i2 j0 j1 j2 z0 z1 z2 e0 e1 e2
  obtain ⟨⟨i0, i1, i2⟩, ⟨j0, j1, j2⟩, ⟨z0, z1, z2⟩, ⟨e0, e1, e2⟩⟩ := HT1.out.below hb
  have HT2 : Hid (Three w.heap.size W H (.slice a n cap) W H (.slice a' n cap') w2) := HT1.out.below hb
  have hs2 := hb.size
  have HB2 : Hid (Below w.heap.size w w2) := Below.next HB1.out (Nat.le_refl _) hb
  clear hA' hb HT1 HB1
  have cS : Calls Try.prog 46 #[im W H a n cap, im W H a' n cap'] w2 fun e w' => e = .returned (.bool true) ∧ Below w2.heap.size w2 w' := by
    have := sameSize_any W H a n cap W H a' n cap' w2
    rwa [show (decide (W = W) && decide (H = H)) = true by simp] at this
  go_wp2_with fail
  refine cS.mono ?_
  rintro e w3 ⟨rfl, hb⟩
  clear i0 i1 i2 j0 j1 j2 z0 z1 z2 e0 e1 e2
  obtain ⟨⟨i0, i1, i2⟩, ⟨j0, j1, j2⟩, ⟨z0, z1, z2⟩, ⟨e0, e1, e2⟩⟩ := HT2.out.below hb
  have HT3 : Hid (Three w.heap.size W H (.slice a n cap) W H (.slice a' n cap') w3) := HT2.out.below hb
  have hs3 := hb.size
  have HB3 : Hid (Below w.heap.size w w3) := Below.next HB2.out (Nat.le_refl _) hb
  clear cS hb HT2 HB2
  have hbA : Below w3.heap.size w3 (w3.alloc (.cells (madeCells #[.int .i64 0] n) 2)) := (Below.refl _ _).alloc (Nat.le_refl _) _
  have HT4 : Hid (Three w.heap.size W H (.slice a n cap) W H (.slice a' n cap') (w3.alloc (.cells (madeCells #[.int .i64 0] n) 2))) := HT3.out.below hbA
  have HR4 : Hid (Row w3.heap.size n (fun _ => 0) (w3.alloc (.cells (madeCells #[.int .i64 0] n) 2))) := row_new n w3
  have HB4 : Hid (Below w.heap.size w (w3.alloc (.cells (madeCells #[.int .i64 0] n) 2))) := Below.next HB3.out (Nat.le_refl _) hbA
  clear hbA HT3 HB3
  obtain ⟨b, off, rfl, hblt⟩ := HP.out.lt hn1
  obtain ⟨b', off', rfl, hblt'⟩ := HP'.out.lt hn1
  go_wp2_with fail
  clear hmk
  go_loopw [6, 28] (fun _ i wr => ∃ k : Nat, k ≤ n ∧ i = .int .i64 k ∧ Kept w3.heap.size (w3.alloc (.cells (madeCells #[.int .i64 0] n) 2)) wr ∧ Part w3.heap.size n k (plus f g) wr ∧ allB (plus f g) k = true) (fun _ i _ => n - (intOf i).toNat)
  case atStart => exact ⟨0, by omega, rfl, Kept.refl _ _, HR4.out.part, rfl⟩
  case round =>
    obtain ⟨k, hk, rfl, hkept, hpart, hall⟩ := hrel
    obtain ⟨⟨i0, i1, i2⟩, ⟨j0, j1, j2⟩, ⟨z0, z1, z2⟩, ⟨e0, e1, e2⟩⟩ := HT4.out.kept hkept (by omega)
    have HK : Hid (Kept w3.heap.size (w3.alloc (.cells (madeCells #[.int .i64 0] n) 2)) wr) := hkept
    have HB5 : Hid (Below w.heap.size w wr) := HB4.out.trans (hkept.below (by omega) HB4.out.size)
    have HAll : Hid (allB (plus f g) k = true) := hall
    clear hall
    by_cases hlt : k < n
    · obtain ⟨_, _, hsa, hza⟩ := (HP.out.below HB5.out).at hlt
      obtain ⟨_, _, hsb, hzb⟩ := (HP'.out.below HB5.out).at hlt
      cases hsa
      cases hsb
      obtain ⟨⟨y, hy, _⟩, fr⟩ := hpart k hlt
      have HPt : Hid (Part w3.heap.size n (k + 1) (plus f g) (wr.setCell ⟨w3.heap.size, k, none⟩ (.int .i64 (IntKind.i64.wrap (f k + g k)))).drew) := (hpart.step hlt _ (wrap_plus f g k)).drew
      have HKt : Hid (Kept w3.heap.size (w3.alloc (.cells (madeCells #[.int .i64 0] n) 2)) (wr.setCell ⟨w3.heap.size, k, none⟩ (.int .i64 (IntKind.i64.wrap (f k + g k)))).drew) := (hkept.setCell rfl _).drew
      clear hpart hkept HP HP'
      go_wp2_with fail
      go_region_held (fun w' => w'.cell? ⟨w.heap.size, 2, none⟩ = some (.slice (some ⟨b, off, none⟩) n cap) ∧ w'.cell? ⟨w.heap.size + 1, 2, none⟩ = some (.slice (some ⟨b', off', none⟩) n cap') ∧ w'.cell? ⟨b, off + k, none⟩ = some (.int .i64 (f k)) ∧ w'.cell? ⟨b', off' + k, none⟩ = some (.int .i64 (g k)))
        ((first | exact ⟨i2, j2, hza, hzb⟩ | (refine ⟨?_, ?_, ?_, ?_⟩ <;> (refine Eq.trans (World.cell?_setCell_other wr _ _ _ (by simp; try omega)) ?_; first | exact i2 | exact j2 | exact hza | exact hzb))))
        (fail)
      generalize (wr.setCell ⟨w3.heap.size, k, none⟩ (.int .i64 (IntKind.i64.wrap (f k + g k)))).drew = wz at *
      clear hza hzb hy fr i0 i1 i2 j0 j1 j2 z0 z1 z2 e0 e1 e2 HB5 HK
      have hcall := within_any (plus f g k) (-1000000000) 1000000000
      obtain ⟨⟨y, hy, hyp⟩, _⟩ := HPt.out k hlt
      rw [hyp (Nat.lt_succ_self k)] at hy
      clear hyp
      have HT5 : Hid (Three w.heap.size W H (.slice (some ⟨b, off, none⟩) n cap) W H (.slice (some ⟨b', off', none⟩) n cap') wz) := HT4.out.kept HKt.out (by omega)
      have HB6 : Hid (Below w.heap.size w wz) := HB4.out.trans (HKt.out.below (by omega) HB4.out.size)
      have hs5 : w3.heap.size + 1 ≤ wz.heap.size := by
        have := HKt.out.size
        simp at this
        omega
      obtain ⟨_, _, ⟨z0, z1, z2⟩, ⟨e0, e1, e2⟩⟩ := HT5.out
      cases hin : inB (plus f g k) (-1000000000) 1000000000
      · rw [hin] at hcall
        have HR' : Hid (addB W H n f W H n g = false) := HR.out.trans (allB_false hlt hin)
        clear hin
        go_wp2_with fail
        refine (hcall _).mono ?_
        rintro e w5 ⟨rfl, rfl⟩
        clear hcall
        go_wp2_with fail
        refine bodyPost_ret (v := im 0 0 none 0 0) (by simp [results, Try.results15, go_sem, z0, z1, z2]) rfl (Added.none HR'.out _ _ _ _ ?_ ?_)
        · exact ((HB6.out.setCell (by simp; omega) _).setCell (by simp; omega) _).setCell (by simp; omega) _
        · simp; omega
      · rw [hin] at hcall
        have HA' : Hid (allB (plus f g) (k + 1) = true) := allB_step HAll.out hin
        clear hin
        go_wp2_with fail
        refine (hcall _).mono ?_
        rintro e w5 ⟨rfl, rfl⟩
        clear hcall
        go_wp2_with fail
        exact ⟨⟨k + 1, by omega, rfl, HKt.out, HPt.out, HA'.out⟩, by simp [intOf]; omega⟩
    · obtain rfl : k = n := by omega
      have HRow : Hid (Row w3.heap.size k (plus f g) wr) := hpart.row
      have HR' : Hid (addB W H k f W H k g = true) := HR.out.trans HAll.out
      clear hpart hkept HP HP'
      have hs5 : w3.heap.size + 1 ≤ wr.heap.size := by
        have := HK.out.size
        simp at this
        omega
      go_wp2_with fail
      refine bodyPost_ret (v := im W H (some ⟨w3.heap.size, 0, none⟩) k k) (by simp [results, Try.results15, go_sem, z0, z1, z2]) rfl (Added.some HR'.out _ _ _ _ w3.heap.size ?_ ?_ ?_ ?_)
      · exact ((HRow.out.set (by simp; omega) _).set (by simp; omega) _).set (by simp; omega) _
      · omega
      · simp; omega
      · exact ((HB5.out.setCell (by simp; omega) _).setCell (by simp; omega) _).setCell (by simp; omega) _

end Go.Proofs.Ytadeajdjjcelhaa

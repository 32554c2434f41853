/- Adding images: the specification. -/
import Derived.Test.YtadeajdjjcelhaaAdd
namespace Go.Proofs.Ytadeajdjjcelhaa
open Go.RowKit

theorem Added.some {r : Bool} (hr : r = true) (W H : Int) (n : Nat) (s : Nat → Int) {w w' : World} (b : Nat) (h : Row b n s w') (h1 : w.heap.size ≤ b) (h2 : b < w'.heap.size) (hb : Below w.heap.size w w') :
    Added r W H n s w (.returned (im W H (Option.some ⟨b, 0, Option.none⟩) n n)) w' := by
  subst hr
  exact ⟨_, b, rfl, .inr ⟨rfl, h⟩, h1, h2, hb⟩

theorem wrap_plus (f g : Nat → Int) (k : Nat) : IntKind.i64.wrap (f k + g k) = plus f g k := by
  unfold plus wrap64; rw [IntKind.wrap_i64]

set_option maxHeartbeats 2000000 in
theorem specAdd_main (W H : Int) (a : Option Addr) (n cap : Nat) (f : Nat → Int) (hl : n ≤ 1048576) (a' : Option Addr) (n' cap' : Nat) (g : Nat → Int) (hl' : n' ≤ 1048576) (w : World) (h : Px a n f w) (h' : Px a' n' g w) (hq : okB W H n f = true) (hq' : okB W H n' g = true) :
    Calls Try.prog 33 #[im W H a n cap, im W H a' n' cap'] w (Added (addB W H n f W H n' g) W H n (plus f g) w) := by
  have hA := specOk_any W H a n cap f hl
  have hA' := specOk_any W H a' n' cap' g hl'
  have HP : Hid (Px a n f w) := h
  have HP' : Hid (Px a' n' g w) := h'
  obtain ⟨q1, q2, q3, q4⟩ := okB_parts hq
  obtain ⟨_, _, q3', _⟩ := okB_parts hq'
  obtain ⟨p1, p2⟩ := prod_bounds q1 q2
  obtain rfl : n = n' := by omega
  have HB0 : Hid (Below w.heap.size w (three w W H (.slice a n cap) W H (.slice a' n cap'))) := three_below _ _ _ _ _ _ _
  have HT0 : Hid (Three w.heap.size W H (.slice a n cap) W H (.slice a' n cap') (three w W H (.slice a n cap) W H (.slice a' n cap'))) := Three.start _ _ _ _ _ _ _
  have HS0 : Hid ((three w W H (.slice a n cap) W H (.slice a' n cap')).heap.size = w.heap.size + 3) := three_size _ _ _ _ _ _ _
  clear h h'
  have hn4 : n ≤ 4096 := by omega
  have hn1 : 0 < n := by omega
  have hnew := l2New_any W H n (by omega) hn4
  have HR : Hid (addB W H n f W H n g = allB (plus f g) n) := by show _ = _; unfold addB; rw [hq, hq', decide_eq_true rfl, decide_eq_true rfl]; simp
  have HO : Hid (okB W H n (plus f g) = allB (plus f g) n) := by show _ = _; unfold okB; rw [q1, q2, decide_eq_true q3]; simp
  have hWb : (W != W) = false := by simp
  have hHb : (H != H) = false := by simp
  rw [hq] at hA
  rw [hq'] at hA'
  clear hq hq' q1 q2 q3 q4 q3' p1 p2 hl hl'
  go_enter Try.func33, Try.ntmps33
  go_wp2_with fail
  refine (hA _ (HP.out.below HB0.out)).mono ?_
  rintro e w1 ⟨rfl, hb⟩
  obtain ⟨⟨i0, i1, i2⟩, ⟨j0, j1, j2⟩, ⟨z0, z1, z2⟩, ⟨e0, e1, e2⟩⟩ := HT0.out.below hb
  have HT1 : Hid (Three w.heap.size W H (.slice a n cap) W H (.slice a' n cap') w1) := HT0.out.below hb
  have hs1 := hb.size
  rw [HS0.out] at hs1
  have HB1 : Hid (Below w.heap.size w w1) := Below.next HB0.out (Nat.le_refl _) hb
  clear hA hb HT0 HB0 HS0
  go_wp2_with fail
  refine (hA' _ (HP'.out.below HB1.out)).mono ?_
  rintro e w2 ⟨rfl, hb⟩
  clear i0 i1 i2 j0 j1 j2 z0 z1 z2 e0 e1 e2
  obtain ⟨⟨i0, i1, i2⟩, ⟨j0, j1, j2⟩, ⟨z0, z1, z2⟩, ⟨e0, e1, e2⟩⟩ := HT1.out.below hb
  have HT2 : Hid (Three w.heap.size W H (.slice a n cap) W H (.slice a' n cap') w2) := HT1.out.below hb
  have hs2 := hb.size
  have HB2 : Hid (Below w.heap.size w w2) := Below.next HB1.out (Nat.le_refl _) hb
  clear hA' hb HT1 HB1
  go_wp2_with fail
  refine (hnew _).mono ?_
  rintro e w3 ⟨rfl, hr3, hb, hs3⟩
  clear i0 i1 i2 j0 j1 j2 z0 z1 z2 e0 e1 e2
  have hbA : Below w3.heap.size w3 (w3.alloc (.cells #[.int .i64 W, .int .i64 H, .slice (some ⟨w2.heap.size + 1, 0, none⟩) n n] 29)) := (Below.refl _ _).alloc (Nat.le_refl _) _
  have HT4 : Hid (Three w.heap.size W H (.slice a n cap) W H (.slice a' n cap') (w3.alloc (.cells #[.int .i64 W, .int .i64 H, .slice (some ⟨w2.heap.size + 1, 0, none⟩) n n] 29))) := (HT2.out.below hb).below hbA
  have HI4 : Hid (Im w3.heap.size W H (.slice (some ⟨w2.heap.size + 1, 0, none⟩) n n) (w3.alloc (.cells #[.int .i64 W, .int .i64 H, .slice (some ⟨w2.heap.size + 1, 0, none⟩) n n] 29))) := Im.new _ _ _ _ _
  have HR4 : Hid (Row (w2.heap.size + 1) n (fun _ => 0) (w3.alloc (.cells #[.int .i64 W, .int .i64 H, .slice (some ⟨w2.heap.size + 1, 0, none⟩) n n] 29))) := hr3.below hbA hs3
  have HB4 : Hid (Below w.heap.size w (w3.alloc (.cells #[.int .i64 W, .int .i64 H, .slice (some ⟨w2.heap.size + 1, 0, none⟩) n n] 29))) := Below.next (Below.next HB2.out (Nat.le_refl _) hb) (Nat.le_refl _) hbA
  have hs2' := hb.size
  clear hnew hb hr3 hbA HT2 HB2
  obtain ⟨b, off, rfl, hblt⟩ := HP.out.lt hn1
  obtain ⟨b', off', rfl, hblt'⟩ := HP'.out.lt hn1
  go_wp2_with fail
  go_loopw [6] (fun i wr => ∃ k : Nat, k ≤ n ∧ i = .int .i64 k ∧ Kept (w2.heap.size + 1) (w3.alloc (.cells #[.int .i64 W, .int .i64 H, .slice (some ⟨w2.heap.size + 1, 0, none⟩) n n] 29)) wr ∧ Part (w2.heap.size + 1) n k (plus f g) wr) (fun i _ => n - (intOf i).toNat)
  case atStart => exact ⟨0, by omega, rfl, Kept.refl _ _, HR4.out.part⟩
  case round =>
    obtain ⟨k, hk, rfl, hkept, hpart⟩ := hrel
    obtain ⟨⟨i0, i1, i2⟩, ⟨j0, j1, j2⟩, ⟨z0, z1, z2⟩, ⟨e0, e1, e2⟩⟩ := HT4.out.kept hkept (by omega)
    obtain ⟨l0, l1, l2⟩ := HI4.out.kept hkept (by omega)
    have HK : Hid (Kept (w2.heap.size + 1) (w3.alloc (.cells #[.int .i64 W, .int .i64 H, .slice (some ⟨w2.heap.size + 1, 0, none⟩) n n] 29)) wr) := hkept
    have HB5 : Hid (Below w.heap.size w wr) := HB4.out.trans (hkept.below (by omega) HB4.out.size)
    by_cases hlt : k < n
    · obtain ⟨_, _, hsa, hza⟩ := (HP.out.below HB5.out).at hlt
      obtain ⟨_, _, hsb, hzb⟩ := (HP'.out.below HB5.out).at hlt
      cases hsa
      cases hsb
      obtain ⟨⟨y, hy, _⟩, fr⟩ := hpart k hlt
      have HPt : Hid (Part (w2.heap.size + 1) n (k + 1) (plus f g) (wr.setCell ⟨w2.heap.size + 1, k, none⟩ (.int .i64 (IntKind.i64.wrap (f k + g k)))).drew) := (hpart.step hlt _ (wrap_plus f g k)).drew
      have HKt : Hid (Kept (w2.heap.size + 1) (w3.alloc (.cells #[.int .i64 W, .int .i64 H, .slice (some ⟨w2.heap.size + 1, 0, none⟩) n n] 29)) (wr.setCell ⟨w2.heap.size + 1, k, none⟩ (.int .i64 (IntKind.i64.wrap (f k + g k)))).drew) := (hkept.setCell rfl _).drew
      clear hpart hkept HP HP'
      go_wp2_with fail
      go_region_held (fun w' => w'.cell? ⟨w.heap.size, 2, none⟩ = some (.slice (some ⟨b, off, none⟩) n cap) ∧ w'.cell? ⟨w.heap.size + 1, 2, none⟩ = some (.slice (some ⟨b', off', none⟩) n cap') ∧ w'.cell? ⟨w3.heap.size, 2, none⟩ = some (.slice (some ⟨w2.heap.size + 1, 0, none⟩) n n) ∧ w'.cell? ⟨b, off + k, none⟩ = some (.int .i64 (f k)) ∧ w'.cell? ⟨b', off' + k, none⟩ = some (.int .i64 (g k)))
        ((first | exact ⟨i2, j2, l2, hza, hzb⟩ | (refine ⟨?_, ?_, ?_, ?_, ?_⟩ <;> (refine Eq.trans (World.cell?_setCell_other wr _ _ _ (by simp; try omega)) ?_; first | exact i2 | exact j2 | exact l2 | exact hza | exact hzb))))
        (fail)
      generalize (wr.setCell ⟨w2.heap.size + 1, k, none⟩ (.int .i64 (IntKind.i64.wrap (f k + g k)))).drew = wz at *
      clear hza hzb hy fr i0 i1 i2 j0 j1 j2 z0 z1 z2 e0 e1 e2 l0 l1 l2 HB5 HK
      go_wp2_with fail
      exact ⟨⟨k + 1, by omega, rfl, HKt.out, HPt.out⟩, by simp [intOf]; omega⟩
    · obtain rfl : k = n := by omega
      have HRow : Hid (Row (w2.heap.size + 1) k (plus f g) wr) := hpart.row
      have hok := specOk_any W H (some ⟨w2.heap.size + 1, 0, none⟩) k k (plus f g) (by omega) wr HRow.out.px
      clear hpart hkept HP HP'
      rw [HO.out] at hok
      have hsw := HK.out.size
      have hs4 : w2.heap.size + 3 ≤ wr.heap.size := by
        have := HK.out.size
        simp at this
        omega
      have HT5 : Hid (Three w.heap.size W H (.slice (some ⟨b, off, none⟩) k cap) W H (.slice (some ⟨b', off', none⟩) k cap') wr) := HT4.out.kept HK.out (by omega)
      have HI5 : Hid (Im w3.heap.size W H (.slice (some ⟨w2.heap.size + 1, 0, none⟩) k k) wr) := HI4.out.kept HK.out (by omega)
      clear HT4 HI4 HK HB4 HR4 HO
      cases hall : allB (plus f g) k
      · rw [hall] at hok
        have HR' : Hid (addB W H k f W H k g = false) := HR.out.trans hall
        clear hall
        go_wp2_with fail
        refine hok.mono ?_
        rintro e w5 ⟨rfl, hb⟩
        clear i0 i1 i2 j0 j1 j2 z0 z1 z2 e0 e1 e2 l0 l1 l2 hok
        obtain ⟨⟨i0, i1, i2⟩, ⟨j0, j1, j2⟩, ⟨z0, z1, z2⟩, ⟨e0, e1, e2⟩⟩ := HT5.out.below hb
        have HB6 : Hid (Below w.heap.size w w5) := Below.next HB5.out (Nat.le_refl _) hb
        have hs5 := hb.size
        clear hb
        go_wp2_with fail
        refine bodyPost_ret (v := im 0 0 none 0 0) (by simp [results, Try.results33, go_sem, z0, z1, z2]) rfl (Added.none HR'.out _ _ _ _ ?_ ?_)
        · exact ((HB6.out.setCell (by simp; omega) _).setCell (by simp; omega) _).setCell (by simp; omega) _
        · simp; omega
      · rw [hall] at hok
        have HR' : Hid (addB W H k f W H k g = true) := HR.out.trans hall
        clear hall
        go_wp2_with fail
        refine hok.mono ?_
        rintro e w5 ⟨rfl, hb⟩
        clear i0 i1 i2 j0 j1 j2 z0 z1 z2 e0 e1 e2 l0 l1 l2 hok
        obtain ⟨⟨i0, i1, i2⟩, ⟨j0, j1, j2⟩, ⟨z0, z1, z2⟩, ⟨e0, e1, e2⟩⟩ := HT5.out.below hb
        obtain ⟨l0, l1, l2⟩ := HI5.out.below hb
        have HRow5 : Hid (Row (w2.heap.size + 1) k (plus f g) w5) := HRow.out.below hb (by omega)
        have HB6 : Hid (Below w.heap.size w w5) := Below.next HB5.out (Nat.le_refl _) hb
        have hs5 := hb.size
        clear hb
        go_wp2_with fail
        refine bodyPost_ret (v := im W H (some ⟨w2.heap.size + 1, 0, none⟩) k k) (by simp [results, Try.results33, go_sem, z0, z1, z2]) rfl (Added.some HR'.out _ _ _ _ (w2.heap.size + 1) ?_ ?_ ?_ ?_)
        · exact ((HRow5.out.set (by simp; omega) _).set (by simp; omega) _).set (by simp; omega) _
        · omega
        · simp; omega
        · exact ((HB6.out.setCell (by simp; omega) _).setCell (by simp; omega) _).setCell (by simp; omega) _

end Go.Proofs.Ytadeajdjjcelhaa

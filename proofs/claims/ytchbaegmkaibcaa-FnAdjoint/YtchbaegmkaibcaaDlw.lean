/- Dilate, the specification, walked. -/
import Derived.Test.YtchbaegmkaibcaaDls
namespace Go.Proofs.Ytchbaegmkaibcaa
open Go.RowKit

set_option maxRecDepth 100000 in
set_option maxHeartbeats 2000000 in
theorem specDilate_any (W H : Int) (a : Option Addr) (n cap : Nat) (f : Nat → Int) (hl : n ≤ 1048576) (a2 : Option Addr) (m cap2 : Nat) (g : Nat → Int) (hm : m ≤ 1048576) (w : World) (h : Px a n f w) (h2 : Px a2 (m * 2) g w) :
    Calls Try.prog 7 #[im W H a n cap, .slice a2 m cap2] w (ImR (pickI (mbB W H n f m g) W) (pickI (mbB W H n f m g) H) (pickN (mbB W H n f m g) n) (dilS W H f m g) w) := by
  have HS0 := hide (((St.start w).box [.int .i64 W, .int .i64 H, .slice a n cap] 26).box' [.int .i64 0, .int .i64 0, .slice none 0 0] 26 (b := w.heap.size + 1) (by simp))
  have HP := hide h
  have HQ := hide h2
  have cM := l7Mask_any W H a n cap f hl _ (h.below HS0.out.below)
  have cB := fun w' h => specBrushOk_any a2 m cap2 g hm w' h
  clear h h2
  unfold mbB
  cases hq : maskB W H n f
  · rw [hq] at cM
    rw [Bool.false_and, pickI_f, pickI_f, pickN_f]
    clear hq cB
    go_enter Try.func7, Try.ntmps7
    go_wp2_with fail
    refine cM.mono ?_
    rintro e w1 ⟨rfl, hb⟩
    have HS1 := hide (HS0.out.next hb)
    obtain ⟨z0, z1, z2⟩ := HS1.out.im3 0 rfl
    obtain ⟨e0, e1, e2⟩ := HS1.out.fr3 0 rfl
    clear cM hb HS0
    go_wp2_with fail
    exact bodyPost_ret (v := im 0 0 none 0 0) (by simp [results, Try.results7, go_sem, z0, z1, z2]) rfl ((HS1.out.fill3 _ _ _).imN _)
  rw [hq] at cM
  rw [Bool.true_and]
  cases hq2 : brushB m g
  · rw [hq2] at cB
    rw [pickI_f, pickI_f, pickN_f]
    clear hq hq2
    go_enter Try.func7, Try.ntmps7
    go_wp2_with fail
    refine cM.mono ?_
    rintro e w1 ⟨rfl, hb⟩
    have HS1 := hide (HS0.out.next hb)
    clear cM hb HS0
    go_wp2_with fail
    refine (cB _ (HQ.out.below HS1.out.below)).mono ?_
    rintro e w2 ⟨rfl, hb⟩
    have HS2 := hide (HS1.out.next hb)
    obtain ⟨z0, z1, z2⟩ := HS2.out.im3 0 rfl
    obtain ⟨e0, e1, e2⟩ := HS2.out.fr3 0 rfl
    clear cB hb HS1
    go_wp2_with fail
    exact bodyPost_ret (v := im 0 0 none 0 0) (by simp [results, Try.results7, go_sem, z0, z1, z2]) rfl ((HS2.out.fill3 _ _ _).imN _)
  rw [hq2] at cB
  rw [pickI_t, pickI_t, pickN_t]
  obtain ⟨hok, ⟨hW, hW'⟩, ⟨hH, hH'⟩, hn, hn1, hn4, hbit⟩ := maskB_ok hq
  obtain ⟨hm5, hg⟩ := brushB_parts hq2
  have hnew := l2New_any W H n hn.symm hn4
  have hwn : IntKind.i64.wrap (W * H) = (n : Int) := by rw [← hn, IntKind.wrap_i64]; omega
  have HN := hide hn
  have HBit := hide hbit
  have HG := hide hg
  clear hq hq2 hok hn hbit hg hH hH'
  go_enter Try.func7, Try.ntmps7
  go_wp2_with fail
  refine cM.mono ?_
  rintro e w1 ⟨rfl, hb⟩
  have HS1 := hide (HS0.out.next hb)
  clear cM hb HS0
  go_wp2_with fail
  refine (cB _ (HQ.out.below HS1.out.below)).mono ?_
  rintro e w2 ⟨rfl, hb⟩
  have HS2 := hide (HS1.out.next hb)
  obtain ⟨i0, i1, i2⟩ := HS2.out.im3 1 rfl
  clear cB hb HS1
  go_wp2_with fail
  refine (hnew _).mono ?_
  rintro e w3 ⟨rfl, hr, hb, hs⟩
  have HS3 := hide ((HS2.out.own hb hr.v (.inr (by omega))).box [.int .i64 W, .int .i64 H, .slice (some ⟨w2.heap.size + 1, 0, none⟩) n n] 26)
  have h3 : w.heap.size + 1 < w3.heap.size := by
    have := ((HS2.out.next hb).ltB 0 rfl).2
    exact this
  have HB3 : Hid (∀ wr, Below w.heap.size w wr → True) := fun _ _ => trivial
  generalize hB : w2.heap.size + 1 = B at *
  clear hnew hr hb HS2 i0 i1 i2 hs hB HB3
  go_wp2_with fail
  generalize w3.alloc (.cells #[.int .i64 W, .int .i64 H, .slice (some ⟨B, 0, none⟩) n n] 26) = wX at *
  generalize w3.heap.size = C at *
  go_loopw [6, 7, 8, 9] (fun i _ _ _ wr => ∃ k : Nat, k ≤ n ∧ i = .int .i64 k ∧ St w [(C, [.int .i64 W, .int .i64 H, .slice (some ⟨B, 0, none⟩) n n]), (w.heap.size + 1, [.int .i64 0, .int .i64 0, .slice none 0 0]), (w.heap.size, [.int .i64 W, .int .i64 H, .slice a n cap])] [(some ⟨B, 0, none⟩, B, n, fun q => .int .i64 (dlO W H f m g k q))] wr) (fun i _ _ _ _ => n - (intOf i).toNat)
  case atStart => exact ⟨0, by omega, rfl, HS3.out⟩
  case round =>
    obtain ⟨k, hk, rfl, hS⟩ := hrel
    have HS := hide hS
    clear hS HS3
    obtain ⟨i0, i1, i2⟩ := HS.out.im3 2 rfl
    by_cases hlt : k < n
    · go_wp2_with fail
      go_loopw [7, 8, 9] (fun i _ _ wr => ∃ j : Nat, j ≤ m ∧ i = .int .i64 j ∧ St w [(C, [.int .i64 W, .int .i64 H, .slice (some ⟨B, 0, none⟩) n n]), (w.heap.size + 1, [.int .i64 0, .int .i64 0, .slice none 0 0]), (w.heap.size, [.int .i64 W, .int .i64 H, .slice a n cap])] [(some ⟨B, 0, none⟩, B, n, fun q => .int .i64 (dlI W H f g k (dlO W H f m g k) j q))] wr) (fun i _ _ _ => m - (intOf i).toNat)
      case atStart => exact ⟨0, by omega, rfl, HS.out⟩
      case round =>
        obtain ⟨j, hj, rfl, hS⟩ := hrel
        have HT := hide hS
        clear hS HS i0 i1 i2
        by_cases hjl : j < m
        · obtain ⟨i0, i1, i2⟩ := HT.out.im3 2 rfl
          obtain ⟨l0, l1, l2⟩ := HT.out.im3 0 rfl
          obtain ⟨b, off, rfl, hbl, c0, c1⟩ := (HQ.out.below HT.out.below).atSpot2 hjl
          obtain ⟨bf, off2, rfl, c2⟩ := (HP.out.below HT.out.below).at hlt
          obtain ⟨g0, g0'⟩ := HG.out (j * 2) (by omega)
          obtain ⟨g1, g1'⟩ := HG.out (j * 2 + 1) (by omega)
          have hx0 : 0 ≤ (k : Int) % W := Int.emod_nonneg _ (by omega)
          have hx1 : (k : Int) % W < W := Int.emod_lt_of_pos _ (by omega)
          have hy0 : 0 ≤ (k : Int) / W := Int.ediv_nonneg (by omega) (by omega)
          have hy1 : (k : Int) / W ≤ k := Int.ediv_le_self W (by omega)
          have e1 : (k : Int).tmod W = (k : Int) % W := Int.tmod_eq_emod_of_nonneg (by omega)
          have e2 : (k : Int).tdiv W = (k : Int) / W := Int.tdiv_eq_ediv_of_nonneg (by omega)
          have hne : W ≠ 0 := by omega
          have e3 : IntKind.i64.wrap ((k : Int) / W) = (k : Int) / W := by rw [IntKind.wrap_i64]; omega
          have e4 : IntKind.i64.wrap ((k : Int) / W + g (j * 2 + 1)) = dly W g k j := by rw [IntKind.wrap_i64]; unfold dly; omega
          have e5 : IntKind.i64.wrap ((k : Int) % W + g (j * 2)) = dlx W g k j := by rw [IntKind.wrap_i64]; unfold dlx; omega
          have HTd := hide HT.out.drew.drew
          have HB0 : Hid (dlB W H f g k j = false → dlI W H f g k (dlO W H f m g k) (j + 1) = dlI W H f g k (dlO W H f m g k) j) := fun h => by rw [dlI, h]; rfl
          have HB1 : Hid (dlB W H f g k j = true → dlI W H f g k (dlO W H f m g k) (j + 1) = updN (dlI W H f g k (dlO W H f m g k) j) (dly W g k j * W + dlx W g k j).toNat 1) := fun h => by rw [dlI, h]; rfl
          have HDB : Hid (dlB W H f g k j = (decide (f k = 1) && hasB W H (dlx W g k j) (dly W g k j))) := rfl
          have bx0 : -5 ≤ dlx W g k j ∧ dlx W g k j ≤ 100 := by unfold dlx; omega
          have by0 : -5 ≤ dly W g k j ∧ dly W g k j ≤ 5000 := by unfold dly; omega
          clear HG
          generalize dlB W H f g k j = D at *
          generalize dlx W g k j = X at *
          generalize dly W g k j = Y at *
          generalize g (j * 2) = gx at *
          generalize g (j * 2 + 1) = gy at *
          generalize f k = fk at *
          go_wp2_with fail
          go_region
          go_wp2_with fail
          go_region
          clear e1 e2 e3 e4 e5 hx0 hx1 hy0 hy1 c0 c1 g0 g0' g1 g1' HT
          obtain ⟨bx1, bx2⟩ := bx0
          obtain ⟨by1, by2⟩ := by0
          by_cases tf1 : fk = 1
          rotate_left
          · have HDf : Hid (D = false) := by
              show _ = _
              rw [HDB.out]
              cases hq : (decide (fk = 1) && hasB W H X Y)
              · rfl
              · rw [Bool.and_eq_true, decide_eq_true_eq] at hq
                have := hasB_iff.1 hq.2
                omega
            have HE := hide (HB0.out HDf.out)
            clear HB0 HB1 HDB HDf
            go_wp2_with fail
            exact ⟨⟨j + 1, by omega, rfl, by rw [HE.out]; exact HTd.out⟩, by simp [intOf]; omega⟩
          by_cases tx0 : 0 ≤ X
          rotate_left
          · have HDf : Hid (D = false) := by
              show _ = _
              rw [HDB.out]
              cases hq : (decide (fk = 1) && hasB W H X Y)
              · rfl
              · rw [Bool.and_eq_true, decide_eq_true_eq] at hq
                have := hasB_iff.1 hq.2
                omega
            have HE := hide (HB0.out HDf.out)
            clear HB0 HB1 HDB HDf
            go_wp2_with fail
            exact ⟨⟨j + 1, by omega, rfl, by rw [HE.out]; exact HTd.out⟩, by simp [intOf]; omega⟩
          by_cases ty0 : 0 ≤ Y
          rotate_left
          · have HDf : Hid (D = false) := by
              show _ = _
              rw [HDB.out]
              cases hq : (decide (fk = 1) && hasB W H X Y)
              · rfl
              · rw [Bool.and_eq_true, decide_eq_true_eq] at hq
                have := hasB_iff.1 hq.2
                omega
            have HE := hide (HB0.out HDf.out)
            clear HB0 HB1 HDB HDf
            go_wp2_with fail
            exact ⟨⟨j + 1, by omega, rfl, by rw [HE.out]; exact HTd.out⟩, by simp [intOf]; omega⟩
          by_cases tx1 : X < W
          rotate_left
          · have HDf : Hid (D = false) := by
              show _ = _
              rw [HDB.out]
              cases hq : (decide (fk = 1) && hasB W H X Y)
              · rfl
              · rw [Bool.and_eq_true, decide_eq_true_eq] at hq
                have := hasB_iff.1 hq.2
                omega
            have HE := hide (HB0.out HDf.out)
            clear HB0 HB1 HDB HDf
            go_wp2_with fail
            exact ⟨⟨j + 1, by omega, rfl, by rw [HE.out]; exact HTd.out⟩, by simp [intOf]; omega⟩
          by_cases ty1 : Y < H
          rotate_left
          · have HDf : Hid (D = false) := by
              show _ = _
              rw [HDB.out]
              cases hq : (decide (fk = 1) && hasB W H X Y)
              · rfl
              · rw [Bool.and_eq_true, decide_eq_true_eq] at hq
                have := hasB_iff.1 hq.2
                omega
            have HE := hide (HB0.out HDf.out)
            clear HB0 HB1 HDB HDf
            go_wp2_with fail
            exact ⟨⟨j + 1, by omega, rfl, by rw [HE.out]; exact HTd.out⟩, by simp [intOf]; omega⟩
          have hhas : hasB W H X Y = true := hasB_iff.2 ⟨⟨tx0, tx1⟩, ty0, ty1⟩
          have HDt : Hid (D = true) := by
            show _ = _
            rw [HDB.out, hhas, tf1]
            rfl
          obtain ⟨p0, p1⟩ := place_lt hhas HN.out
          have HE := hide (HB1.out HDt.out)
          have hs0 : 0 ≤ Y * W := Int.mul_nonneg ty0 (by omega)
          obtain ⟨s, hs⟩ : ∃ s, Y * W = s := ⟨_, rfl⟩
          have ew : IntKind.i64.wrap (Y * W) = s := by rw [IntKind.wrap_i64, ← hs]; omega
          rw [hs] at p0 p1 hs0 HE
          clear hs hhas HB0 HB1 HDB HDt
          obtain ⟨t, ht⟩ : ∃ t, (s + X).toNat = t := ⟨_, rfl⟩
          have htn : t < n := by omega
          rw [ht] at HE
          obtain ⟨d0, fr⟩ := HTd.out.atO htn
          have HTu := hide (HTd.out.upd htn 1)
          clear HTd
          go_wp2_with fail
          exact ⟨⟨j + 1, by omega, rfl, by rw [HE.out]; exact HTu.out⟩, by simp [intOf]; omega⟩
        · obtain rfl : j = m := by omega
          have HT6 : Hid (St w [(C, [.int .i64 W, .int .i64 H, .slice (some ⟨B, 0, none⟩) n n]), (w.heap.size + 1, [.int .i64 0, .int .i64 0, .slice none 0 0]), (w.heap.size, [.int .i64 W, .int .i64 H, .slice a n cap])] [(some ⟨B, 0, none⟩, B, n, fun q => .int .i64 (dlO W H f j g (k + 1) q))] wr) := HT.out
          clear HT
          go_wp2_with fail
          exact ⟨⟨k + 1, by omega, rfl, HT6.out⟩, by simp [intOf]; omega⟩
    · obtain rfl : k = n := by omega
      have HSe : Hid (St w [(C, [.int .i64 W, .int .i64 H, .slice (some ⟨B, 0, none⟩) k k]), (w.heap.size + 1, [.int .i64 0, .int .i64 0, .slice none 0 0]), (w.heap.size, [.int .i64 W, .int .i64 H, .slice a k cap])] [(some ⟨B, 0, none⟩, B, k, fun q => .int .i64 (dilS W H f m g q))] wr) := by
        refine HS.out.mark0 (by omega) (Kept.refl _ _) ?_
        rcases HS.out.nthO 0 rfl with h | ⟨h0, h⟩
        · exact .inl h
        · exact .inr ⟨h0, Row.congr h (fun q hq => dlO_eq hW HN.out HBit.out m g q hq)⟩
      obtain ⟨l0, l1, l2⟩ := HSe.out.im3 0 rfl
      obtain ⟨z0, z1, z2⟩ := HSe.out.im3 1 rfl
      obtain ⟨e0, e1, e2⟩ := HSe.out.fr3 1 rfl
      clear HS
      go_wp2_with fail
      exact bodyPost_ret (v := im W H (some ⟨B, 0, none⟩) k k) (by simp [results, Try.results7, go_sem, z0, z1, z2]) rfl ((St.fill3' (L1 := [_]) HSe.out _ _ _).imR W H k)

end Go.Proofs.Ytchbaegmkaibcaa

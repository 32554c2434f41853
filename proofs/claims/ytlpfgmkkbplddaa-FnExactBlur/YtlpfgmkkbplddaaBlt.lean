/- Blur, the program: the whole. -/
import Derived.Test.YtlpfgmkkbplddaaBli
namespace Go.Proofs.Ytlpfgmkkbplddaa
open Go.RowKit

set_option maxRecDepth 100000 in
set_option maxHeartbeats 2000000 in
theorem implBlur_any (W H : Int) (a : Option Addr) (n cap : Nat) (f : Nat → Int) (hl : n ≤ 1048576) (ak : Option Addr) (m capk : Nat) (kn : Nat → Int) (hm : m ≤ 1048576) (s : Int) (w : World) (h : Px a n f w) (h2 : Px ak m kn w) :
    Calls Try.prog 48 #[im W H a n cap, .slice ak m capk, .int .i64 s] w (ImR (pickI (bluB W H n f m kn s) W) (pickI (bluB W H n f m kn s) H) (pickN (bluB W H n f m kn s) n) (bluS W H f kn s.toNat) w) := by
  have HS0 := hide (((((St.start w).box [.int .i64 W, .int .i64 H, .slice a n cap] 26).box' [.slice ak m capk] 24 (b := w.heap.size + 1) (by simp)).box' [.int .i64 s] 2 (b := w.heap.size + 2) (by simp)).box' [.int .i64 0, .int .i64 0, .slice none 0 0] 26 (b := w.heap.size + 3) (by simp))
  have HP := hide h
  have HQ := hide h2
  have cM := fun w' h => implOk_any W H a n cap f hl w' h
  have cO : ∀ w', Calls Try.prog 73 #[.int .i64 1, .int .i64 1] w' (SpR 9 (offF 1 1) w') := fun w' => offsetsWithin_any 1 1 (by omega) (by omega) w'
  have cK := fun w' h => allWithin_any (-1000) 1000 ak m capk kn hm w' h
  have cW := fun w' => within_any s 0 16 w'
  clear h h2
  unfold bluB bluA
  cases hq : okB W H n f
  · rw [hq] at cM
    rw [Bool.false_and, Bool.false_and, pickI_f, pickI_f, pickN_f]
    clear hq cK cW
    go_enter Try.func48, Try.ntmps48
    go_wp2_with fail
    refine (cO _).mono ?_
    rintro e w1 ⟨a1, c1, b1, rfl, ho, h1, hb⟩
    have HS1 := hide ((HS0.out.own hb ho.v h1).box [.slice a1 9 c1] 27)
    have hsz : w.heap.size + 3 < w1.heap.size := by
      have := ((HS0.out.next hb).ltB 0 rfl).2
      exact this
    have pM := HP.out.below HS1.out.below
    have HS1b := HS1
    obtain ⟨i0, i1, i2⟩ := HS1b.out.im3 4 rfl
    clear ho h1 hb cO HS1b HS0
    go_wp2_with fail
    refine (cM _ pM).mono ?_
    rintro e w2 ⟨rfl, hb⟩
    have HS2 := hide (HS1.out.next hb)
    clear hb cM pM HS1 i0 i1 i2
    generalize w1.heap.size = C at *
    obtain ⟨z0, z1, z2⟩ := HS2.out.im3 1 rfl
    obtain ⟨f0, f1, f2⟩ := HS2.out.fr3 1 rfl
    go_wp2_with fail
    exact bodyPost_ret (v := im 0 0 none 0 0) (by simp [results, Try.results48, go_sem, z0, z1, z2]) rfl ((St.fill3' (L1 := [_]) HS2.out _ _ _).imN _)
  rw [hq] at cM
  rw [Bool.true_and]
  by_cases hm9 : m = 9
  rotate_left
  · rw [show decide (m = 9) = false by simpa using hm9, Bool.false_and, Bool.false_and, pickI_f, pickI_f, pickN_f]
    have hne : ((m : Int) != 9) = true := by simp; omega
    clear hq cK cW hm9
    go_enter Try.func48, Try.ntmps48
    go_wp2_with fail
    refine (cO _).mono ?_
    rintro e w1 ⟨a1, c1, b1, rfl, ho, h1, hb⟩
    have HS1 := hide ((HS0.out.own hb ho.v h1).box [.slice a1 9 c1] 27)
    have hsz : w.heap.size + 3 < w1.heap.size := by
      have := ((HS0.out.next hb).ltB 0 rfl).2
      exact this
    have pM := HP.out.below HS1.out.below
    have HS1b := HS1
    obtain ⟨i0, i1, i2⟩ := HS1b.out.im3 4 rfl
    clear ho h1 hb cO HS1b HS0
    go_wp2_with fail
    refine (cM _ pM).mono ?_
    rintro e w2 ⟨rfl, hb⟩
    have HS2 := hide (HS1.out.next hb)
    clear hb cM pM HS1 i0 i1 i2
    generalize w1.heap.size = C at *
    have k0 := HS2.out.cell 3 rfl 0 rfl
    have k1 := HS2.out.cell 0 rfl 0 rfl
    obtain ⟨z0, z1, z2⟩ := HS2.out.im3 1 rfl
    obtain ⟨f0, f1, f2⟩ := HS2.out.fr3 1 rfl
    go_wp2_with fail
    exact bodyPost_ret (v := im 0 0 none 0 0) (by simp [results, Try.results48, go_sem, z0, z1, z2]) rfl ((St.fill3' (L1 := [_]) HS2.out _ _ _).imN _)
  subst hm9
  rw [show decide (9 = 9) = true by rfl, Bool.true_and]
  have hne : (((9 : Nat) : Int) != 9) = false := by simp
  cases hq2 : alW kn (-1000) 1000 9
  · rw [hq2] at cK
    rw [Bool.false_and, Bool.false_and, pickI_f, pickI_f, pickN_f]
    clear hq hq2 cW
    go_enter Try.func48, Try.ntmps48
    go_wp2_with fail
    refine (cO _).mono ?_
    rintro e w1 ⟨a1, c1, b1, rfl, ho, h1, hb⟩
    have HS1 := hide ((HS0.out.own hb ho.v h1).box [.slice a1 9 c1] 27)
    have hsz : w.heap.size + 3 < w1.heap.size := by
      have := ((HS0.out.next hb).ltB 0 rfl).2
      exact this
    have pM := HP.out.below HS1.out.below
    have HS1b := HS1
    obtain ⟨i0, i1, i2⟩ := HS1b.out.im3 4 rfl
    clear ho h1 hb cO HS1b HS0
    go_wp2_with fail
    refine (cM _ pM).mono ?_
    rintro e w2 ⟨rfl, hb⟩
    have HS2 := hide (HS1.out.next hb)
    clear hb cM pM HS1 i0 i1 i2
    generalize w1.heap.size = C at *
    have k0 := HS2.out.cell 3 rfl 0 rfl
    have k1 := HS2.out.cell 0 rfl 0 rfl
    go_wp2_with fail
    refine (cK _ (HQ.out.below HS2.out.below)).mono ?_
    rintro e w3 ⟨rfl, rfl⟩
    clear k0 k1 cK
    obtain ⟨z0, z1, z2⟩ := HS2.out.im3 1 rfl
    obtain ⟨f0, f1, f2⟩ := HS2.out.fr3 1 rfl
    go_wp2_with fail
    exact bodyPost_ret (v := im 0 0 none 0 0) (by simp [results, Try.results48, go_sem, z0, z1, z2]) rfl ((St.fill3' (L1 := [_]) HS2.out _ _ _).imN _)
  rw [hq2] at cK
  rw [Bool.true_and]
  cases hq3 : inB s 0 16
  · rw [hq3] at cW
    rw [Bool.false_and, pickI_f, pickI_f, pickN_f]
    clear hq hq2 hq3
    go_enter Try.func48, Try.ntmps48
    go_wp2_with fail
    refine (cO _).mono ?_
    rintro e w1 ⟨a1, c1, b1, rfl, ho, h1, hb⟩
    have HS1 := hide ((HS0.out.own hb ho.v h1).box [.slice a1 9 c1] 27)
    have hsz : w.heap.size + 3 < w1.heap.size := by
      have := ((HS0.out.next hb).ltB 0 rfl).2
      exact this
    have pM := HP.out.below HS1.out.below
    have HS1b := HS1
    obtain ⟨i0, i1, i2⟩ := HS1b.out.im3 4 rfl
    clear ho h1 hb cO HS1b HS0
    go_wp2_with fail
    refine (cM _ pM).mono ?_
    rintro e w2 ⟨rfl, hb⟩
    have HS2 := hide (HS1.out.next hb)
    clear hb cM pM HS1 i0 i1 i2
    generalize w1.heap.size = C at *
    have k0 := HS2.out.cell 3 rfl 0 rfl
    have k1 := HS2.out.cell 0 rfl 0 rfl
    have k2 := HS2.out.cell 2 rfl 0 rfl
    go_wp2_with fail
    refine (cK _ (HQ.out.below HS2.out.below)).mono ?_
    rintro e w3 ⟨rfl, rfl⟩
    clear k0 k1 cK
    go_wp2_with fail
    refine (cW _).mono ?_
    rintro e w4 ⟨rfl, rfl⟩
    clear k2 cW
    obtain ⟨z0, z1, z2⟩ := HS2.out.im3 1 rfl
    obtain ⟨f0, f1, f2⟩ := HS2.out.fr3 1 rfl
    go_wp2_with fail
    exact bodyPost_ret (v := im 0 0 none 0 0) (by simp [results, Try.results48, go_sem, z0, z1, z2]) rfl ((St.fill3' (L1 := [_]) HS2.out _ _ _).imN _)
  rw [hq3] at cW
  rw [Bool.true_and]
  obtain ⟨⟨hW, hW'⟩, ⟨hH, hH'⟩, hn, hn1, hn4, hf⟩ := okB_ok hq
  have hkn := alW_bd hq2
  obtain ⟨hs0, hs1⟩ : 0 ≤ s ∧ s ≤ 16 := by unfold inB at hq3; simpa using hq3
  obtain ⟨t, rfl⟩ : ∃ t : Nat, s = (t : Int) := ⟨s.toNat, by omega⟩
  rw [Int.toNat_natCast]
  have cI := fun x c w' h => image_any W H x n c (bluS W H f kn t) hl w' h
  rw [okB_and hq] at cI
  have cP := fun w' => pictureOf_any W H a n cap w'
  have HF := hide (fun bp bq bk bs x2 c2 w' (hb : Bx bp [.int .i64 W, .int .i64 H, .slice a n cap] w') (hbq : Bx bq [.slice x2 9 c2] w') (hbk : Bx bk [.slice ak 9 capk] w') (hbs : Bx bs [.int .i64 t] w') (hx : Px a n f w') (hy : Px x2 (9 * 2) (offF 1 1) w') (hz : Px ak 9 kn w') =>
    filtered_any W H a n cap hl _ bluPix_fn #[.pointer (some ⟨bp, 0, none⟩), .pointer (some ⟨bq, 0, none⟩), .pointer (some ⟨bk, 0, none⟩), .pointer (some ⟨bs, 0, none⟩)] (bluS W H f kn t) w'
      (fun k wr hk hbr => bluPix_any W H k a n cap f hn hW hW' hH hH' (by omega) hf x2 c2 ak capk kn hkn t (by omega) bp bq bk bs wr
        (hb.below hbr (World.block_lt_of_cell? w' ⟨bp, 0, none⟩ (hb 0 _ rfl).1)) (hbq.below hbr (World.block_lt_of_cell? w' ⟨bq, 0, none⟩ (hbq 0 _ rfl).1)) (hbk.below hbr (World.block_lt_of_cell? w' ⟨bk, 0, none⟩ (hbk 0 _ rfl).1)) (hbs.below hbr (World.block_lt_of_cell? w' ⟨bs, 0, none⟩ (hbs 0 _ rfl).1)) (hx.below hbr) (hy.below hbr) (hz.below hbr)))
  clear hq hq2 hq3 hW hW' hH hH' hn hn1 hf hkn
  generalize allB (bluS W H f kn t) n = D at *
  go_enter Try.func48, Try.ntmps48
  go_wp2_with fail
  refine (cO _).mono ?_
  rintro e w1 ⟨a1, c1, b1, rfl, ho, h1, hb⟩
  have HS1 := hide ((HS0.out.own hb ho.v h1).box [.slice a1 9 c1] 27)
  have hsz : w.heap.size + 3 < w1.heap.size := by
    have := ((HS0.out.next hb).ltB 0 rfl).2
    exact this
  have pM := HP.out.below HS1.out.below
  have HS1b := HS1
  obtain ⟨i0, i1, i2⟩ := HS1b.out.im3 4 rfl
  clear ho h1 hb cO HS1b HS0
  go_wp2_with fail
  refine (cM _ pM).mono ?_
  rintro e w2 ⟨rfl, hb⟩
  have HS2 := hide (HS1.out.next hb)
  clear hb cM pM HS1 i0 i1 i2
  generalize w1.heap.size = C at *
  have k0 := HS2.out.cell 3 rfl 0 rfl
  have k1 := HS2.out.cell 0 rfl 0 rfl
  have k2 := HS2.out.cell 2 rfl 0 rfl
  obtain ⟨i0, i1, i2⟩ := HS2.out.im3 4 rfl
  go_wp2_with fail
  refine (cK _ (HQ.out.below HS2.out.below)).mono ?_
  rintro e w3 ⟨rfl, rfl⟩
  clear k0 k1 cK
  go_wp2_with fail
  refine (cW _).mono ?_
  rintro e w4 ⟨rfl, rfl⟩
  clear k2 cW
  go_wp2_with fail
  refine (cP _).mono ?_
  rintro e w5 ⟨rfl, hb⟩
  have HS5 := hide ((HS2.out.next hb).box [.int .i64 W, .int .i64 H, .slice a n cap] 67)
  have cF := HF.out w5.heap.size C (w.heap.size + 1) (w.heap.size + 2) a1 c1 _ (HS5.out.bx (w5.heap.size, [.int .i64 W, .int .i64 H, .slice a n cap]) (by simp)) (HS5.out.bx (C, [.slice a1 9 c1]) (by simp)) (HS5.out.bx (w.heap.size + 1, [.slice ak 9 capk]) (by simp)) (HS5.out.bx (w.heap.size + 2, [.int .i64 t]) (by simp)) (HP.out.below HS5.out.below) (HS5.out.nthO 0 rfl).px (HQ.out.below HS5.out.below)
  clear cP hb HF HS2 i0 i1 i2
  go_wp2_with fail
  refine cF.mono ?_
  rintro e w6 ⟨a6, c6, b6, rfl, ho, h1, hb⟩
  have HS6 := hide (HS5.out.own hb ho.v h1)
  clear cF ho h1 hb HS5
  go_wp2_with fail
  refine (cI _ _ _ (HS6.out.nthO 0 rfl).px).mono ?_
  rintro e w7 ⟨rfl, hb⟩
  have HS7 := hide (HS6.out.next hb)
  obtain ⟨z0, z1, z2⟩ := HS7.out.im3 2 rfl
  obtain ⟨e0, e1, e2⟩ := HS7.out.fr3 2 rfl
  clear cI hb HS6
  cases D
  · rw [pickI_f, pickI_f, pickN_f, if_neg (by simp)]
    go_wp2_with fail
    exact bodyPost_ret (v := im 0 0 none 0 0) (by simp [results, Try.results48, go_sem, z0, z1, z2]) rfl ((HS7.out.fill3' (L1 := [_, _]) _ _ _).imN _)
  · rw [pickI_t, pickI_t, pickN_t, if_pos rfl]
    go_wp2_with fail
    exact bodyPost_ret (v := im W H a6 n c6) (by simp [results, Try.results48, go_sem, z0, z1, z2]) rfl ((HS7.out.fill3' (L1 := [_, _]) _ _ _).imR W H c6)

end Go.Proofs.Ytlpfgmkkbplddaa

/- Dilate, the program. -/
import Derived.Test.YtchbaegmkaibcaaDli
import Derived.Test.YtchbaegmkaibcaaErt
import Derived.Test.YtchbaegmkaibcaaSgr
namespace Go.Proofs.Ytchbaegmkaibcaa
open Go.RowKit

def dilS (W H : Int) (f : Nat → Int) (m : Nat) (g : Nat → Int) (j : Nat) : Int := vis W H j (fun q => - g q) (fun _ q v => max v (f q.toNat)) 0 m

theorem dilS_bd {W H : Int} {n : Nat} {f : Nat → Int} (hn : (n : Int) = W * H) (hf : bit1 f n) (m : Nat) (g : Nat → Int) (j : Nat) : 0 ≤ dilS W H f m g j ∧ dilS W H f m g j ≤ 1 := by
  unfold dilS
  refine vis_ind (P := fun _ v => 0 ≤ v ∧ v ≤ 1) (by omega) ?_ (fun _ _ _ _ h => h)
  intro k v _ hq hv
  obtain ⟨q0, q1⟩ := place_lt hq hn
  have := bit_at hf q0 q1
  omega

set_option maxRecDepth 100000 in
set_option maxHeartbeats 2000000 in
theorem implDilate_any (W H : Int) (a : Option Addr) (n cap : Nat) (f : Nat → Int) (hl : n ≤ 1048576) (a2 : Option Addr) (m cap2 : Nat) (g : Nat → Int) (hm : m ≤ 1048576) (hcap : m ≤ cap2) (w : World) (h : Px a n f w) (h2 : Px a2 (m * 2) g w) :
    Calls Try.prog 8 #[im W H a n cap, .slice a2 m cap2] w (ImR (pickI (mbB W H n f m g) W) (pickI (mbB W H n f m g) H) (pickN (mbB W H n f m g) n) (dilS W H f m g) w) := by
  have HS0 := hide (((St.start w).box [.int .i64 W, .int .i64 H, .slice a n cap] 26).box' [.int .i64 0, .int .i64 0, .slice none 0 0] 26 (b := w.heap.size + 1) (by simp))
  have HP := hide h
  have HQ := hide h2
  have cM := isMask_any W H a n cap f hl _ (h.below HS0.out.below)
  have cB := fun w' h => implBrushOk_any a2 m cap2 g hm hcap w' h
  clear h h2
  unfold mbB
  cases hq : maskB W H n f
  · rw [hq] at cM
    rw [Bool.false_and, pickI_f, pickI_f, pickN_f]
    clear hq cB
    go_enter Try.func8, Try.ntmps8
    go_wp2_with fail
    refine cM.mono ?_
    rintro e w1 ⟨rfl, hb⟩
    have HS1 := hide (HS0.out.next hb)
    obtain ⟨z0, z1, z2⟩ := HS1.out.im3 0 rfl
    obtain ⟨e0, e1, e2⟩ := HS1.out.fr3 0 rfl
    clear cM hb HS0
    go_wp2_with fail
    exact bodyPost_ret (v := im 0 0 none 0 0) (by simp [results, Try.results8, go_sem, z0, z1, z2]) rfl ((HS1.out.fill3 _ _ _).imN _)
  rw [hq] at cM
  rw [Bool.true_and]
  cases hq2 : brushB m g
  · rw [hq2] at cB
    rw [pickI_f, pickI_f, pickN_f]
    clear hq hq2
    go_enter Try.func8, Try.ntmps8
    go_wp2_with fail
    refine cM.mono ?_
    rintro e w1 ⟨rfl, hb⟩
    have HS1 := hide (HS0.out.next hb)
    clear cM hb HS0
    go_wp2_with fail
    refine (cB _ (HQ.out.below HS1.out.below)).mono ?_
    rintro e w2 ⟨rfl, hb⟩
    have HS2 := hide (HS1.out.next hb)
    obtain ⟨z0, z1, z2⟩ := HS2.out.im3 0 rfl
    obtain ⟨e0, e1, e2⟩ := HS2.out.fr3 0 rfl
    clear cB hb HS1
    go_wp2_with fail
    exact bodyPost_ret (v := im 0 0 none 0 0) (by simp [results, Try.results8, go_sem, z0, z1, z2]) rfl ((HS2.out.fill3 _ _ _).imN _)
  rw [hq2] at cB
  rw [pickI_t, pickI_t, pickN_t]
  obtain ⟨hok, ⟨hW, hW'⟩, ⟨hH, hH'⟩, hn, hn1, hn4, hbit⟩ := maskB_ok hq
  obtain ⟨hm5, hg⟩ := brushB_parts hq2
  have hokF : okB W H n (dilS W H f m g) = true := okB_of hok (fun k _ => by have := dilS_bd hn hbit m g k; omega)
  have cI := fun x c w' h => image_any W H x n c (dilS W H f m g) hl w' h
  rw [hokF] at cI
  simp only [if_true] at cI
  have cP := fun w' => pictureOf_any W H a n cap w'
  have cK := fun w' h => pointedBack_any a2 m cap2 g hm (fun j hj => by have := hg j hj; omega) w' h
  have HF := hide (fun bp bq x2 c2 w' (hb : Bx bp [.int .i64 W, .int .i64 H, .slice a n cap] w') (hbq : Bx bq [.slice x2 m c2] w') (hx : Px a n f w') (hy : Px x2 (m * 2) (fun q => - g q) w') =>
    filtered_any W H a n cap hl _ dilPix_fn #[.pointer (some ⟨bp, 0, none⟩), .pointer (some ⟨bq, 0, none⟩)] (dilS W H f m g) w'
      (fun k wr hk hbr => dilPix_any W H k a n cap f hl hn hW hW' hH hH' (by omega) (by omega) x2 m c2 (fun q => - g q) hm (fun j hj => by have := hg j hj; omega) bp bq wr
        (hb.below hbr (World.block_lt_of_cell? w' ⟨bp, 0, none⟩ (hb 0 _ rfl).1)) (hbq.below hbr (World.block_lt_of_cell? w' ⟨bq, 0, none⟩ (hbq 0 _ rfl).1)) (hx.below hbr) (hy.below hbr)))
  clear hq hq2 hok hW hW' hH hH' hn hn1 hbit hm5 hg hokF
  go_enter Try.func8, Try.ntmps8
  go_wp2_with fail
  refine cM.mono ?_
  rintro e w1 ⟨rfl, hb⟩
  have HS1 := hide (HS0.out.next hb)
  clear cM hb HS0
  go_wp2_with fail
  refine (cB _ (HQ.out.below HS1.out.below)).mono ?_
  rintro e w2 ⟨rfl, hb⟩
  have HS2 := hide (HS1.out.next hb)
  obtain ⟨i0, i1, i2⟩ := HS2.out.im3 1 rfl
  clear cB hb HS1
  go_wp2_with fail
  refine (cP _).mono ?_
  rintro e w3 ⟨rfl, hb⟩
  have HS3 := hide (HS2.out.next hb)
  clear cP hb HS2 i0 i1 i2
  go_wp2_with fail
  refine (cK _ (HQ.out.below HS3.out.below)).mono ?_
  rintro e w4 ⟨a4, c4, b4, rfl, ho, h1, hb⟩
  have HS4 := hide (((HS3.out.own hb ho.v h1).box [.int .i64 W, .int .i64 H, .slice a n cap] 47).box' [.slice a4 m c4] 27 (b := w4.heap.size + 1) (by simp))
  have cF := HF.out w4.heap.size (w4.heap.size + 1) a4 c4 _ (HS4.out.bx (w4.heap.size, [.int .i64 W, .int .i64 H, .slice a n cap]) (by simp)) (HS4.out.bx (w4.heap.size + 1, [.slice a4 m c4]) (by simp)) (HP.out.below HS4.out.below) (HS4.out.nthO 0 rfl).px
  clear cK hb ho h1 HS3 HF
  go_wp2_with fail
  refine cF.mono ?_
  rintro e w5 ⟨a5, c5, b5, rfl, ho, h1, hb⟩
  have HS5 := hide (HS4.out.own hb ho.v h1)
  clear cF ho h1 hb HS4
  go_wp2_with fail
  refine (cI _ _ _ (HS5.out.nthO 0 rfl).px).mono ?_
  rintro e w6 ⟨rfl, hb⟩
  have HS6 := hide (HS5.out.next hb)
  obtain ⟨z0, z1, z2⟩ := HS6.out.im3 2 rfl
  obtain ⟨e0, e1, e2⟩ := HS6.out.fr3 2 rfl
  clear cI hb HS5
  go_wp2_with fail
  exact bodyPost_ret (v := im W H a5 n c5) (by simp [results, Try.results8, go_sem, z0, z1, z2]) rfl ((HS6.out.fill3' (L1 := [_, _]) _ _ _).imR W H c5)

end Go.Proofs.Ytchbaegmkaibcaa

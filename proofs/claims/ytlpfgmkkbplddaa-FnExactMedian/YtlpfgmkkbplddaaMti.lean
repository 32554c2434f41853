/- Median, the program: the whole. -/
import Derived.Test.YtlpfgmkkbplddaaMpi
namespace Go.Proofs.Ytlpfgmkkbplddaa
open Go.RowKit

def medB (W H : Int) (n : Nat) (f : Nat → Int) (r : Int) : Bool := okB W H n f && inB r 0 3
theorem medOf_mem {L : List Int} (h : 0 < L.length) : medOf L ∈ L := by
  unfold medOf
  have hl : (L.length - 1) / 2 < (srt L).length := by rw [srt_len]; omega
  rw [List.getD, List.getElem?_eq_getElem hl]
  exact (srt_perm L).mem_iff.1 (List.getElem_mem hl)
theorem medS_bd {W H : Int} {n : Nat} {f : Nat → Int} (hW : 1 ≤ W) (hn : (n : Int) = W * H) (hf : ∀ k, k < n → -1000000000 ≤ f k ∧ f k ≤ 1000000000) (r j : Nat) (hj : j < n) : -1000000000 ≤ medS W H f r j ∧ medS W H f r j ≤ 1000000000 :=
  visL_mem (P := fun x => -1000000000 ≤ x ∧ x ≤ 1000000000) hn hf _ _ (medOf_mem (visL_some hW hn hj))

set_option maxRecDepth 100000 in
set_option maxHeartbeats 2000000 in
theorem implMedian_any (W H : Int) (a : Option Addr) (n cap : Nat) (f : Nat → Int) (hl : n ≤ 1048576) (r : Int) (w : World) (h : Px a n f w) :
    Calls Try.prog 43 #[im W H a n cap, .int .i64 r] w (ImR (pickI (medB W H n f r) W) (pickI (medB W H n f r) H) (pickN (medB W H n f r) n) (medS W H f r.toNat) w) := by
  have HS0 := hide (((St.start w).box [.int .i64 W, .int .i64 H, .slice a n cap] 26).box' [.int .i64 0, .int .i64 0, .slice none 0 0] 26 (b := w.heap.size + 1) (by simp))
  have HP := hide h
  have cM := implOk_any W H a n cap f hl _ (h.below HS0.out.below)
  have cW := fun w' => within_any r 0 3 w'
  clear h
  unfold medB
  cases hq : okB W H n f
  · rw [hq] at cM
    rw [Bool.false_and, pickI_f, pickI_f, pickN_f]
    clear hq cW
    go_enter Try.func43, Try.ntmps43
    go_wp2_with fail
    refine cM.mono ?_
    rintro e w1 ⟨rfl, hb⟩
    have HS1 := hide (HS0.out.next hb)
    obtain ⟨z0, z1, z2⟩ := HS1.out.im3 0 rfl
    obtain ⟨e0, e1, e2⟩ := HS1.out.fr3 0 rfl
    clear cM hb HS0
    go_wp2_with fail
    exact bodyPost_ret (v := im 0 0 none 0 0) (by simp [results, Try.results43, go_sem, z0, z1, z2]) rfl ((HS1.out.fill3 _ _ _).imN _)
  rw [hq] at cM
  rw [Bool.true_and]
  cases hq2 : inB r 0 3
  · rw [hq2] at cW
    rw [pickI_f, pickI_f, pickN_f]
    clear hq hq2
    go_enter Try.func43, Try.ntmps43
    go_wp2_with fail
    refine cM.mono ?_
    rintro e w1 ⟨rfl, hb⟩
    have HS1 := hide (HS0.out.next hb)
    obtain ⟨z0, z1, z2⟩ := HS1.out.im3 0 rfl
    obtain ⟨e0, e1, e2⟩ := HS1.out.fr3 0 rfl
    clear cM hb HS0
    go_wp2_with fail
    refine (cW _).mono ?_
    rintro e w2 ⟨rfl, rfl⟩
    go_wp2_with fail
    exact bodyPost_ret (v := im 0 0 none 0 0) (by simp [results, Try.results43, go_sem, z0, z1, z2]) rfl ((HS1.out.fill3 _ _ _).imN _)
  rw [hq2] at cW
  rw [pickI_t, pickI_t, pickN_t]
  obtain ⟨⟨hW, hW'⟩, ⟨hH, hH'⟩, hn, hn1, hn4, hf⟩ := okB_ok hq
  obtain ⟨hr0, hr1⟩ : 0 ≤ r ∧ r ≤ 3 := by unfold inB at hq2; simpa using hq2
  obtain ⟨t, rfl⟩ : ∃ t : Nat, r = (t : Int) := ⟨r.toNat, by omega⟩
  rw [Int.toNat_natCast]
  have hokF : okB W H n (medS W H f t) = true := okB_of hq (fun k hk => medS_bd hW hn hf t k hk)
  have cI := fun x c w' h => image_any W H x n c (medS W H f t) hl w' h
  rw [hokF] at cI
  simp only [if_true] at cI
  have cP := fun w' => pictureOf_any W H a n cap w'
  have cO := fun w' => offsetsWithin_any t t (by omega) (by omega) w'
  unfold SpR at cO
  have HF := hide (fun bp bq x2 c2 w' (hb : Bx bp [.int .i64 W, .int .i64 H, .slice a n cap] w') (hbq : Bx bq [.slice x2 ((2 * t + 1) * (2 * t + 1)) c2] w') (hx : Px a n f w') (hy : Px x2 ((2 * t + 1) * (2 * t + 1) * 2) (offF t t) w') =>
    filtered_any W H a n cap hl _ medPix_fn #[.pointer (some ⟨bp, 0, none⟩), .pointer (some ⟨bq, 0, none⟩)] (medS W H f t) w'
      (fun k wr hk hbr => medPix_any W H k t a n cap f hn hW hW' hH hH' hk (by omega) (by omega) x2 c2 bp bq wr
        (hb.below hbr (World.block_lt_of_cell? w' ⟨bp, 0, none⟩ (hb 0 _ rfl).1)) (hbq.below hbr (World.block_lt_of_cell? w' ⟨bq, 0, none⟩ (hbq 0 _ rfl).1)) (hx.below hbr) (hy.below hbr)))
  clear hq hq2 hW hW' hH hH' hn hn1 hf hokF
  generalize (2 * t + 1) * (2 * t + 1) = m at *
  go_enter Try.func43, Try.ntmps43
  go_wp2_with fail
  refine cM.mono ?_
  rintro e w2 ⟨rfl, hb⟩
  have HS2 := hide (HS0.out.next hb)
  obtain ⟨i0, i1, i2⟩ := HS2.out.im3 1 rfl
  clear cM hb HS0
  go_wp2_with fail
  refine (cW _).mono ?_
  rintro e w2 ⟨rfl, rfl⟩
  clear cW
  go_wp2_with fail
  refine (cP _).mono ?_
  rintro e w3 ⟨rfl, hb⟩
  have HS3 := hide (HS2.out.next hb)
  clear cP hb HS2 i0 i1 i2
  go_wp2_with fail
  refine (cO _).mono ?_
  rintro e w4 ⟨a4, c4, b4, rfl, ho, h1, hb⟩
  have HS4 := hide (((HS3.out.own hb ho.v h1).box [.int .i64 W, .int .i64 H, .slice a n cap] 67).box' [.slice a4 m c4] 27 (b := w4.heap.size + 1) (by simp))
  have cF := HF.out w4.heap.size (w4.heap.size + 1) a4 c4 _ (HS4.out.bx (w4.heap.size, [.int .i64 W, .int .i64 H, .slice a n cap]) (by simp)) (HS4.out.bx (w4.heap.size + 1, [.slice a4 m c4]) (by simp)) (HP.out.below HS4.out.below) (HS4.out.nthO 0 rfl).px
  clear cO hb ho h1 HS3 HF
  go_wp2_with fail
  refine cF.mono ?_
  rintro e w5 ⟨a5, c5, b5, rfl, ho, h1, hb⟩
  have HS5 := hide (HS4.out.own hb ho.v h1)
  clear cF ho h1 hb HS4
  go_wp2_with fail
  refine (cI _ _ _ (HS5.out.nthO 0 rfl).px).mono ?_
  rintro e w6 ⟨rfl, hb⟩
  have HS6 := hide (HS5.out.next hb)
  obtain ⟨z0, z1, z2⟩ := HS6.out.im3 2 rfl
  obtain ⟨e0, e1, e2⟩ := HS6.out.fr3 2 rfl
  clear cI hb HS5
  go_wp2_with fail
  exact bodyPost_ret (v := im W H a5 n c5) (by simp [results, Try.results43, go_sem, z0, z1, z2]) rfl ((HS6.out.fill3' (L1 := [_, _]) _ _ _).imR W H c5)

end Go.Proofs.Ytlpfgmkkbplddaa

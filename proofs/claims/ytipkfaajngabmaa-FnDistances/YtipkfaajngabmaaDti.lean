/- Distance, the program: the whole. -/
import Derived.Test.YtipkfaajngabmaaDv8
namespace Go.Proofs.Ytipkfaajngabmaa
open Go.RowKit

theorem ImR.congr {W H : Int} {n : Nat} {s s' : Nat → Int} {w : World} {e : Ending} {w' : World} (h : ImR W H n s w e w') (hs : ∀ k, k < n → s k = s' k) : ImR W H n s' w e w' := by
  obtain ⟨a, c, b, h1, h2, h3, h4⟩ := h
  refine ⟨a, c, b, h1, ?_, h3, h4⟩
  rcases h2 with h2 | ⟨h2, h5⟩
  · exact .inl h2
  · exact .inr ⟨h2, h5.congr hs⟩
theorem disS_none {W : Int} {n : Nat} {f : Nat → Int} (h : ∀ k, k < n → f k ≠ 1) (j : Nat) : disS W n f j = -1 := by
  rcases disS_ok W n f j with ⟨h1, _⟩ | ⟨_, ⟨k, h2, h3, _⟩, _⟩
  · exact h1
  · exact absurd (by simpa using h3) (h k h2)
theorem lwF_bd {W H : Int} {n : Nat} {p : Nat → Int} (hn : (n : Int) = W * H) (hp : ∀ k, k < n → 0 ≤ p k) (g : Nat → Int) (m j : Nat) : 0 ≤ lwF W H p g m j ∧ lwF W H p g m j ≤ 8192 := by
  obtain ⟨h1, _, h3⟩ := lwF_ok W H p g j m
  refine ⟨?_, h1⟩
  rcases h3 with h3 | ⟨i, _, i2, i3⟩
  · omega
  · obtain ⟨p0, p1⟩ := place_lt i2 hn
    have := hp _ (show Int.toNat (((j : Int) / W + g (i * 2 + 1)) * W + ((j : Int) % W + g (i * 2))) < n by omega)
    have := sq_nn (g (i * 2))
    have := sq_nn (g (i * 2 + 1))
    omega
theorem farF_bd {n : Nat} {f : Nat → Int} (hf : bit1 f n) : ∀ k, k < n → 0 ≤ farF f k ∧ farF f k ≤ 8192 := by
  intro k hk
  unfold farF
  rcases hf k hk with h | h <;> rw [h] <;> omega

set_option maxRecDepth 100000 in
set_option maxHeartbeats 4000000 in
theorem implDistance_any (W H : Int) (a : Option Addr) (n cap : Nat) (f : Nat → Int) (hl : n ≤ 1048576) (w : World) (h : Px a n f w) :
    Calls Try.prog 20 #[im W H a n cap] w (ImR (pickI (maskB W H n f) W) (pickI (maskB W H n f) H) (pickN (maskB W H n f) n) (disS W n f) w) := by
  have HS0 := hide (((St.start w).box [.int .i64 W, .int .i64 H, .slice a n cap] 26).box' [.int .i64 0, .int .i64 0, .slice none 0 0] 26 (b := w.heap.size + 1) (by simp))
  have HP := hide h
  have cM := isMask_any W H a n cap f hl _ (h.below HS0.out.below)
  clear h
  cases hq : maskB W H n f
  · rw [hq] at cM
    rw [pickI_f, pickI_f, pickN_f]
    clear hq
    go_enter Try.func20, Try.ntmps20
    go_wp2_with fail
    refine cM.mono ?_
    rintro e w1 ⟨rfl, hb⟩
    have HS1 := hide (HS0.out.next hb)
    obtain ⟨z0, z1, z2⟩ := HS1.out.im3 0 rfl
    obtain ⟨e0, e1, e2⟩ := HS1.out.fr3 0 rfl
    clear cM hb HS0
    go_wp2_with fail
    exact bodyPost_ret (v := im 0 0 none 0 0) (by simp [results, Try.results20, go_sem, z0, z1, z2]) rfl ((HS1.out.fill3 _ _ _).imN _)
  rw [hq] at cM
  rw [pickI_t, pickI_t, pickN_t]
  obtain ⟨hok, ⟨hW, hW'⟩, ⟨hH, hH'⟩, hn, hn1, hn4, hbit⟩ := maskB_ok hq
  have cP := fun w' => pictureOf_any W H a n cap w'
  have cC := fun w' h => containsN_any a n cap f 1 hl w' h
  cases hone : hasN f 1 n
  · rw [hone] at cC
    have hnone := hasN_no hone
    have hokF : okB W H n (disS W n f) = true := okB_of hok (fun k _ => by rw [disS_none hnone]; omega)
    have cI := fun x c w' h => image_any W H x n c (disS W n f) hl w' h
    rw [hokF] at cI
    simp only [if_true] at cI
    have HF := hide (fun w' => filtered_any W H a n cap hl _ dis1_fn #[] (disS W n f) w' (fun k wr hk hbr => by rw [Array.append_empty, disS_none hnone]; exact dis1_any k wr))
    clear hq hone hok hn hbit hnone hokF
    go_enter Try.func20, Try.ntmps20
    go_wp2_with fail
    refine cM.mono ?_
    rintro e w2 ⟨rfl, hb⟩
    have HS2 := hide (HS0.out.next hb)
    obtain ⟨i0, i1, i2⟩ := HS2.out.im3 1 rfl
    clear cM hb HS0
    go_wp2_with fail
    refine (cP _).mono ?_
    rintro e w3 ⟨rfl, hb⟩
    have HS3 := hide ((HS2.out.next hb).box [.int .i64 W, .int .i64 H, .slice a n cap] 57)
    have pC := HP.out.below HS3.out.below
    have cF := HF.out (w3.alloc (.cells #[.int .i64 W, .int .i64 H, .slice a n cap] 57))
    clear cP hb HS2 i0 i1 i2 HF
    go_wp2_with fail
    refine (cC _ pC).mono ?_
    rintro e w4 ⟨rfl, rfl⟩
    clear cC pC
    go_wp2_with fail
    refine cF.mono ?_
    rintro e w5 ⟨a5, c5, b5, rfl, ho, h1, hb⟩
    have HS5 := hide (HS3.out.own hb ho.v h1)
    clear cF ho h1 hb HS3
    go_wp2_with fail
    refine (cI _ _ _ (HS5.out.nthO 0 rfl).px).mono ?_
    rintro e w6 ⟨rfl, hb⟩
    have HS6 := hide (HS5.out.next hb)
    obtain ⟨z0, z1, z2⟩ := HS6.out.im3 1 rfl
    obtain ⟨e0, e1, e2⟩ := HS6.out.fr3 1 rfl
    clear cI hb HS5
    go_wp2_with fail
    exact bodyPost_ret (v := im W H a5 n c5) (by simp [results, Try.results20, go_sem, z0, z1, z2]) rfl ((HS6.out.fill3' (L1 := [_]) _ _ _).imR W H c5)
  rw [hone] at cC
  have hex := hasN_ex hone
  have HEq := hide (fun j hj => imp_dis hW hW' hH' hn hbit hex j hj)
  have hfb := farF_bd hbit
  have hcb := fun j => lwF_bd hn (fun k hk => (hfb k hk).1) (offF 0 63) 127 j
  have hrb := fun j => lwF_bd hn (fun k _ => (hcb k).1) (offF 63 0) 127 j
  have hokF : okB W H n (impF W H f) = true := okB_of hok (fun k _ => by have := hrb k; unfold impF; omega)
  have cI := fun x c w' h => image_any W H x n c (impF W H f) hl w' h
  rw [hokF] at cI
  simp only [if_true] at cI
  have HF := hide (fun bp w' (hb : Bx bp [.int .i64 W, .int .i64 H, .slice a n cap] w') (hx : Px a n f w') =>
    filtered_any W H a n cap hl _ dis2_fn #[.pointer (some ⟨bp, 0, none⟩)] (farF f) w' (fun k wr hk hbr => dis2_any W H k a n cap f hk hbit bp wr (hb.below hbr (World.block_lt_of_cell? w' ⟨bp, 0, none⟩ (hb 0 _ rfl).1)) (hx.below hbr)))
  have cA : ∀ w', Calls Try.prog 51 #[.int .i64 0, .int .i64 63] w' (SpR 127 (offF 0 63) w') := fun w' => offsetsWithin_any 0 63 (by omega) (by omega) w'
  have cB : ∀ w', Calls Try.prog 51 #[.int .i64 63, .int .i64 0] w' (SpR 127 (offF 63 0) w') := fun w' => offsetsWithin_any 63 0 (by omega) (by omega) w'
  have cD := fun x c y d w' h1 h2 => leastWays_any W H x n c (farF f) hn4 hn hW hW' hH hH' hfb y 127 d (offF 0 63) (by omega) (offF_bd 0 63 (by omega) (by omega)) w' h1 h2
  have cE := fun x c y d w' h1 h2 => leastWays_any W H x n c (lwF W H (farF f) (offF 0 63) 127) hn4 hn hW hW' hH hH' (fun k _ => hcb k) y 127 d (offF 63 0) (by omega) (offF_bd 63 0 (by omega) (by omega)) w' h1 h2
  clear hq hone hok hn hbit hex hfb hcb hrb hokF
  go_enter Try.func20, Try.ntmps20
  go_wp2_with fail
  refine cM.mono ?_
  rintro e w2 ⟨rfl, hb⟩
  have HS2 := hide (HS0.out.next hb)
  obtain ⟨i0, i1, i2⟩ := HS2.out.im3 1 rfl
  clear cM hb HS0
  go_wp2_with fail
  refine (cP _).mono ?_
  rintro e w3 ⟨rfl, hb⟩
  have HS3 := hide ((HS2.out.next hb).box [.int .i64 W, .int .i64 H, .slice a n cap] 57)
  have pC := HP.out.below HS3.out.below
  have cF := HF.out w3.heap.size (w3.alloc (.cells #[.int .i64 W, .int .i64 H, .slice a n cap] 57)) (HS3.out.bx (w3.heap.size, [.int .i64 W, .int .i64 H, .slice a n cap]) (by simp)) pC
  clear cP hb HS2 i0 i1 i2 HF
  go_wp2_with fail
  refine (cC _ pC).mono ?_
  rintro e w4 ⟨rfl, rfl⟩
  clear cC pC
  go_wp2_with fail
  refine cF.mono ?_
  rintro e w5 ⟨a5, c5, b5, rfl, ho, h1, hb⟩
  have HS5 := hide ((HS3.out.own hb ho.v h1).box [.int .i64 W, .int .i64 H, .slice a5 n c5] 57)
  obtain ⟨w6, hw6⟩ : ∃ w6, w5.alloc (.cells #[.int .i64 W, .int .i64 H, .slice a5 n c5] 57) = w6 := ⟨_, rfl⟩
  have HS6 := hide (hw6 ▸ HS5.out)
  clear cF ho h1 hb HS3
  go_upto_region 7 with fail
  clear HS5 hw6
  generalize w5.heap.size = C at *
  generalize w3.heap.size = C3 at *
  obtain ⟨j0, j1, j2⟩ := HS6.out.im3 0 rfl
  obtain ⟨z0, z1, z2⟩ := HS6.out.im3 2 rfl
  obtain ⟨f0, f1, f2⟩ := HS6.out.fr3 2 rfl
  unfold SpR at cA cB
  unfold ImR at cD cE
  have cI' := fun x c w' h => (cI x c w' h)
  go_region_with (first
    | (go_at_call 51; (with_reducible refine (cA _).mono ?_); rintro e wA ⟨aA, kA, bA, rfl, hoA, h1A, hbA⟩; have HSA := hide (HS6.out.drew.own hbA hoA.v h1A); obtain ⟨ja0, ja1, ja2⟩ := HSA.out.im3 0 rfl; clear hoA h1A hbA)
    | (go_at_call 51; (with_reducible refine (cB _).mono ?_); rintro e wC ⟨aC, kC, bC, rfl, hoC, h1C, hbC⟩; have HSC := hide (HSB.out.own hbC hoC.v h1C); clear hoC h1C hbC)
    | (go_at_call 50; (with_reducible refine (cD _ _ _ _ _ (HSA.out.nthO 1 rfl).px (HSA.out.nthO 0 rfl).px).mono ?_); rintro e wB ⟨aB, kB, bB, rfl, hoB, h1B, hbB⟩; have HSB := hide (HSA.out.own hbB hoB.v h1B); clear hoB h1B hbB)
    | (go_at_call 50; (with_reducible refine (cE _ _ _ _ _ (HSC.out.nthO 1 rfl).px (HSC.out.nthO 0 rfl).px).mono ?_); rintro e wD ⟨aD, kD, bD, rfl, hoD, h1D, hbD⟩; have HSD := hide (HSC.out.own hbD hoD.v h1D); clear hoD h1D hbD)
    | (go_at_call 43; (with_reducible refine (cI' _ _ _ (HSD.out.nthO 0 rfl).px).mono ?_); rintro e wE ⟨rfl, hbE⟩; have HSE := hide (HSD.out.next hbE); obtain ⟨ze0, ze1, ze2⟩ := HSE.out.im3 2 rfl; obtain ⟨fe0, fe1, fe2⟩ := HSE.out.fr3 2 rfl; clear hbE))
  all_goals
    clear cA cB cD cE cI cI' ja0 ja1 ja2 j0 j1 j2 z0 z1 z2 f0 f1 f2
    go_wp2_with fail
    exact bodyPost_ret (v := im W H aD n kD) (by simp [results, Try.results20, go_sem, ze0, ze1, ze2]) rfl (ImR.congr ((HSE.out.fill3' (L1 := [_, _]) _ _ _).imR W H kD) HEq.out)

end Go.Proofs.Ytipkfaajngabmaa

/- The law FnExactAddImages, walked. -/
import Derived.Test.YtbaeinbocfmomaaHold2
namespace Go.Proofs.Ytbaeinbocfmomaa
open Go.RowKit

set_option maxRecDepth 20000 in
set_option maxHeartbeats 4000000 in
theorem fnExactAddImages_walk (W H : Int) (a : Option Addr) (n cap : Nat) (f : Nat → Int) (W' H' : Int) (a' : Option Addr) (n' cap' : Nat) (g : Nat → Int) (hl : n ≤ maxLen) (hl' : n' ≤ maxLen) (w : World) (h : Px a n f w) (h' : Px a' n' g w) :
    Calls Try.prog 4 #[im W H a n cap, im W' H' a' n' cap'] w fun e w' => e = .returned (.bool true) ∧ Below w.heap.size w w' := by
  unfold maxLen at hl hl'
  have hz := szImage_any W H a n cap 1048576 (by omega) (by omega) (by omega)
  have S0 := ((St.start w).box W H (.slice a n cap) 24).box W' H' (.slice a' n' cap') 24
  have HP : Hid (Px a n f w) := h
  have HP' : Hid (Px a' n' g w) := h'
  have HS0 : Hid (St w [(w.heap.size + 1, W', H', .slice a' n' cap'), (w.heap.size, W, H, .slice a n cap)] [] ((w.alloc (.cells #[.int .i64 W, .int .i64 H, .slice a n cap] 24)).alloc (.cells #[.int .i64 W', .int .i64 H', .slice a' n' cap'] 24))) := by
    rw [show (w.alloc (.cells #[.int .i64 W, .int .i64 H, .slice a n cap] 24)).heap.size = w.heap.size + 1 from by simp] at S0
    exact S0
  clear h h' S0
  by_cases hlen : 1048576 < (n : Int)
  · rw [if_pos hlen] at hz
    clear hlen hl hl'
    go_enter Try.func4, Try.ntmps4
    go_wp2_with fail
    refine (hz _).mono ?_
    rintro e w1 ⟨rfl, hb⟩
    have HS1 := HS0.out.next hb
    clear hb hz HS0
    have HB1 : Hid (Below w.heap.size w w1) := HS1.below
    clear HS1
    go_wp2_with fail
    go_ret
    exact ⟨rfl, HB1.out⟩
  rw [if_neg hlen] at hz
  have hn : ¬ 1048576 - (n : Int) < 0 := by omega
  have hz' := szImage_any W' H' a' n' cap' (1048576 - n) (by omega) (by omega) (by omega)
  by_cases hlen' : 1048576 - (n : Int) < (n' : Int)
  · rw [if_pos hlen'] at hz'
    clear hlen' hl hl'
    go_enter Try.func4, Try.ntmps4
    go_wp2_with fail
    refine (hz _).mono ?_
    rintro e w1 ⟨rfl, hb⟩
    have HS1 : Hid (St w [(w.heap.size + 1, W', H', .slice a' n' cap'), (w.heap.size, W, H, .slice a n cap)] [] w1) := HS0.out.next hb
    obtain ⟨i0, i1, i2⟩ := HS1.out.cells (b := w.heap.size + 1) (List.mem_cons_self ..)
    clear hb hz HS0
    go_wp2_with fail
    refine (hz' _).mono ?_
    rintro e w2 ⟨rfl, hb⟩
    have HB1 : Hid (Below w.heap.size w w2) := (HS1.out.next hb).below
    clear hz' hb HS1 i0 i1 i2
    go_wp2_with fail
    go_ret
    exact ⟨rfl, HB1.out⟩
  rw [if_neg hlen'] at hz'
  have hn' : ¬ 1048576 - (n : Int) - n' < 0 := by omega
  have hl2 : n ≤ 1048576 := by omega
  have hl2' : n' ≤ 1048576 := by omega
  clear hlen hlen' hl hl'
  have tA := fun w' h => toImage_any W H a n cap f hl2 w' h
  have tB := fun w' h => toImage_any W' H' a' n' cap' g hl2' w' h
  have sp := fun bA bB w' h h' => specAdd_any W H (some ⟨bA, 0, none⟩) n n f hl2 W' H' (some ⟨bB, 0, none⟩) n' n' g hl2' w' h h'
  have ip := fun bA bB w' h h' => implAdd_any W H (some ⟨bA, 0, none⟩) n n f hl2 W' H' (some ⟨bB, 0, none⟩) n' n' g hl2' w' h h'
  unfold Added at sp ip
  generalize addB W H n f W' H' n' g = r at *
  have hrn : (if r = true then n else 0) ≤ 1048576 := by split <;> omega
  generalize (if r = true then W else 0) = rW at *
  generalize (if r = true then H else 0) = rH at *
  generalize (if r = true then n else 0) = rN at *
  generalize plus f g = s at *
  go_enter Try.func4, Try.ntmps4
  go_wp2_with fail
  refine (hz _).mono ?_
  rintro e w1 ⟨rfl, hb⟩
  have HS1 : Hid (St w [(w.heap.size + 1, W', H', .slice a' n' cap'), (w.heap.size, W, H, .slice a n cap)] [] w1) := HS0.out.next hb
  obtain ⟨i0, i1, i2⟩ := HS1.out.cells (b := w.heap.size + 1) (List.mem_cons_self ..)
  clear hb hz HS0
  go_wp2_with fail
  refine (hz' _).mono ?_
  rintro e w2 ⟨rfl, hb⟩
  have HS2 : Hid (St w [(w.heap.size + 1, W', H', .slice a' n' cap'), (w.heap.size, W, H, .slice a n cap)] [] w2) := HS1.out.next hb
  clear hz' hb HS1 i0 i1 i2
  obtain ⟨i0, i1, i2⟩ := HS2.out.cells (b := w.heap.size + 1) (List.mem_cons_self ..)
  obtain ⟨j0, j1, j2⟩ := HS2.out.cells (b := w.heap.size) (List.mem_cons_of_mem _ (List.mem_cons_self ..))
  have D2 := HS2.out.drew
  have Z2 := (HS2.out.box 0 0 (.slice none 0 0) 27).drew
  have Y2 := HS2.out.drew.box 0 0 (.slice none 0 0) 27
  have D2s := hide (D2.six (b := w.heap.size) (W := W) (H := H) (s := .slice a n cap) (by simp) (b' := w.heap.size + 1) (W' := W') (H' := H') (s' := .slice a' n' cap') (by simp))
  have Z2s := hide (Z2.six (b := w.heap.size) (W := W) (H := H) (s := .slice a n cap) (by simp) (b' := w.heap.size + 1) (W' := W') (H' := H') (s' := .slice a' n' cap') (by simp))
  have Y2s := hide (Y2.six (b := w.heap.size) (W := W) (H := H) (s := .slice a n cap) (by simp) (b' := w.heap.size + 1) (W' := W') (H' := H') (s' := .slice a' n' cap') (by simp))
  go_upto_region 8 with fail
  go_cut [6] (fun s6 wc => ∃ c a0 b0, s6 = .pointer (some ⟨c, 0, none⟩) ∧ St w [(c, rW, rH, .slice a0 rN rN), (w.heap.size + 1, W', H', .slice a' n' cap'), (w.heap.size, W, H, .slice a n cap)] [(a0, b0, rN, s)] wc)
  case first =>
    go_region_held (fun w' => w'.cell? ⟨w.heap.size, 0, none⟩ = some (.int .i64 W) ∧ w'.cell? ⟨w.heap.size, 1, none⟩ = some (.int .i64 H) ∧ w'.cell? ⟨w.heap.size, 2, none⟩ = some (.slice a n cap) ∧ w'.cell? ⟨w.heap.size + 1, 0, none⟩ = some (.int .i64 W') ∧ w'.cell? ⟨w.heap.size + 1, 1, none⟩ = some (.int .i64 H') ∧ w'.cell? ⟨w.heap.size + 1, 2, none⟩ = some (.slice a' n' cap'))
      ((first | (with_reducible exact D2s.out) | (with_reducible exact Z2s.out) | (with_reducible exact Y2s.out) | (with_reducible exact SAs.out) | (with_reducible exact SAz.out) | (with_reducible exact SBs.out) | (with_reducible exact SBz.out) | (with_reducible exact SCs.out) | (with_reducible exact SCz.out) | (with_reducible exact SCb.out) | (with_reducible exact SCf.out)))
      (first
        | (go_at_call 8; (with_reducible refine (tA _ (HP.out.below (by first | exact D2.below | exact Z2.below | exact Y2.below))).mono ?_); rintro e wA ⟨bA, rfl, hA1, hA2, hrA, hbA⟩; (first | (with_reducible have SA := D2.own hbA (Ow.of_row hrA) hA1 hA2) | (with_reducible have SA := Z2.own hbA (Ow.of_row hrA) hA1 hA2) | (with_reducible have SA := Y2.own hbA (Ow.of_row hrA) hA1 hA2)); clear hbA hrA hA1 hA2; have SAs := hide (SA.six (b := w.heap.size) (W := W) (H := H) (s := .slice a n cap) (by simp) (b' := w.heap.size + 1) (W' := W') (H' := H') (s' := .slice a' n' cap') (by simp)); have SAz := hide ((SA.box 0 0 (.slice none 0 0) 27).six (b := w.heap.size) (W := W) (H := H) (s := .slice a n cap) (by simp) (b' := w.heap.size + 1) (W' := W') (H' := H') (s' := .slice a' n' cap') (by simp)))
        | (go_at_call 8; (with_reducible refine (tB _ (HP'.out.below (by first | exact SA.below | exact (SA.box 0 0 (.slice none 0 0) 27).below))).mono ?_); rintro e wB ⟨bB, rfl, hB1, hB2, hrB, hbB⟩; (first | (with_reducible have SB := SA.own hbB (Ow.of_row hrB) hB1 hB2) | (with_reducible have SB := (SA.box 0 0 (.slice none 0 0) 27).own hbB (Ow.of_row hrB) hB1 hB2)); clear hbB hrB hB1 hB2; have SBs := hide (SB.six (b := w.heap.size) (W := W) (H := H) (s := .slice a n cap) (by simp) (b' := w.heap.size + 1) (W' := W') (H' := H') (s' := .slice a' n' cap') (by simp)); have SBz := hide ((SB.box 0 0 (.slice none 0 0) 27).six (b := w.heap.size) (W := W) (H := H) (s := .slice a n cap) (by simp) (b' := w.heap.size + 1) (W' := W') (H' := H') (s' := .slice a' n' cap') (by simp)))
        | (go_at_call 11; (with_reducible refine (sp _ _ _ (by first | exact (SB.ow _ (List.mem_cons_of_mem _ (List.mem_cons_self ..))).px | exact ((SB.box 0 0 (.slice none 0 0) 27).ow _ (List.mem_cons_of_mem _ (List.mem_cons_self ..))).px) (by first | exact (SB.ow _ (List.mem_cons_self ..)).px | exact ((SB.box 0 0 (.slice none 0 0) 27).ow _ (List.mem_cons_self ..)).px)).mono ?_); rintro e wC ⟨a0, b0, rfl, hoC, hC1, hC2, hbC⟩; (first | (with_reducible have SC := SB.own hbC hoC hC1 hC2) | (with_reducible have SC := (SB.box 0 0 (.slice none 0 0) 27).own hbC hoC hC1 hC2)); clear hbC hoC hC1 hC2; have SCs := hide (SC.six (b := w.heap.size) (W := W) (H := H) (s := .slice a n cap) (by simp) (b' := w.heap.size + 1) (W' := W') (H' := H') (s' := .slice a' n' cap') (by simp)); have SCz := hide ((SC.box 0 0 (.slice none 0 0) 27).six (b := w.heap.size) (W := W) (H := H) (s := .slice a n cap) (by simp) (b' := w.heap.size + 1) (W' := W') (H' := H') (s' := .slice a' n' cap') (by simp)); have SCb := hide ((SC.box rW rH (.slice a0 rN rN) 27).six (b := w.heap.size) (W := W) (H := H) (s := .slice a n cap) (by simp) (b' := w.heap.size + 1) (W' := W') (H' := H') (s' := .slice a' n' cap') (by simp)); (try have SCf := hide ((SC.fill rW rH (.slice a0 rN rN)).six (b := w.heap.size) (W := W) (H := H) (s := .slice a n cap) (List.mem_cons_of_mem _ (List.mem_cons_of_mem _ (List.mem_cons_self ..))) (b' := w.heap.size + 1) (W' := W') (H' := H') (s' := .slice a' n' cap') (List.mem_cons_of_mem _ (List.mem_cons_self ..)))); obtain ⟨⟨z0, z1, z2⟩, e0, e1, e2⟩ := SC.head))
    all_goals
      clear D2s Z2s Y2s SAs SAz SBs SBz SCs SCz SCb D2 Z2 Y2 SA SB
      go_wp2_with fail
      go_meet
      refine ⟨_, a0, b0, rfl, ?_⟩
      first | with_reducible exact (SC.box rW rH (.slice a0 rN rN) 27).only | with_reducible exact (SC.fill rW rH (.slice a0 rN rN)).only | with_reducible exact (SC.box rW rH (.slice a0 rN rN) 27).drew.only | with_reducible exact (SC.fill rW rH (.slice a0 rN rN)).drew.only
  case rest =>
    obtain ⟨c6, a0, b0, rfl, S8⟩ := hcut
    clear D2s Z2s Y2s D2 Z2 Y2 HS2 i0 i1 i2 j0 j1 j2 sp
    have eqR := fun x y w' h h' => eqImage_any rW rH x y rN rN rN s hrn w' h h'
    have eqA := fun x y w' h h' => eqImage_any W H x y n n n f hl2 w' h h'
    have eqB := fun x y w' h h' => eqImage_any W' H' x y n' n' n' g hl2' w' h h'
    obtain ⟨j0, j1, j2⟩ := S8.nth 2 rfl
    have HS8 := hide S8
    clear S8
    go_wp2_with fail
    refine (tA _ (HP.out.below HS8.out.below)).mono ?_
    rintro e w3 ⟨bx, rfl, h1, h2, hr, hb⟩
    have S9 := (HS8.out.own hb (Ow.of_row hr) h1 h2).box W H (.slice (some ⟨bx, 0, none⟩) n n) 27
    clear h1 h2 hr hb HS8 j0 j1 j2
    obtain ⟨i0, i1, i2⟩ := S9.nth 2 rfl
    have HS9 := hide S9
    clear S9
    go_wp2_with fail
    refine (tB _ (HP'.out.below HS9.out.below)).mono ?_
    rintro e w4 ⟨by', rfl, h1, h2, hr, hb⟩
    have S10 := (HS9.out.own hb (Ow.of_row hr) h1 h2).box W' H' (.slice (some ⟨by', 0, none⟩) n' n') 27
    clear h1 h2 hr hb HS9 i0 i1 i2
    obtain ⟨i0, i1, i2⟩ := S10.nth 1 rfl
    obtain ⟨j0, j1, j2⟩ := S10.nth 0 rfl
    have pA := (S10.nthO 1 rfl).1.px
    have pB := (S10.nthO 0 rfl).1.px
    have HS10 := hide S10
    clear S10
    go_wp2_with fail
    refine (ip _ _ _ pA pB).mono ?_
    rintro e w5 ⟨a9, b9, rfl, ho, h1, h2, hb⟩
    have S11 := (HS10.out.own hb ho h1 h2).box rW rH (.slice a9 rN rN) 27
    clear h1 h2 ho hb HS10 i0 i1 i2 j0 j1 j2 pA pB
    obtain ⟨i0, i1, i2⟩ := S11.nth 0 rfl
    obtain ⟨j0, j1, j2⟩ := S11.nth 3 rfl
    have pA := (S11.nthO 0 rfl).1.px
    have pB := (S11.nthO 3 rfl).1.px
    have HS11 := hide S11
    clear S11
    go_wp2_with fail
    refine (eqR _ _ _ pA pB).mono ?_
    rintro e w6 ⟨rfl, hb⟩
    have S12 := HS11.out.next hb
    clear HS11 hb i0 i1 i2 j0 j1 j2 pA pB
    have HS12 := hide S12
    clear S12
    have HD12 := hide HS12.out.drew
    obtain ⟨i0, i1, i2⟩ := HS12.out.nth 2 rfl
    obtain ⟨j0, j1, j2⟩ := HS12.out.nth 5 rfl
    go_upto_region 14 with fail
    go_cut [44] (fun s44 wd => s44 = .bool false ∧ St w [(w5.heap.size, rW, rH, .slice a9 rN rN), (w4.heap.size, W', H', .slice (some ⟨by', 0, none⟩) n' n'), (w3.heap.size, W, H, .slice (some ⟨bx, 0, none⟩) n n), (c6, rW, rH, .slice a0 rN rN), (w.heap.size + 1, W', H', .slice a' n' cap'), (w.heap.size, W, H, .slice a n cap)] [(a9, b9, rN, s), (some ⟨by', 0, none⟩, by', n', g), (some ⟨bx, 0, none⟩, bx, n, f), (a0, b0, rN, s)] wd)
    case first =>
      go_region_with (first
        | (go_at_call 8; (with_reducible refine (tA _ (HP.out.below HD12.out.below)).mono ?_); rintro e w7 ⟨b3, rfl, h1, h2, hr, hb⟩; obtain ⟨k0, k1, k2⟩ := (HD12.out.next hb).nth 2 rfl; have pX := ((HD12.out.next hb).nthO 2 rfl).1.px)
        | (go_at_call 10; (with_reducible refine (eqA _ _ _ pX hr.px).mono ?_); rintro e w8 ⟨rfl, hb8⟩))
      all_goals
        have S14 := hide ((HD12.out.next hb).next hb8)
        clear pX hr hb hb8 h1 h2 k0 k1 k2 i0 i1 i2 j0 j1 j2 HD12 HS12
        go_wp2_with fail
        go_meet
        exact ⟨rfl, S14.out⟩
    case rest =>
      obtain ⟨rfl, S14⟩ := hcut
      rename_i w7
      clear HD12 HS12 i0 i1 i2 j0 j1 j2
      have HD14 := hide S14.drew
      obtain ⟨i0, i1, i2⟩ := S14.nth 1 rfl
      obtain ⟨j0, j1, j2⟩ := S14.nth 4 rfl
      have HS14 := hide S14
      clear S14
      go_upto_region 16 with fail
      go_cut [49] (fun s49 wd => s49 = .bool false ∧ St w [(w5.heap.size, rW, rH, .slice a9 rN rN), (w4.heap.size, W', H', .slice (some ⟨by', 0, none⟩) n' n'), (w3.heap.size, W, H, .slice (some ⟨bx, 0, none⟩) n n), (c6, rW, rH, .slice a0 rN rN), (w.heap.size + 1, W', H', .slice a' n' cap'), (w.heap.size, W, H, .slice a n cap)] [(a9, b9, rN, s), (some ⟨by', 0, none⟩, by', n', g), (some ⟨bx, 0, none⟩, bx, n, f), (a0, b0, rN, s)] wd)
      case first =>
        go_region_with (first
          | (go_at_call 8; (with_reducible refine (tB _ (HP'.out.below HD14.out.below)).mono ?_); rintro e w8 ⟨b3, rfl, h1, h2, hr, hb⟩; obtain ⟨k0, k1, k2⟩ := (HD14.out.next hb).nth 1 rfl; have pX := ((HD14.out.next hb).nthO 1 rfl).1.px)
          | (go_at_call 10; (with_reducible refine (eqB _ _ _ pX hr.px).mono ?_); rintro e w9 ⟨rfl, hb8⟩))
        all_goals
          have S16 := hide ((HD14.out.next hb).next hb8)
          clear pX hr hb hb8 h1 h2 k0 k1 k2 i0 i1 i2 j0 j1 j2 HD14 HS14
          go_wp2_with fail
          go_meet
          exact ⟨rfl, S16.out⟩
      case rest =>
        obtain ⟨rfl, S16⟩ := hcut
        rename_i w8
        clear HD14 HS14 i0 i1 i2 j0 j1 j2
        obtain ⟨i0, i1, i2⟩ := S16.nth 2 rfl
        have HS16 := hide S16
        clear S16
        go_wp2_with fail
        refine (markImage_any W H (some ⟨bx, 0, none⟩) bx n n f 1 (by omega) (by omega) hl2 _ (HS16.out.nthO 2 rfl).1 (HS16.out.nthO 2 rfl).2).mono ?_
        rintro e w9 ⟨rfl, ho, hk⟩
        have S19 : St w [(w5.heap.size, rW, rH, .slice a9 rN rN), (w4.heap.size, W', H', .slice (some ⟨by', 0, none⟩) n' n'), (w3.heap.size, W, H, .slice (some ⟨bx, 0, none⟩) n n), (c6, rW, rH, .slice a0 rN rN), (w.heap.size + 1, W', H', .slice a' n' cap'), (w.heap.size, W, H, .slice a n cap)] [(a9, b9, rN, s), (some ⟨by', 0, none⟩, by', n', g), (some ⟨bx, 0, none⟩, bx, n, fun j => 1 + (j : Int)), (a0, b0, rN, s)] w9 := St.mark (O1 := [(a9, b9, rN, s), (some ⟨by', 0, none⟩, by', n', g)]) (O2 := [(a0, b0, rN, s)]) HS16.out hk ho
        clear HS16 ho hk i0 i1 i2
        obtain ⟨i0, i1, i2⟩ := S19.nth 1 rfl
        have HS19 := hide S19
        clear S19
        go_wp2_with fail
        refine (markImage_any W' H' (some ⟨by', 0, none⟩) by' n' n' g (1 + (n : Int)) (by omega) (by omega) hl2' _ (HS19.out.nthO 1 rfl).1 (HS19.out.nthO 1 rfl).2).mono ?_
        rintro e w10 ⟨rfl, ho, hk⟩
        have S20 : St w [(w5.heap.size, rW, rH, .slice a9 rN rN), (w4.heap.size, W', H', .slice (some ⟨by', 0, none⟩) n' n'), (w3.heap.size, W, H, .slice (some ⟨bx, 0, none⟩) n n), (c6, rW, rH, .slice a0 rN rN), (w.heap.size + 1, W', H', .slice a' n' cap'), (w.heap.size, W, H, .slice a n cap)] [(a9, b9, rN, s), (some ⟨by', 0, none⟩, by', n', fun j => 1 + (n : Int) + j), (some ⟨bx, 0, none⟩, bx, n, fun j => 1 + (j : Int)), (a0, b0, rN, s)] w10 := St.mark (O1 := [(a9, b9, rN, s)]) (O2 := [(some ⟨bx, 0, none⟩, bx, n, fun j => 1 + (j : Int)), (a0, b0, rN, s)]) HS19.out hk ho
        clear HS19 ho hk i0 i1 i2
        obtain ⟨i0, i1, i2⟩ := S20.nth 0 rfl
        obtain ⟨j0, j1, j2⟩ := S20.nth 3 rfl
        have pA := (S20.nthO 0 rfl).1.px
        have pB := (S20.nthO 3 rfl).1.px
        have HS20 := hide S20
        have hneg : ¬ 1 + (n : Int) + n' < 0 := by omega
        clear S20
        go_wp2_with fail
        refine (eqR _ _ _ pA pB).mono ?_
        rintro e w11 ⟨rfl, hb⟩
        have S21 := HS20.out.next hb
        clear HS20 hb i0 i1 i2 j0 j1 j2 pA pB
        obtain ⟨i0, i1, i2⟩ := S21.nth 0 rfl
        have HS21 := hide S21
        clear S21
        go_wp2_with fail
        refine (markImage_any rW rH a9 b9 rN rN s 1 (by omega) (by omega) hrn _ (HS21.out.nthO 0 rfl).1 (HS21.out.nthO 0 rfl).2).mono ?_
        rintro e w12 ⟨rfl, ho, hk⟩
        have S24 : St w [(w5.heap.size, rW, rH, .slice a9 rN rN), (w4.heap.size, W', H', .slice (some ⟨by', 0, none⟩) n' n'), (w3.heap.size, W, H, .slice (some ⟨bx, 0, none⟩) n n), (c6, rW, rH, .slice a0 rN rN), (w.heap.size + 1, W', H', .slice a' n' cap'), (w.heap.size, W, H, .slice a n cap)] [(a9, b9, rN, fun j => 1 + (j : Int)), (some ⟨by', 0, none⟩, by', n', fun j => 1 + (n : Int) + j), (some ⟨bx, 0, none⟩, bx, n, fun j => 1 + (j : Int)), (a0, b0, rN, s)] w12 := St.mark (O1 := []) (O2 := [(some ⟨by', 0, none⟩, by', n', fun j => 1 + (n : Int) + j), (some ⟨bx, 0, none⟩, bx, n, fun j => 1 + (j : Int)), (a0, b0, rN, s)]) HS21.out hk ho
        clear HS21 ho hk i0 i1 i2
        obtain ⟨i0, i1, i2⟩ := S24.nth 0 rfl
        have HS24 := hide S24
        clear S24
        have held := fun w' h hb => heldImage_any rW rH a9 b9 rN rN 1 (by omega) (by omega) hrn w' h hb
        have hq0 : ¬ 1 + (rN : Int) < 0 := by omega
        have hq1 : (1 + (rN : Int) != 1 + (rN : Int)) = false := by simp
        go_wp2_with fail
        refine (held _ (HS24.out.nthO 0 rfl).1 (HS24.out.nthO 0 rfl).2).mono ?_
        rintro e w13 ⟨rfl, hb⟩
        have S26 := HS24.out.next hb
        clear HS24 hb i0 i1 i2
        have HS26 := hide S26
        clear S26
        have D2 := HS26.out.drew
        have Z2 := (HS26.out.box 0 0 (.slice none 0 0) 27).drew
        have Y2 := HS26.out.drew.box 0 0 (.slice none 0 0) 27
        have D2s := hide (D2.sixN 5 rfl 4 rfl)
        have Z2s := hide (Z2.sixN 6 rfl 5 rfl)
        have Y2s := hide (Y2.sixN 6 rfl 5 rfl)
        obtain ⟨j0, j1, j2⟩ := HS26.out.nth 5 rfl
        obtain ⟨i0, i1, i2⟩ := HS26.out.nth 4 rfl
        go_upto_region 31 with fail
        go_cut [13] (fun s13 wd => ∃ c a1 b1, s13 = .pointer (some ⟨c, 0, none⟩) ∧ St w [(c, rW, rH, .slice a1 rN rN), (w5.heap.size, rW, rH, .slice a9 rN rN), (w4.heap.size, W', H', .slice (some ⟨by', 0, none⟩) n' n'), (w3.heap.size, W, H, .slice (some ⟨bx, 0, none⟩) n n), (c6, rW, rH, .slice a0 rN rN), (w.heap.size + 1, W', H', .slice a' n' cap'), (w.heap.size, W, H, .slice a n cap)] [(a1, b1, rN, s), (a9, b9, rN, fun j => 1 + (j : Int)), (some ⟨by', 0, none⟩, by', n', fun j => 1 + (n : Int) + j), (some ⟨bx, 0, none⟩, bx, n, fun j => 1 + (j : Int)), (a0, b0, rN, s)] wd)
        case first =>
          go_region_held (fun w' => w'.cell? ⟨w.heap.size, 0, none⟩ = some (.int .i64 W) ∧ w'.cell? ⟨w.heap.size, 1, none⟩ = some (.int .i64 H) ∧ w'.cell? ⟨w.heap.size, 2, none⟩ = some (.slice a n cap) ∧ w'.cell? ⟨w.heap.size + 1, 0, none⟩ = some (.int .i64 W') ∧ w'.cell? ⟨w.heap.size + 1, 1, none⟩ = some (.int .i64 H') ∧ w'.cell? ⟨w.heap.size + 1, 2, none⟩ = some (.slice a' n' cap'))
            ((first | (with_reducible exact D2s.out) | (with_reducible exact Z2s.out) | (with_reducible exact Y2s.out) | (with_reducible exact SAs.out) | (with_reducible exact SAz.out) | (with_reducible exact SBs.out) | (with_reducible exact SBz.out) | (with_reducible exact SCs.out) | (with_reducible exact SCz.out) | (with_reducible exact SCb.out) | (with_reducible exact SCf.out)))
            (first
              | (go_at_call 8; (with_reducible refine (tA _ (HP.out.below (by first | exact D2.below | exact Z2.below | exact Y2.below))).mono ?_); rintro e wA ⟨bA, rfl, hA1, hA2, hrA, hbA⟩; (first | (with_reducible have SA := D2.own hbA (Ow.of_row hrA) hA1 hA2) | (with_reducible have SA := Z2.own hbA (Ow.of_row hrA) hA1 hA2) | (with_reducible have SA := Y2.own hbA (Ow.of_row hrA) hA1 hA2)); clear hbA hrA hA1 hA2; (first | have SAs := hide (SA.sixN 6 rfl 5 rfl) | have SAs := hide (SA.sixN 5 rfl 4 rfl)); (first | have SAz := hide ((SA.box 0 0 (.slice none 0 0) 27).sixN 7 rfl 6 rfl) | have SAz := hide ((SA.box 0 0 (.slice none 0 0) 27).sixN 6 rfl 5 rfl)))
              | (go_at_call 8; (with_reducible refine (tB _ (HP'.out.below (by first | exact SA.below | exact (SA.box 0 0 (.slice none 0 0) 27).below))).mono ?_); rintro e wB ⟨bB, rfl, hB1, hB2, hrB, hbB⟩; (first | (with_reducible have SB := SA.own hbB (Ow.of_row hrB) hB1 hB2) | (with_reducible have SB := (SA.box 0 0 (.slice none 0 0) 27).own hbB (Ow.of_row hrB) hB1 hB2)); clear hbB hrB hB1 hB2; (first | have SBs := hide (SB.sixN 6 rfl 5 rfl) | have SBs := hide (SB.sixN 5 rfl 4 rfl)); (first | have SBz := hide ((SB.box 0 0 (.slice none 0 0) 27).sixN 7 rfl 6 rfl) | have SBz := hide ((SB.box 0 0 (.slice none 0 0) 27).sixN 6 rfl 5 rfl)))
              | (go_at_call 12; (with_reducible refine (ip _ _ _ (by first | exact (SB.ow _ (List.mem_cons_of_mem _ (List.mem_cons_self ..))).px | exact ((SB.box 0 0 (.slice none 0 0) 27).ow _ (List.mem_cons_of_mem _ (List.mem_cons_self ..))).px) (by first | exact (SB.ow _ (List.mem_cons_self ..)).px | exact ((SB.box 0 0 (.slice none 0 0) 27).ow _ (List.mem_cons_self ..)).px)).mono ?_); rintro e wC ⟨a1, b1, rfl, hoC, hC1, hC2, hbC⟩; (first | (with_reducible have SC := SB.own hbC hoC hC1 hC2) | (with_reducible have SC := (SB.box 0 0 (.slice none 0 0) 27).own hbC hoC hC1 hC2)); clear hbC hoC hC1 hC2; (first | have SCs := hide (SC.sixN 6 rfl 5 rfl) | have SCs := hide (SC.sixN 5 rfl 4 rfl)); (first | have SCz := hide ((SC.box 0 0 (.slice none 0 0) 27).sixN 7 rfl 6 rfl) | have SCz := hide ((SC.box 0 0 (.slice none 0 0) 27).sixN 6 rfl 5 rfl)); (first | have SCb := hide ((SC.box rW rH (.slice a1 rN rN) 27).sixN 7 rfl 6 rfl) | have SCb := hide ((SC.box rW rH (.slice a1 rN rN) 27).sixN 6 rfl 5 rfl)); (try have SCf := hide ((SC.fill rW rH (.slice a1 rN rN)).sixN 6 rfl 5 rfl)); obtain ⟨⟨z0, z1, z2⟩, e0, e1, e2⟩ := SC.head))
          all_goals
            clear D2s Z2s Y2s SAs SAz SBs SBz SCs SCz SCb D2 Z2 Y2 SA SB
            go_wp2_with fail
            go_meet
            refine ⟨_, a1, b1, rfl, ?_⟩
            first | with_reducible exact (SC.box rW rH (.slice a1 rN rN) 27).drop2 | with_reducible exact (SC.fill rW rH (.slice a1 rN rN)).drop2 | with_reducible exact (SC.box rW rH (.slice a1 rN rN) 27).drew.drop2 | with_reducible exact (SC.fill rW rH (.slice a1 rN rN)).drew.drop2
        case rest =>
          obtain ⟨c13, a1, b1, rfl, S31⟩ := hcut
          clear D2s Z2s Y2s D2 Z2 Y2 HS26 i0 i1 i2 j0 j1 j2 ip tA tB
          obtain ⟨i0, i1, i2⟩ := S31.nth 0 rfl
          obtain ⟨j0, j1, j2⟩ := S31.nth 4 rfl
          have pA := (S31.nthO 0 rfl).1.px
          have pB := (S31.nthO 4 rfl).1.px
          have HS31 := hide S31
          clear S31
          go_wp2_with fail
          refine (eqR _ _ _ pA pB).mono ?_
          rintro e w14 ⟨rfl, hb⟩
          have S32 := HS31.out.next hb
          clear HS31 hb i0 i1 i2 j0 j1 j2 pA pB
          obtain ⟨i0, i1, i2⟩ := S32.nth 1 rfl
          have HS32 := hide S32
          clear S32
          go_wp2_with fail
          refine (held _ (HS32.out.nthO 1 rfl).1 (HS32.out.nthO 1 rfl).2).mono ?_
          rintro e w15 ⟨rfl, hb⟩
          have HB := hide (HS32.out.next hb).below
          clear HS32 hb i0 i1 i2 held
          go_wp2_with fail
          go_ret
          exact ⟨rfl, HB.out⟩

end Go.Proofs.Ytbaeinbocfmomaa

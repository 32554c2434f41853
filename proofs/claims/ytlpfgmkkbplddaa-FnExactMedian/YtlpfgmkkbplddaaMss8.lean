/- Median, the specification. -/
import Derived.Test.YtlpfgmkkbplddaaMpu
import Derived.BigRegion
namespace Go.Proofs.Ytlpfgmkkbplddaa
open Go.RowKit

theorem visL_rc (W H p : Int) (f : Nat → Int) (t r c : Nat) (hc : c < 2 * t + 1) : visL W H p (offF t t) f (r * (2 * t + 1) + c + 1) = if hasB W H (p % W - t + c) (p / W - t + r) = true then visL W H p (offF t t) f (r * (2 * t + 1) + c) ++ [f ((p / W - t + r) * W + (p % W - t + c)).toNat] else visL W H p (offF t t) f (r * (2 * t + 1) + c) := by
  have h1 := offF_x t t r c hc
  have h2 := offF_y t t r c hc
  rw [visL, h1, h2, show p % W + ((c : Int) - t) = p % W - t + c by omega, show p / W + ((r : Int) - t) = p / W - t + r by omega]

set_option maxRecDepth 100000 in
set_option maxHeartbeats 8000000 in
theorem specMedian_any (W H : Int) (a : Option Addr) (n cap : Nat) (f : Nat → Int) (hl : n ≤ 1048576) (r : Int) (w : World) (h : Px a n f w) :
    Calls Try.prog 42 #[im W H a n cap, .int .i64 r] w (ImR (pickI (medB W H n f r) W) (pickI (medB W H n f r) H) (pickN (medB W H n f r) n) (medS W H f r.toNat) w) := by
  have HS0 := hide (((St.start w).box [.int .i64 W, .int .i64 H, .slice a n cap] 26).box' [.int .i64 0, .int .i64 0, .slice none 0 0] 26 (b := w.heap.size + 1) (by simp))
  have HP := hide h
  have cM := specOk_any W H a n cap f hl _ (h.below HS0.out.below)
  have cW := fun w' => l1In_any r 0 3 w'
  clear h
  unfold medB
  cases hq : okB W H n f
  · rw [hq] at cM
    rw [Bool.false_and, pickI_f, pickI_f, pickN_f]
    clear hq cW
    go_enter Try.func42, Try.ntmps42
    go_wp2_with fail
    refine cM.mono ?_
    rintro e w1 ⟨rfl, hb⟩
    have HS1 := hide (HS0.out.next hb)
    obtain ⟨z0, z1, z2⟩ := HS1.out.im3 0 rfl
    obtain ⟨e0, e1, e2⟩ := HS1.out.fr3 0 rfl
    clear cM hb HS0
    go_wp2_with fail
    exact bodyPost_ret (v := im 0 0 none 0 0) (by simp [results, Try.results42, go_sem, z0, z1, z2]) rfl ((HS1.out.fill3 _ _ _).imN _)
  rw [hq] at cM
  rw [Bool.true_and]
  cases hq2 : inB r 0 3
  · rw [hq2] at cW
    rw [pickI_f, pickI_f, pickN_f]
    clear hq hq2
    go_enter Try.func42, Try.ntmps42
    go_wp2_with fail
    refine cM.mono ?_
    rintro e w1 ⟨rfl, hb⟩
    have HS1 := hide (HS0.out.next hb)
    obtain ⟨z0, z1, z2⟩ := HS1.out.im3 0 rfl
    obtain ⟨e0, e1, e2⟩ := HS1.out.fr3 0 rfl
    clear cM hb HS0
    go_wp2_with fail
    refine (cW _).mono ?_
    rintro e w2 ⟨rfl, rfl⟩
    go_wp2_with fail
    exact bodyPost_ret (v := im 0 0 none 0 0) (by simp [results, Try.results42, go_sem, z0, z1, z2]) rfl ((HS1.out.fill3 _ _ _).imN _)
  rw [hq2] at cW
  rw [pickI_t, pickI_t, pickN_t]
  obtain ⟨⟨hW, hW'⟩, ⟨hH, hH'⟩, hn, hn1, hn4, hf⟩ := okB_ok hq
  obtain ⟨hr0, hr1⟩ : 0 ≤ r ∧ r ≤ 3 := by unfold inB at hq2; simpa using hq2
  obtain ⟨t, rfl⟩ : ∃ t : Nat, r = (t : Int) := ⟨r.toNat, by omega⟩
  rw [Int.toNat_natCast]
  have hnew := l2New_any W H n hn.symm hn4
  have hwn : IntKind.i64.wrap (W * H) = (n : Int) := by rw [← hn, IntKind.wrap_i64]; omega
  have HN := hide hn
  clear hq hq2 hn hf
  go_enter Try.func42, Try.ntmps42
  go_wp2_with fail
  refine cM.mono ?_
  rintro e w2 ⟨rfl, hb⟩
  have HS2 := hide (HS0.out.next hb)
  obtain ⟨i0, i1, i2⟩ := HS2.out.im3 1 rfl
  clear cM hb HS0
  go_wp2_with fail
  refine (cW _).mono ?_
  rintro e w2 ⟨rfl, rfl⟩
  clear cW
  go_wp2_with fail
  refine (hnew _).mono ?_
  rintro e w3 ⟨rfl, hr, hb, hs⟩
  have HS3 := hide ((HS2.out.own hb hr.v (.inr (by omega))).box [.int .i64 W, .int .i64 H, .slice (some ⟨w2.heap.size + 1, 0, none⟩) n n] 26)
  have h3 : w.heap.size + 1 < w3.heap.size := by
    have := ((HS2.out.next hb).ltB 0 rfl).2
    exact this
  generalize hB : w2.heap.size + 1 = B at *
  clear hnew hr hb HS2 i0 i1 i2 hs hB
  go_wp2_with fail
  generalize w3.alloc (.cells #[.int .i64 W, .int .i64 H, .slice (some ⟨B, 0, none⟩) n n] 26) = wX at *
  generalize w3.heap.size = C at *
  go_loopw [6, 7, 8, 9] (fun i _ _ _ wr => ∃ k : Nat, k ≤ n ∧ i = .int .i64 k ∧ St w [(C, [.int .i64 W, .int .i64 H, .slice (some ⟨B, 0, none⟩) n n]), (w.heap.size + 1, [.int .i64 0, .int .i64 0, .slice none 0 0]), (w.heap.size, [.int .i64 W, .int .i64 H, .slice a n cap])] [(some ⟨B, 0, none⟩, B, n, fun x => .int .i64 (hyb (medS W H f t) k x))] wr) (fun i _ _ _ _ => n - (intOf i).toNat)
  case atStart => exact ⟨0, by omega, rfl, HS3.out⟩
  case round =>
    obtain ⟨k, hk, rfl, hS⟩ := hrel
    have HS := hide hS
    clear hS HS3
    obtain ⟨i0, i1, i2⟩ := HS.out.im3 2 rfl
    by_cases hlt : k < n
    · have hx0 : 0 ≤ (k : Int) % W := Int.emod_nonneg _ (by omega)
      have hx1 : (k : Int) % W < W := Int.emod_lt_of_pos _ (by omega)
      have hy0 : 0 ≤ (k : Int) / W := Int.ediv_nonneg (by omega) (by omega)
      have hy1 : (k : Int) / W ≤ k := Int.ediv_le_self W (by omega)
      have e1 : (k : Int).tmod W = (k : Int) % W := Int.tmod_eq_emod_of_nonneg (by omega)
      have e2 : (k : Int).tdiv W = (k : Int) / W := Int.tdiv_eq_ediv_of_nonneg (by omega)
      have hneW : W ≠ 0 := by omega
      have HO0 : Hid ((wr.alloc (.cells #[] 2)).ownsRow wr.heap.size 2 1 (.slice (some ⟨wr.heap.size, 0, none⟩) 0 0) 0 (ints [])) := World.ownsRow_lit wr #[] 0 (Nat.le_refl _) (by unfold maxLen; omega) rfl
      have HB0 := hide (bnew wr (.cells #[] 2))
      have hsw : w.heap.size < wr.heap.size := (HS.out.ltB 2 rfl).2
      obtain ⟨wy, hwy⟩ : ∃ wy, wy = wr := ⟨_, rfl⟩
      have HS' := HS
      clear HS
      obtain ⟨X0, hX0⟩ : ∃ X0, (k : Int) % W = X0 := ⟨_, rfl⟩
      obtain ⟨Y0, hY0⟩ : ∃ Y0, (k : Int) / W = Y0 := ⟨_, rfl⟩
      have eY : IntKind.i64.wrap ((k : Int) / W) = Y0 := by rw [hY0, IntKind.wrap_i64]; omega
      rw [hX0] at hx0 hx1 e1
      rw [hY0] at hy0 hy1 e2
      go_wp2_with fail
      rw [← hwy] at HS' HO0 HB0 hsw ⊢
      clear hwy
      have HX0 := hide hX0
      have HY0 := hide hY0
      go_loopw [7, 8, 9] (fun v s _ wz => ∃ r1 : Nat, r1 ≤ 2 * t + 1 ∧ s = .int .i64 (Y0 - t + r1) ∧ ∃ M : List Int, wz.ownsRow wy.heap.size 2 1 v M.length (ints M) ∧ Srt M ∧ M.Perm (visL W H k (offF t t) f (r1 * (2 * t + 1))) ∧ Below wy.heap.size wy wz) (fun _ s _ _ => (Y0 + t + 1 - intOf s).toNat)
      case atStart => exact ⟨0, by omega, by simp, [], HO0.out, List.Pairwise.nil, by rw [Nat.zero_mul]; exact List.Perm.nil, HB0.out⟩
      case round =>
        obtain ⟨r1, hr1l, rfl, M, ho, hsm, hpm, hb⟩ := hrel
        have HOm := hide ho
        have HSm := hide hsm
        have HPm := hide hpm
        have HBm := hide hb
        clear ho hsm hpm hb HO0 HB0 i0 i1 i2
        have HSz := hide (HS'.out.next HBm.out)
        obtain ⟨i0, i1, i2⟩ := HSz.out.im3 2 rfl
        by_cases hrl : r1 < 2 * t + 1
        · have hle : Y0 - t + r1 ≤ Y0 + t := by omega
          obtain ⟨Y, hY⟩ : ∃ Y, Y0 - (t : Int) + r1 = Y := ⟨_, rfl⟩
          have hYb : -3 ≤ Y ∧ Y ≤ 5000 := by omega
          obtain ⟨hYb0, hYb1⟩ := hYb
          rw [hY] at hle ⊢
          have HY := hide hY
          clear hY
          go_wp2_with fail
          go_loopw [7, 9] (fun v s wz => ∃ c : Nat, c ≤ 2 * t + 1 ∧ s = .int .i64 (X0 - t + c) ∧ ∃ M : List Int, wz.ownsRow wy.heap.size 2 1 v M.length (ints M) ∧ Srt M ∧ M.Perm (visL W H k (offF t t) f (r1 * (2 * t + 1) + c)) ∧ Below wy.heap.size wy wz) (fun _ s _ => (X0 + t + 1 - intOf s).toNat)
          case atStart => exact ⟨0, by omega, by simp, M, HOm.out, HSm.out, HPm.out, HBm.out⟩
          case round =>
            clear HOm HSm HPm HBm HSz i0 i1 i2
            obtain ⟨c, hcl, rfl, M, ho, hsm, hpm, hb⟩ := hrel
            have HOm := hide ho
            have HSm := hide hsm
            have HPm := hide hpm
            have HBm := hide hb
            clear ho hsm hpm hb
            have HSz := hide (HS'.out.next HBm.out)
            obtain ⟨i0, i1, i2⟩ := HSz.out.im3 2 rfl
            by_cases hcc : c < 2 * t + 1
            · have hle2 : X0 - t + c ≤ X0 + t := by omega
              obtain ⟨X, hX⟩ : ∃ X, X0 - (t : Int) + c = X := ⟨_, rfl⟩
              obtain ⟨hXb0, hXb1⟩ : -3 ≤ X ∧ X ≤ 100 := by omega
              have HE0 := visL_rc W H k f t r1 c hcc
              rw [HX0.out, HY0.out, hX, HY.out] at HE0
              have HE : Hid (((0 ≤ X ∧ X < W) ∧ 0 ≤ Y ∧ Y < H → visL W H k (offF t t) f (r1 * (2 * t + 1) + c + 1) = visL W H k (offF t t) f (r1 * (2 * t + 1) + c) ++ [f (Y * W + X).toNat]) ∧ (¬ ((0 ≤ X ∧ X < W) ∧ 0 ≤ Y ∧ Y < H) → visL W H k (offF t t) f (r1 * (2 * t + 1) + c + 1) = visL W H k (offF t t) f (r1 * (2 * t + 1) + c))) := by
                refine ⟨fun h => ?_, fun h => ?_⟩
                · rw [HE0, if_pos (hasB_iff.2 h)]
                · rw [HE0, if_neg (fun e => h (hasB_iff.1 e))]
              rw [hX] at hle2 ⊢
              have HX := hide hX
              clear hX HE0 e1 e2
              by_cases tx0 : 0 ≤ X
              rotate_left
              · have HE2 : Hid (visL W H k (offF t t) f (r1 * (2 * t + 1) + c + 1) = visL W H k (offF t t) f (r1 * (2 * t + 1) + c)) := HE.out.2 (fun e => by omega)
                clear HE
                go_wp2_with fail
                exact ⟨⟨c + 1, by omega, by congr 1; have := HX.out; omega, M, HOm.out, HSm.out, by rw [show r1 * (2 * t + 1) + (c + 1) = r1 * (2 * t + 1) + c + 1 by omega, HE2.out]; exact HPm.out, HBm.out⟩, by simp [intOf]; omega⟩
              by_cases ty0 : 0 ≤ Y
              rotate_left
              · have HE2 : Hid (visL W H k (offF t t) f (r1 * (2 * t + 1) + c + 1) = visL W H k (offF t t) f (r1 * (2 * t + 1) + c)) := HE.out.2 (fun e => by omega)
                clear HE
                go_wp2_with fail
                exact ⟨⟨c + 1, by omega, by congr 1; have := HX.out; omega, M, HOm.out, HSm.out, by rw [show r1 * (2 * t + 1) + (c + 1) = r1 * (2 * t + 1) + c + 1 by omega, HE2.out]; exact HPm.out, HBm.out⟩, by simp [intOf]; omega⟩
              by_cases tx1 : X < W
              rotate_left
              · have HE2 : Hid (visL W H k (offF t t) f (r1 * (2 * t + 1) + c + 1) = visL W H k (offF t t) f (r1 * (2 * t + 1) + c)) := HE.out.2 (fun e => by omega)
                clear HE
                go_wp2_with fail
                exact ⟨⟨c + 1, by omega, by congr 1; have := HX.out; omega, M, HOm.out, HSm.out, by rw [show r1 * (2 * t + 1) + (c + 1) = r1 * (2 * t + 1) + c + 1 by omega, HE2.out]; exact HPm.out, HBm.out⟩, by simp [intOf]; omega⟩
              by_cases ty1 : Y < H
              rotate_left
              · have HE2 : Hid (visL W H k (offF t t) f (r1 * (2 * t + 1) + c + 1) = visL W H k (offF t t) f (r1 * (2 * t + 1) + c)) := HE.out.2 (fun e => by omega)
                clear HE
                go_wp2_with fail
                exact ⟨⟨c + 1, by omega, by congr 1; have := HX.out; omega, M, HOm.out, HSm.out, by rw [show r1 * (2 * t + 1) + (c + 1) = r1 * (2 * t + 1) + c + 1 by omega, HE2.out]; exact HPm.out, HBm.out⟩, by simp [intOf]; omega⟩
              have hhas : hasB W H X Y = true := hasB_iff.2 ⟨⟨tx0, tx1⟩, ty0, ty1⟩
              obtain ⟨p0, p1⟩ := place_lt hhas HN.out
              have HE1 := hide (HE.out.1 ⟨⟨tx0, tx1⟩, ty0, ty1⟩)
              have hs0 : 0 ≤ Y * W := Int.mul_nonneg ty0 (by omega)
              obtain ⟨s, hs⟩ : ∃ s, Y * W = s := ⟨_, rfl⟩
              have ew : IntKind.i64.wrap (Y * W) = s := by rw [IntKind.wrap_i64, ← hs]; omega
              rw [hs] at p0 p1 hs0 HE1
              obtain ⟨q, hq⟩ : ∃ q, (s + X).toNat = q := ⟨_, rfl⟩
              rw [hq] at HE1
              obtain ⟨bf, off2, rfl, c2⟩ := (HP.out.below HSz.out.below).at (show q < n by omega)
              have hML : M.length ≤ 60 := by
                have h1 := HPm.out.length_eq
                have h2 := visL_len W H k (offF t t) f (r1 * (2 * t + 1) + c)
                have h3 : r1 * (2 * t + 1) ≤ 6 * 7 := Nat.mul_le_mul (by omega) (by omega)
                omega
              have cP := l8Put_any wy.heap.size _ M.length M (f q) _ HOm.out rfl hML HBm.out.size
              have HFq : Hid (f q = f q) := rfl
              clear hs hhas HE HP HSz
              go_wp2_with fail
              refine cP.mono ?_
              rintro e w5 ⟨v', rfl, i, hil, hi0, hi1, hown, hb5⟩
              have HO5 : Hid (w5.ownsRow wy.heap.size 2 1 v' (putAt M i (f q)).length (ints (putAt M i (f q)))) := by
                show World.ownsRow _ _ _ _ _ _ _
                rw [putAt_len M i (f q) hil]; exact hown
              have HS5 := hide (putAt_srt HSm.out hil hi0 hi1)
              have HP5 := hide ((putAt_perm M i (f q)).trans (HPm.out.append_right [f q]))
              have HB5 := hide (HBm.out.trans hb5)
              clear cP hi0 hi1 hown hb5 HOm HSm HPm HBm
              go_wp2_with fail
              exact ⟨⟨c + 1, by omega, by congr 1; have := HX.out; omega, putAt M i (f q), HO5.out, HS5.out, by rw [show r1 * (2 * t + 1) + (c + 1) = r1 * (2 * t + 1) + c + 1 by omega, HE1.out]; exact HP5.out, HB5.out⟩, by simp [intOf]; omega⟩
            · obtain rfl : c = 2 * t + 1 := by omega
              have hle2 : ¬ X0 - t + ((2 * t + 1 : Nat) : Int) ≤ X0 + t := by omega
              have HPn : Hid (M.Perm (visL W H k (offF t t) f ((r1 + 1) * (2 * t + 1)))) := by
                show List.Perm _ _
                rw [Nat.succ_mul]; exact HPm.out
              clear e1 e2
              go_wp2_with fail
              exact ⟨⟨r1 + 1, by omega, by congr 1; have := HY.out; omega, M, HOm.out, HSm.out, HPn.out, HBm.out⟩, by simp [intOf]; have := HY.out; omega⟩
        · obtain rfl : r1 = 2 * t + 1 := by omega
          have hle : ¬ Y0 - t + ((2 * t + 1 : Nat) : Int) ≤ Y0 + t := by omega
          have hM := srt_uniq HSm.out HPm.out
          have hpos : 0 < M.length := by
            rw [HPm.out.length_eq]
            exact visL_some (by omega) HN.out hlt
          have HMed : Hid (medS W H f t k = M.getD ((M.length - 1) / 2) 0) := by
            show _ = _
            unfold medS medOf
            rw [← hM, HPm.out.length_eq]
          have hML : M.length ≤ 60 := by
            have h1 := HPm.out.length_eq
            have h2 := visL_len W H k (offF t t) f ((2 * t + 1) * (2 * t + 1))
            have h3 : (2 * t + 1) * (2 * t + 1) ≤ 7 * 7 := Nat.mul_le_mul (by omega) (by omega)
            omega
          obtain ⟨b5, cp5, rfl, hB5, hc5⟩ := own_partsL HOm.out hpos
          obtain ⟨Z, hZ⟩ : ∃ Z, M.getD ((M.length - 1) / 2) 0 = Z := ⟨_, rfl⟩
          have z5 := (hc5 ((M.length - 1) / 2) (by omega)).1
          rw [hZ] at z5
          have HMed2 : Hid (medS W H f t k = Z) := by show _ = _; rw [HMed.out, hZ]
          obtain ⟨l0, l1, l2⟩ := HSz.out.im3 0 rfl
          obtain ⟨d0, fr⟩ := HSz.out.atO hlt
          have HU := hide (HSz.out.upd hlt Z).drew
          rw [← HMed2.out, updN_hyb, HMed2.out] at HU
          obtain ⟨m, hm⟩ : ∃ m, M.length = m := ⟨_, rfl⟩
          rw [hm] at hpos hML z5 ⊢
          obtain ⟨i, hi⟩ : ∃ i, (m - 1) / 2 = i := ⟨_, rfl⟩
          rw [hi] at z5
          have hii : ((m : Int) - 1) / 2 = (i : Int) := by omega
          have him : (i : Int) < (m : Int) := by omega
          have hm1 : (1 : Int) ≤ (m : Int) := by omega
          clear hM HMed hZ hm hi hc5 HOm HSm HPm HBm HSz HS' HP
          go_upto_region 16 with fail
          go_region
          generalize (World.setCell _ ⟨B, k, none⟩ (.int .i64 Z)).drew = wq at *
          clear d0 fr z5 l0 l1 l2 i0 i1 i2
          go_wp2_with fail
          exact ⟨⟨k + 1, by omega, rfl, HU.out⟩, by simp [intOf]; omega⟩
    · obtain rfl : k = n := by omega
      have HSe : Hid (St w [(C, [.int .i64 W, .int .i64 H, .slice (some ⟨B, 0, none⟩) k k]), (w.heap.size + 1, [.int .i64 0, .int .i64 0, .slice none 0 0]), (w.heap.size, [.int .i64 W, .int .i64 H, .slice a k cap])] [(some ⟨B, 0, none⟩, B, k, fun q => .int .i64 (medS W H f t q))] wr) := by
        refine HS.out.mark0 (by omega) (Kept.refl _ _) ?_
        rcases HS.out.nthO 0 rfl with h | ⟨h0, h⟩
        · exact .inl h
        · exact .inr ⟨h0, Row.congr h (fun q hq => if_pos hq)⟩
      obtain ⟨l0, l1, l2⟩ := HSe.out.im3 0 rfl
      obtain ⟨z0, z1, z2⟩ := HSe.out.im3 1 rfl
      obtain ⟨e0, e1, e2⟩ := HSe.out.fr3 1 rfl
      clear HS
      go_wp2_with fail
      exact bodyPost_ret (v := im W H (some ⟨B, 0, none⟩) k k) (by simp [results, Try.results42, go_sem, z0, z1, z2]) rfl ((St.fill3' (L1 := [_]) HSe.out _ _ _).imR W H k)

end Go.Proofs.Ytlpfgmkkbplddaa

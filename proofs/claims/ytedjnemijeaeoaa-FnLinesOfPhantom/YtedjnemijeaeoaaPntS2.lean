/- Painting: the specification, where it can be painted. -/
import Derived.Test.YtedjnemijeaeoaaPntS
namespace Go.Proofs.Ytedjnemijeaeoaa
open Go.RowKit
set_option maxRecDepth 100000
set_option maxHeartbeats 2000000

/-- the picture while the i-th shape is being painted, its first k pixels being done -/
def mix (g : Nat → Int) (W : Int) (i k q : Nat) : Int := if q < k then pict g W (i + 1) q else pict g W i q

theorem mix_zero (g : Nat → Int) (W : Int) (i q : Nat) : pict g W i q = mix g W i 0 q := by unfold mix; rw [if_neg (Nat.not_lt_zero _)]
theorem mix_full {g : Nat → Int} {W : Int} {i n q : Nat} (h : q < n) : mix g W i n q = pict g W (i + 1) q := by unfold mix; rw [if_pos h]
theorem mix_at (g : Nat → Int) (W : Int) (i k : Nat) : mix g W i k k = pict g W i k := by unfold mix; rw [if_neg (Nat.lt_irrefl _)]
theorem mix_step (g : Nat → Int) (W : Int) (i k q : Nat) : (if q = k then pict g W (i + 1) k else mix g W i k q) = mix g W i (k + 1) q := by
  unfold mix
  by_cases e : q = k
  · subst e; rw [if_pos rfl, if_pos (by omega)]
  · rw [if_neg e]
    by_cases h : q < k
    · rw [if_pos h, if_pos (by omega)]
    · rw [if_neg h, if_neg (by omega)]
theorem mix_stay {g : Nat → Int} {W : Int} {i k : Nat} (h : pict g W (i + 1) k = pict g W i k) (q : Nat) : mix g W i k q = mix g W i (k + 1) q := by
  rw [← mix_step]
  by_cases e : q = k
  · subst e; rw [if_pos rfl, h, mix_at]
  · rw [if_neg e]

theorem Im.kept2 {b p : Nat} {W H : Int} {s : Value} {w w' : World} (h : Im b W H s w) (hk : Kept p w w') (hb : b ≠ p) : Im b W H s w' :=
  ⟨hk.cell (a := ⟨b, 0, none⟩) hb h.1, hk.cell (a := ⟨b, 1, none⟩) hb h.2.1, hk.cell (a := ⟨b, 2, none⟩) hb h.2.2⟩

set_option maxHeartbeats 8000000 in
theorem specPaint_yes (a : Option Addr) (len cap : Nat) (g : Nat → Int) (m M : Nat) (m1 : 1 ≤ m) (m2 : m ≤ 64) (M2 : M ≤ 64) (hO : okS g len = true) (hWB : inB (m : Int) 1 64 = true) (hHB : inB (M : Int) 1 64 = true) (w : World) (h : Px a (len * 7) g w) :
    Calls Try.prog 9 #[.slice a len cap, .int .i64 m, .int .i64 M] w fun e w' => ∃ b, e = .returned (im m M (some ⟨b, 0, none⟩) (m * M) (m * M)) ∧ Row b (m * M) (pict g m len) w' ∧ w.heap.size ≤ b ∧ b < w'.heap.size ∧ Below w.heap.size w w' := by
  have h64 := okS_le hO
  have hmM : m * M ≤ 4096 := by
    have := Nat.mul_le_mul m2 M2
    omega
  have cW := l1In_any (m : Int) 1 64
  have cH := l1In_any (M : Int) 1 64
  rw [hWB] at cW
  rw [hHB] at cH
  have HB0 : Hid (Below w.heap.size w (w.alloc (.cells #[.int .i64 0, .int .i64 0, .slice none 0 0] 32))) := bnew _ _
  have cO := l2Ok_any a len cap g (by omega) _ (h.below HB0.out)
  rw [hO] at cO
  have HI0 : Hid (Im w.heap.size 0 0 (.slice none 0 0) (w.alloc (.cells #[.int .i64 0, .int .i64 0, .slice none 0 0] 32))) := Im.new _ _ _ _ _
  have HF0 : Hid (Free w.heap.size (w.alloc (.cells #[.int .i64 0, .int .i64 0, .slice none 0 0] 32))) := by
    refine ⟨?_, ?_, ?_⟩ <;> simp [go_sem]
  have HP : Hid (Px a (len * 7) g w) := h
  have hn : (m : Int) * (M : Int) = ((m * M : Nat) : Int) := by simp
  have cN := l2New_any m M (m * M) hn hmM
  have hwr : IntKind.i64.wrap ((m : Int) * (M : Int)) = ((m * M : Nat) : Int) := by rw [IntKind.wrap_i64, hn]; omega
  have hm0 : (m : Int) ≠ 0 := by omega
  have hm0b : ((m : Int) == 0) = false := by simp; omega
  clear h hWB hHB
  generalize hN : m * M = n at *
  go_enter Try.func9, Try.ntmps9
  go_wp2_with fail
  refine (cW _).mono ?_
  rintro e w1 ⟨rfl, rfl⟩
  go_wp2_with fail
  refine (cH _).mono ?_
  rintro e w1 ⟨rfl, rfl⟩
  go_wp2_with fail
  refine cO.mono ?_
  rintro e w2 ⟨rfl, hb⟩
  have HB2 : Hid (Below w.heap.size w w2) := bnext HB0.out (Nat.le_refl _) hb
  have HI2 : Hid (Im w.heap.size 0 0 (.slice none 0 0) w2) := HI0.out.below hb
  have hlt0 : w.heap.size < (w.alloc (.cells #[.int .i64 0, .int .i64 0, .slice none 0 0] 32)).heap.size := by simp
  have hs2 := Nat.lt_of_lt_of_le hlt0 hb.size
  have HF2 : Hid (Free w.heap.size w2) := ⟨(hb.frozen (p := ⟨w.heap.size, 0, none⟩) hlt0).trans HF0.out.1, (hb.frozen (p := ⟨w.heap.size, 1, none⟩) hlt0).trans HF0.out.2.1, (hb.frozen (p := ⟨w.heap.size, 2, none⟩) hlt0).trans HF0.out.2.2⟩
  clear hb cO cH cW HB0 HI0 HF0 hlt0
  go_wp2_with fail
  refine (cN _).mono ?_
  rintro e w3 ⟨rfl, hr3, hb3, hs3⟩
  generalize hw4 : w3.alloc (.cells #[.int .i64 m, .int .i64 M, .slice (some ⟨w2.heap.size + 1, 0, none⟩) n n] 32) = w4
  have hbA : Below w3.heap.size w3 w4 := by rw [← hw4]; exact bnew _ _
  have HI3 : Hid (Im w3.heap.size m M (.slice (some ⟨w2.heap.size + 1, 0, none⟩) n n) w4) := by rw [← hw4]; exact Im.new _ _ _ _ _
  have HR4 : Hid (Row (w2.heap.size + 1) n (fun _ => 0) w4) := hr3.below hbA hs3
  have HB4 : Hid (Below w.heap.size w w4) := bnext (bnext HB2.out (Nat.le_refl _) hb3) (Nat.le_refl _) hbA
  have HI4 : Hid (Im w.heap.size 0 0 (.slice none 0 0) w4) := (HI2.out.below hb3).below hbA
  have HF4 : Hid (Free w.heap.size w4) := by
    obtain ⟨f0, f1, f2⟩ := HF2.out
    exact ⟨((hbA.frozen (p := ⟨w.heap.size, 0, none⟩) (Nat.lt_of_lt_of_le hs2 hb3.size)).trans (hb3.frozen (p := ⟨w.heap.size, 0, none⟩) hs2)).trans f0, ((hbA.frozen (p := ⟨w.heap.size, 1, none⟩) (Nat.lt_of_lt_of_le hs2 hb3.size)).trans (hb3.frozen (p := ⟨w.heap.size, 1, none⟩) hs2)).trans f1, ((hbA.frozen (p := ⟨w.heap.size, 2, none⟩) (Nat.lt_of_lt_of_le hs2 hb3.size)).trans (hb3.frozen (p := ⟨w.heap.size, 2, none⟩) hs2)).trans f2⟩
  have hs4 : w3.heap.size < w4.heap.size := by rw [← hw4]; simp
  have hs23 := hb3.size
  clear hr3 hb3 hbA HB2 HI2 HF2 cN
  go_wp2_with fail
  clear hw4
  go_loopw [8] (fun i wr => ∃ k : Nat, k ≤ len ∧ i = .int .i64 k ∧ Kept (w2.heap.size + 1) w4 wr ∧ Row (w2.heap.size + 1) n (pict g m k) wr) (fun i _ => len - (intOf i).toNat)
  case atStart => exact ⟨0, by omega, rfl, Kept.refl _ _, HR4.out⟩
  case round =>
    obtain ⟨i, hi, rfl, hk, hr⟩ := hrel
    by_cases hlt : i < len
    · have HR : Hid (Row (w2.heap.size + 1) n (mix g m i 0) wr) := hr.congr fun q _ => mix_zero g m i q
      have HK : Hid (Kept (w2.heap.size + 1) w4 wr) := hk
      clear hr hk
      go_wp2_with fail
      go_loopw [9] (fun j wr => ∃ k : Nat, k ≤ n ∧ j = .int .i64 k ∧ Kept (w2.heap.size + 1) w4 wr ∧ Row (w2.heap.size + 1) n (mix g m i k) wr) (fun j _ => n - (intOf j).toNat)
      case atStart => exact ⟨0, by omega, rfl, HK.out, HR.out⟩
      case round =>
        obtain ⟨k, hk2, rfl, hkx, hrx⟩ := hrel
        clear HK HR
        have HIx := HI3.out.kept2 hkx (by omega)
        have HBx : Hid (Below w.heap.size w wr) := HB4.out.trans (hkx.below (by omega) HB4.out.size)
        by_cases hkn : k < n
        · obtain ⟨px, py⟩ := pt_in (q := k) (m := m) (M := M) (by omega) m1 m2 M2
          obtain ⟨b, off, rfl, hbl, z0, z1, z2, z3, z4, z5, z6⟩ := (HP.out.below HBx.out).seven hlt
          have cS := specIns_any (g (i * 7)) (g (i * 7 + 1)) (g (i * 7 + 2)) (g (i * 7 + 3)) (g (i * 7 + 4)) (g (i * 7 + 5)) (g (i * 7 + 6)) ((k : Int) % (m : Int)) ((k : Int) / (m : Int))
          have hkq : IntKind.i64.wrap ((k : Int) / (m : Int)) = (k : Int) / (m : Int) := by
            unfold inB at py
            simp only [Bool.and_eq_true, decide_eq_true_eq] at py
            exact wrapn (P := 100000) (by omega) (by omega)
          rw [show insideB (g (i * 7)) (g (i * 7 + 1)) (g (i * 7 + 2)) (g (i * 7 + 3)) (g (i * 7 + 4)) (g (i * 7 + 5)) (g (i * 7 + 6)) ((k : Int) % (m : Int)) ((k : Int) / (m : Int)) = insG g ((k : Int) % (m : Int)) ((k : Int) / (m : Int)) i from rfl] at cS
          have ht1 : Int.tmod (k : Int) (m : Int) = (k : Int) % (m : Int) := Int.tmod_eq_emod_of_nonneg (by omega)
          have ht2 : Int.tdiv (k : Int) (m : Int) = (k : Int) / (m : Int) := Int.tdiv_eq_ediv_of_nonneg (by omega)
          have hkq2 : IntKind.i64.wrap (Int.tdiv (k : Int) (m : Int)) = (k : Int) / (m : Int) := by rw [ht2]; exact hkq
          have HT1 : Hid (Int.tmod (k : Int) (m : Int) = (k : Int) % (m : Int)) := ht1
          have HT2 : Hid (Int.tdiv (k : Int) (m : Int) = (k : Int) / (m : Int)) := ht2
          have HT3 : Hid (IntKind.i64.wrap (Int.tdiv (k : Int) (m : Int)) = (k : Int) / (m : Int)) := hkq2
          have HT4 : Hid (IntKind.i64.wrap ((k : Int) / (m : Int)) = (k : Int) / (m : Int)) := hkq
          have cS2 : ∀ x y : Int, x = (k : Int) % (m : Int) → y = (k : Int) / (m : Int) → ∀ w, Calls Try.prog 27 #[shV g i, .int .i64 x, .int .i64 y] w fun e w' => e = .returned (.bool (insG g ((k : Int) % (m : Int)) ((k : Int) / (m : Int)) i)) ∧ Below w.heap.size w w' := fun x y hx hy => by rw [hx, hy]; exact cS
          clear ht1 ht2 hkq2 cS
          go_upto_region 10 with fail
          go_cut [50] (fun s wc => s = .bool (insG g ((k : Int) % (m : Int)) ((k : Int) / (m : Int)) i) ∧ Below wr.heap.size wr wc)
          case first =>
            have HD : Hid (Below wr.heap.size wr wr.drew) := (Below.refl _ _).drew
            clear HIx hrx hkx
            go_region_with (first
              | (go_at_call 27; (with_reducible refine (cS2 _ _ (by first | (with_reducible rfl) | exact HT1.out) (by first | (with_reducible rfl) | exact HT2.out | exact HT3.out | exact HT4.out) _).mono ?_); rintro e w1 ⟨rfl, hb1⟩))
            all_goals
              go_wp2_with fail
              go_meet
              exact ⟨rfl, bnext HD.out (Nat.le_refl _) hb1⟩
          case rest =>
            obtain ⟨rfl, hbc⟩ := hcut
            have hV := val_bound hO hlt
            have hD := dens_bound (x := (k : Int) % (m : Int)) (y := (k : Int) / (m : Int)) hO i hi
            have hP1 : pict g m (i + 1) k = pict g m i k + if insG g ((k : Int) % (m : Int)) ((k : Int) / (m : Int)) i = true then g (i * 7 + 6) else 0 := rfl
            have hkc : Kept (w2.heap.size + 1) w4 wc := hkx.trans (Kept.of_below hbc)
            have hrc : Row (w2.heap.size + 1) n (mix g m i k) wc := hrx.below hbc (World.block_lt_of_cell? wr ⟨w2.heap.size + 1, k, none⟩ (hrx k hkn).1)
            have hIc := HIx.below hbc
            have y6 := (hbc.cell (p := ⟨b, off + i * 7 + 6, none⟩) hbl).trans z6
            clear z0 z1 z2 z3 z4 z5 z6 cS2 HT1 HT2 HT3 HT4 hkx hrx HIx
            cases hI : insG g ((k : Int) % (m : Int)) ((k : Int) / (m : Int)) i
            · rw [hI] at hP1
              simp only [Bool.false_eq_true, if_false, Int.add_zero] at hP1
              have HKc : Hid (Kept (w2.heap.size + 1) w4 wc) := hkc
              have HRc : Hid (Row (w2.heap.size + 1) n (mix g m i (k + 1)) wc) := hrc.congr fun q _ => mix_stay hP1 q
              clear hkc hrc hIc y6 hbc hI
              go_wp2_with fail
              exact ⟨⟨k + 1, by omega, rfl, HKc.out, HRc.out⟩, by simp [intOf]; omega⟩
            · rw [hI] at hP1
              simp only [if_true] at hP1
              obtain ⟨l0, l1, l2⟩ := hIc
              have hpx : wc.cell? ⟨w2.heap.size + 1, k, none⟩ = some (.int .i64 (pict g m i k)) := by
                have := (hrc k hkn).1
                rw [mix_at] at this
                exact this
              have fr := (hrc k hkn).2
              have hw : IntKind.i64.wrap (pict g m i k + g (i * 7 + 6)) = pict g m (i + 1) k := by
                rw [hP1]
                unfold pict
                exact wrapn (P := 1000 * 64 + 1000) (by omega) (by omega)
              have hbw : b ≠ w2.heap.size + 1 := by
                rcases HP.out with h0 | ⟨b1, off1, ha1, hc1⟩
                · omega
                · cases ha1
                  have := World.block_lt_of_cell? w _ (hc1 0 (by omega))
                  simp at this
                  omega
              have HKt : Hid (Kept (w2.heap.size + 1) w4 (wc.setCell ⟨w2.heap.size + 1, k, none⟩ (.int .i64 (IntKind.i64.wrap (pict g m i k + g (i * 7 + 6))))).drew) := (hkc.setCell rfl _).drew
              have HRt : Hid (Row (w2.heap.size + 1) n (mix g m i (k + 1)) (wc.setCell ⟨w2.heap.size + 1, k, none⟩ (.int .i64 (IntKind.i64.wrap (pict g m i k + g (i * 7 + 6))))).drew) := by
                show Row _ _ _ _
                rw [hw]
                exact (hrc.updP hkn (pict g m (i + 1) k)).congr fun q _ => mix_step g m i k q
              clear hw hP1 hV hD hkc hrc hbc hI px py hkq
              generalize pict g m i k = P at *
              generalize g (i * 7 + 6) = V at *
              go_wp2_with fail
              go_region
              rw [show IntKind.i64.wrap (P + V) = wrap64 (P + V) from by unfold wrap64; rw [IntKind.wrap_i64]] at HKt HRt
              generalize (wc.setCell ⟨w2.heap.size + 1, k, none⟩ (.int .i64 (wrap64 (P + V)))).drew = wz at *
              clear l0 l1 l2 y6 hpx fr
              go_wp2_with fail
              exact ⟨⟨k + 1, by omega, rfl, HKt.out, HRt.out⟩, by simp [intOf]; omega⟩
        · obtain rfl : k = n := by omega
          have HKc : Hid (Kept (w2.heap.size + 1) w4 wr) := hkx
          have HRc : Hid (Row (w2.heap.size + 1) k (pict g m (i + 1)) wr) := hrx.congr fun q hq => mix_full hq
          clear hkx hrx HIx
          go_wp2_with fail
          exact ⟨⟨i + 1, by omega, rfl, HKc.out, HRc.out⟩, by simp [intOf]; omega⟩
    · obtain rfl : i = len := by omega
      obtain ⟨l0, l1, l2⟩ := HI3.out.kept2 hk (by omega)
      obtain ⟨i0, i1, i2⟩ := HI4.out.kept2 hk (by omega)
      have f0 := (hk.frozen (a := ⟨w.heap.size, 0, none⟩) (by simp; omega) HI4.out.1).trans HF4.out.1
      have f1 := (hk.frozen (a := ⟨w.heap.size, 1, none⟩) (by simp; omega) HI4.out.2.1).trans HF4.out.2.1
      have f2 := (hk.frozen (a := ⟨w.heap.size, 2, none⟩) (by simp; omega) HI4.out.2.2).trans HF4.out.2.2
      have HR : Hid (Row (w2.heap.size + 1) n (pict g m i) wr) := hr
      have HBr : Hid (Below w.heap.size w wr) := HB4.out.trans (hk.below (by omega) HB4.out.size)
      have hsz := hk.size
      clear hr hk HI3 HI4 HF4 HR4 HP HB4
      go_wp2_with fail
      refine bodyPost_ret (v := im m M (some ⟨w2.heap.size + 1, 0, none⟩) n n) (by simp [results, Try.results9, go_sem, i0, i1, i2]) rfl ⟨_, rfl, ?_, by omega, by simp; omega, ?_⟩
      · exact ((HR.out.set (by simp; omega) _).set (by simp; omega) _).set (by simp; omega) _
      · exact ((HBr.out.setCell (by simp) _).setCell (by simp) _).setCell (by simp) _

/-- what the specification's Paint answers -/
theorem specPaint_any (a : Option Addr) (len cap : Nat) (g : Nat → Int) (hl : len ≤ 1048576) (W H : Int) (w : World) (h : Px a (len * 7) g w) :
    Calls Try.prog 9 #[.slice a len cap, .int .i64 W, .int .i64 H] w (Added (paintB g len W H) W H (W * H).toNat (pict g W len) w) := by
  cases hr : paintB g len W H
  · have := specPaint_no a len cap g hl W H (W * H).toNat (pict g W len) hr w h
    rw [hr] at this
    exact this
  · have hr' := hr
    unfold paintB at hr'
    simp only [Bool.and_eq_true] at hr'
    obtain ⟨hW, hH, hO⟩ := hr'
    obtain ⟨m, rfl, m1, m2⟩ := side_nat hW
    obtain ⟨M, rfl, M1, M2⟩ := side_nat hH
    have en : ((m : Int) * (M : Int)).toNat = m * M := by
      rw [← Int.natCast_mul]; exact Int.toNat_natCast _
    rw [en]
    refine (specPaint_yes a len cap g m M m1 m2 M2 hO hW hH w h).mono ?_
    rintro e w' ⟨b, rfl, hrow, h1, h2, hb⟩
    exact ⟨some ⟨b, 0, none⟩, b, rfl, .inr ⟨rfl, hrow⟩, h1, h2, hb⟩

end Go.Proofs.Ytedjnemijeaeoaa

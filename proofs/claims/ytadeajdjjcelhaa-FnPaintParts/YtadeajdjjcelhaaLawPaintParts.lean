/- The law FnPaintParts, walked. -/
import Derived.Test.YtadeajdjjcelhaaDpt
import Derived.Test.YtadeajdjjcelhaaPar
import Derived.Test.YtadeajdjjcelhaaAddI2
import Derived.Test.YtadeajdjjcelhaaWeiI
import Derived.Test.YtadeajdjjcelhaaSam
import Derived.Test.YtadeajdjjcelhaaLawDensity
import Derived.Test.YtadeajdjjcelhaaPntI2
import Derived.Test.YtadeajdjjcelhaaMarkS
import Derived.Deep.RegionHeld
namespace Go.Proofs.Ytadeajdjjcelhaa
open Go.RowKit
set_option maxRecDepth 100000
set_option maxHeartbeats 2000000

/-- these numbers stand at block g -/
def Cells (g k : Nat) (f : Nat → Int) (w : World) : Prop := ∀ j, j < k → w.cell? ⟨g, j, none⟩ = some (.int .i64 (f j))
theorem Cells.below {g k : Nat} {f : Nat → Int} {w w' : World} (h : Cells g k f w) (hb : Below w.heap.size w w') : Cells g k f w' := fun j hj =>
  (hb.cell (p := ⟨g, j, none⟩) (World.block_lt_of_cell? w _ (h j hj))).trans (h j hj)
theorem Cells.px {g k : Nat} {f : Nat → Int} {w : World} (h : Cells g k f w) : Px (some ⟨g, 0, none⟩) k f w := .inr ⟨g, 0, rfl, fun j hj => by rw [Nat.zero_add]; exact h j hj⟩
theorem cells_of_owns {w : World} {B g n c m : Nat} {e : TypeId} {L : List Int} (h : w.ownsRow B e m (.slice (some ⟨g, 0, none⟩) n c) n (ints L)) : Cells g (n * m) (gOf L) w ∧ L.length = n * m := by
  have hl : L.length = n * m := by have := h.1; rw [ints_length] at this; exact this
  refine ⟨fun j hj => ?_, hl⟩
  rw [h.cellAt j hj]
  exact ints_at L j (by omega)
theorem px_of_owns {w : World} {B n m : Nat} {e : TypeId} {v : Value} {L : List Int} (h : w.ownsRow B e m v n (ints L)) : ∃ a c, v = .slice a n c ∧ Px a (n * m) (gOf L) w := by
  rcases h.2 with ⟨rfl, rfl⟩ | ⟨g, c, cur, rfl, _⟩
  · exact ⟨none, 0, rfl, .inl (by simp)⟩
  · exact ⟨_, c, rfl, (cells_of_owns h).1.px⟩
theorem Px.congr {a : Option Addr} {len : Nat} {f f' : Nat → Int} {w : World} (h : Px a len f w) (e : ∀ q, q < len → f q = f' q) : Px a len f' w := by
  rcases h with h | ⟨b, off, ha, h⟩
  · exact .inl h
  · exact .inr ⟨b, off, ha, fun k hk => by rw [← e k hk]; exact h k hk⟩
theorem dens3 : densB (gOf [1, 0, 0, 0, 0, 0, 3]) 1 0 0 = 3 := by decide +kernel
theorem seven_cells (w : World) (x0 x1 x2 x3 x4 x5 x6 : Int) : Cells w.heap.size 7 (gOf [x0, x1, x2, x3, x4, x5, x6]) (w.alloc (.cells #[.int .i64 x0, .int .i64 x1, .int .i64 x2, .int .i64 x3, .int .i64 x4, .int .i64 x5, .int .i64 x6] 33)) := by
  intro j hj
  match j, hj with
  | 0, _ => simp [go_sem, gOf]
  | 1, _ => simp [go_sem, gOf]
  | 2, _ => simp [go_sem, gOf]
  | 3, _ => simp [go_sem, gOf]
  | 4, _ => simp [go_sem, gOf]
  | 5, _ => simp [go_sem, gOf]
  | 6, _ => simp [go_sem, gOf]

theorem parts {L M : List Int} {n m : Nat} {W H : Int} (hL : L.length = n * 7) (hM : M.length = m * 7) (h1 : paintB (gOf L) n W H = true) (h2 : paintB (gOf M) m W H = true) (h64 : n + m ≤ 64) :
    paintB (gOf (L ++ M)) (n + m) W H = true ∧ paintB (gOf (M ++ L)) (m + n) W H = true ∧ (∀ q, pict (gOf (L ++ M)) W (n + m) q = plus (pict (gOf L) W n) (pict (gOf M) W m) q) ∧ (∀ q, pict (gOf (M ++ L)) W (m + n) q = plus (pict (gOf L) W n) (pict (gOf M) W m) q) ∧
    addB W H (W * H).toNat (pict (gOf L) W n) W H (W * H).toNat (pict (gOf M) W m) = true ∧ weight W H (W * H).toNat (pict (gOf L) W n) = sums W (pict (gOf L) W n) (W * H).toNat ∧ weight W H (W * H).toNat (pict (gOf M) W m) = sums W (pict (gOf M) W m) (W * H).toNat ∧
    weight W H (W * H).toNat (plus (pict (gOf L) W n) (pict (gOf M) W m)) = sums W (plus (pict (gOf L) W n) (pict (gOf M) W m)) (W * H).toNat ∧ (W * H).toNat ≤ 1048576 := by
  obtain ⟨q1, q2, q3⟩ := paint_parts h1
  obtain ⟨_, _, q4⟩ := paint_parts h2
  have b1 := fun q => pict_bd q3 W q
  have b2 := fun q => pict_bd q4 W q
  have pl : ∀ q, plus (pict (gOf L) W n) (pict (gOf M) W m) q = pict (gOf L) W n q + pict (gOf M) W m q := fun q => by
    have := b1 q
    have := b2 q
    unfold plus wrap64
    omega
  have b3 : ∀ q, (plus (pict (gOf L) W n) (pict (gOf M) W m) q).natAbs ≤ 1000000000 := fun q => by
    have := b1 q
    have := b2 q
    rw [pl q]; omega
  have k1 := okB_of q1 q2 (f := pict (gOf L) W n) (fun q => by have := b1 q; omega)
  have k2 := okB_of q1 q2 (f := pict (gOf M) W m) (fun q => by have := b2 q; omega)
  have k3 := okB_of q1 q2 b3
  refine ⟨?_, ?_, fun q => by rw [pl q, pict_app hL], fun q => by rw [pl q, pict_app hM, Int.add_comm], ?_, by unfold weight; rw [k1]; rfl, by unfold weight; rw [k2]; rfl, by unfold weight; rw [k3]; rfl, paint_small h1⟩
  · unfold paintB; rw [q1, q2, okS_app hL q3 q4 h64]; rfl
  · unfold paintB; rw [q1, q2, okS_app hM q4 q3 (by omega)]; rfl
  · unfold addB
    rw [k1, k2, allB_of _ fun q _ => b3 q]
    simp

set_option maxRecDepth 20000 in
set_option maxHeartbeats 8000000 in
theorem fnPaintParts_walk (a : Option Addr) (len cap : Nat) (a' : Option Addr) (len' cap' : Nat) (w : World) (h : Bytes a len w) (h' : Bytes a' len' w) :
    Calls Try.prog 3 #[.slice a len cap, .slice a' len' cap'] w fun e w' => e = .returned (.bool true) ∧ Below w.heap.size w w' := by
  have cB := big_any a len cap
  have cB' := big_any a' len' cap'
  by_cases hbig : 1048576 < len
  · rw [decide_eq_true hbig] at cB
    clear h h' hbig cB'
    go_enter Try.func3, Try.ntmps3
    go_wp2_with fail
    refine (cB _).mono ?_
    rintro e w1 ⟨rfl, rfl⟩
    go_wp2_with fail
    go_ret
    exact ⟨rfl, Below.refl _ _⟩
  rw [decide_eq_false hbig] at cB
  by_cases hbig' : 1048576 < len'
  · rw [decide_eq_true hbig'] at cB'
    clear h h' hbig hbig'
    go_enter Try.func3, Try.ntmps3
    go_wp2_with fail
    refine (cB _).mono ?_
    rintro e w1 ⟨rfl, rfl⟩
    go_wp2_with fail
    refine (cB' _).mono ?_
    rintro e w1 ⟨rfl, rfl⟩
    go_wp2_with fail
    go_ret
    exact ⟨rfl, Below.refl _ _⟩
  rw [decide_eq_false hbig'] at cB'
  have hd1 := drawPaint_any a len cap w h
  have H2 := hide h'
  clear hbig hbig' h h'
  go_enter Try.func3, Try.ntmps3
  go_wp2_with fail
  refine (cB _).mono ?_
  rintro e w ⟨rfl, rfl⟩
  go_wp2_with fail
  refine (cB' _).mono ?_
  rintro e w ⟨rfl, rfl⟩
  clear cB cB'
  go_wp2_with fail
  refine hd1.mono ?_
  rintro e w1 ⟨g1, c1, n, L, W, H, rfl, hn, ho1, hb1, hs1⟩
  have hd2 := drawPaint_any a' len' cap' w1 (H2.out.below hb1)
  obtain ⟨hc1, hL⟩ := cells_of_owns ho1
  have HC1 := hide hc1
  have HB1 := hide hb1
  clear hd1 ho1 hb1 hs1 hc1 H2
  go_wp2_with fail
  refine hd2.mono ?_
  rintro e w2 ⟨g2, c2, m, M, W', H', rfl, hm, ho2, hb2, hs2⟩
  obtain ⟨hc2, hM⟩ := cells_of_owns ho2
  have HA := hide (HC1.out.below hb2)
  have HM := hide hc2
  have HB2 := hide (bnext HB1.out (Nat.le_refl _) hb2)
  have HL := hide hL
  have HLM := hide hM
  clear hd2 ho2 hb2 hs2 hc2 HC1 HB1 hL hM
  have cS1 := specPaint_any (some ⟨g1, 0, none⟩) n c1 (gOf L) (by omega) W H
  have cS2 := specPaint_any (some ⟨g2, 0, none⟩) m c2 (gOf M) (by omega) W H
  have c3 := fun b w' hp => implDens_any (some ⟨b, 0, none⟩) 1 1 (gOf [1, 0, 0, 0, 0, 0, 3]) (by omega) 0 0 w' hp
  rw [dens3] at c3
  unfold Added at cS1 cS2
  have pA := HA.out.px
  cases hr1 : paintB (gOf L) n W H
  · rw [hr1] at cS1
    simp only [Bool.false_eq_true, if_false] at cS1
    go_wp2_with fail
    refine (cS1 _ pA).mono ?_
    rintro e w3 ⟨a3, b3, rfl, ho, h1, h2, hb⟩
    have HB3 := hide (bnext HB2.out (Nat.le_refl _) hb)
    have hb4 := (Below.refl w3.heap.size w3).alloc (Nat.le_refl _) (.cells #[.int .i64 (0), .int .i64 (0), .slice a3 (0) (0)] 29)
    have HX := hide (Im.new (0) (0) (.slice a3 (0) (0)) 29 w3)
    have HB4 := hide (bnext HB3.out (Nat.le_refl _) hb4)
    have pB := ((HM.out.below hb).below hb4).px
    have HA4 := hide ((HA.out.below hb).below hb4)
    have HM4 := hide ((HM.out.below hb).below hb4)
    clear cS1 pA ho h1 h2 hb HB2 HB3 hb4 HA HM
    generalize hrW : (if paintB (gOf M) m W H = true then W else 0) = rW at cS2
    generalize hrH : (if paintB (gOf M) m W H = true then H else 0) = rH at cS2
    generalize hrN : (if paintB (gOf M) m W H = true then (W * H).toNat else 0) = rN at cS2
    go_wp2_with fail
    refine (cS2 _ pB).mono ?_
    rintro e w5 ⟨a5, b5, rfl, ho, h1, h2, hb⟩
    obtain ⟨i0, i1, i2⟩ := (HX.out.below hb).below (bnew w5 (.cells #[.int .i64 rW, .int .i64 rH, .slice a5 rN rN] 29))
    have HB6 := hide (bnext (bnext HB4.out (Nat.le_refl _) hb) (Nat.le_refl _) (bnew w5 (.cells #[.int .i64 rW, .int .i64 rH, .slice a5 rN rN] 29)))
    clear cS2 pB ho h1 h2 hb HX HB4 hrW hrH hrN HA4 HM4 HL HLM hr1
    go_upto_region 8 with fail
    generalize w5.alloc (.cells #[.int .i64 rW, .int .i64 rH, .slice a5 rN rN] 29) = w6 at *
    clear i0 i1 i2
    have HPd := hide ((seven_cells w6 1 0 0 0 0 0 3).px)
    go_wp2_with fail
    refine (c3 _ _ HPd.out).mono ?_
    rintro e w9 ⟨rfl, hb⟩
    have HB9 := hide (bnext (bnext HB6.out (Nat.le_refl _) (bnew w6 (.cells #[.int .i64 1, .int .i64 0, .int .i64 0, .int .i64 0, .int .i64 0, .int .i64 0, .int .i64 3] 33))) (Nat.le_refl _) hb)
    clear hb c3 HPd HB6
    go_wp2_with fail
    go_ret
    exact ⟨rfl, HB9.out⟩
  · rw [hr1] at cS1
    simp only [if_true] at cS1
    go_wp2_with fail
    refine (cS1 _ pA).mono ?_
    rintro e w3 ⟨a3, b3, rfl, ho, h1, h2, hb⟩
    have HB3 := hide (bnext HB2.out (Nat.le_refl _) hb)
    have hb4 := (Below.refl w3.heap.size w3).alloc (Nat.le_refl _) (.cells #[.int .i64 (W), .int .i64 (H), .slice a3 ((W * H).toNat) ((W * H).toNat)] 29)
    have HX := hide (Im.new (W) (H) (.slice a3 ((W * H).toNat) ((W * H).toNat)) 29 w3)
    have HB4 := hide (bnext HB3.out (Nat.le_refl _) hb4)
    have pB := ((HM.out.below hb).below hb4).px
    have HA4 := hide ((HA.out.below hb).below hb4)
    have HM4 := hide ((HM.out.below hb).below hb4)
    clear cS1 pA ho h1 h2 hb HB2 HB3 hb4 HA HM
    obtain ⟨q1, q2, q3⟩ := paint_parts hr1
    have hW1 := side_bounds q1
    have hH1 := side_bounds q2
    have HR1 := hide hr1
    clear hr1
    cases hr2 : paintB (gOf M) m W H
    · rw [hr2] at cS2
      simp only [Bool.false_eq_true, if_false] at cS2
      go_wp2_with fail
      refine (cS2 _ pB).mono ?_
      rintro e w5 ⟨a5, b5, rfl, ho, h1, h2, hb⟩
      obtain ⟨i0, i1, i2⟩ := (HX.out.below hb).below (bnew w5 (.cells #[.int .i64 0, .int .i64 0, .slice a5 0 0] 29))
      have HB6 := hide (bnext (bnext HB4.out (Nat.le_refl _) hb) (Nat.le_refl _) (bnew w5 (.cells #[.int .i64 0, .int .i64 0, .slice a5 0 0] 29)))
      have hW0 : (W == 0) = false := by simp; omega
      clear cS2 pB ho h1 h2 hb HX HB4 HA4 HM4 HL HLM hr2 q1 q2 q3
      go_upto_region 8 with fail
      generalize w5.alloc (.cells #[.int .i64 0, .int .i64 0, .slice a5 0 0] 29) = w6 at *
      clear i0 i1 i2
      have HPd := hide ((seven_cells w6 1 0 0 0 0 0 3).px)
      go_wp2_with fail
      refine (c3 _ _ HPd.out).mono ?_
      rintro e w9 ⟨rfl, hb⟩
      have HB9 := hide (bnext (bnext HB6.out (Nat.le_refl _) (bnew w6 (.cells #[.int .i64 1, .int .i64 0, .int .i64 0, .int .i64 0, .int .i64 0, .int .i64 0, .int .i64 3] 33))) (Nat.le_refl _) hb)
      clear hb c3 HPd HB6
      go_wp2_with fail
      go_ret
      exact ⟨rfl, HB9.out⟩
    · rw [hr2] at cS2
      simp only [if_true] at cS2
      obtain ⟨_, _, q4⟩ := paint_parts hr2
      go_wp2_with fail
      refine (cS2 _ pB).mono ?_
      rintro e w5 ⟨a5, b5, rfl, ho, h1, h2, hb⟩
      have hb6 := bnew w5 (.cells #[.int .i64 W, .int .i64 H, .slice a5 (W * H).toNat (W * H).toNat] 29)
      obtain ⟨i0, i1, i2⟩ := (HX.out.below hb).below hb6
      have HB6 := hide (bnext (bnext HB4.out (Nat.le_refl _) hb) (Nat.le_refl _) hb6)
      have HA6 := hide ((HA4.out.below hb).below hb6)
      have HM6 := hide ((HM4.out.below hb).below hb6)
      have hW0 : (W == 0) = false := by simp; omega
      clear cS2 pB ho h1 h2 hb HX HB4 HA4 HM4 hb6
      by_cases h64 : 64 < n + m
      · have h64' : (64 : Int) < (n : Int) + (m : Int) := by omega
        clear HL HLM hr2 q1 q2 q3 q4 HA6 HM6 HR1
        go_upto_region 8 with fail
        generalize w5.alloc (.cells #[.int .i64 W, .int .i64 H, .slice a5 (W * H).toNat (W * H).toNat] 29) = w6 at *
        clear i0 i1 i2
        have HPd := hide ((seven_cells w6 1 0 0 0 0 0 3).px)
        go_wp2_with fail
        refine (c3 _ _ HPd.out).mono ?_
        rintro e w9 ⟨rfl, hb⟩
        have HB9 := hide (bnext (bnext HB6.out (Nat.le_refl _) (bnew w6 (.cells #[.int .i64 1, .int .i64 0, .int .i64 0, .int .i64 0, .int .i64 0, .int .i64 0, .int .i64 3] 33))) (Nat.le_refl _) hb)
        clear hb c3 HPd HB6
        go_wp2_with fail
        go_ret
        exact ⟨rfl, HB9.out⟩
      · have h64' : ¬ (64 : Int) < (n : Int) + (m : Int) := by omega
        clear c3
        go_upto_region 9 with fail
        generalize w5.alloc (.cells #[.int .i64 W, .int .i64 H, .slice a5 (W * H).toNat (W * H).toNat] 29) = w6 at *
        clear i0 i1 i2
        obtain ⟨ti, hi1, hi2, hi3, hi4⟩ := info33
        have HI1 := hide hi1
        clear hi1
        have HO : Hid ((w6.alloc (.cells #[] 33)).ownsRow w6.heap.size 33 7 (.slice (some ⟨w6.heap.size, 0, none⟩) 0 0) 0 (ints [])) := World.ownsRow_lit w6 #[] 0 (Nat.le_refl _) (by unfold maxLen; omega) rfl
        have HX0 := hide (HA6.out.below (bnew w6 (.cells #[] 33)))
        have HN0 := hide (bnew w6 (.cells #[] 33))
        have hsz0 : w6.heap.size ≤ (w6.alloc (.cells #[] 33)).heap.size := by simp
        go_wp2_with (refine growFrom _ rfl _ _ 24 rfl w6.heap.size 33 ti (.agg #[.int .i64 0, .int .i64 0, .int .i64 0, .int .i64 0, .int .i64 0, .int .i64 0, .int .i64 0]) 7 56 Try.underlying24 HI1.out hi2 hi3 hi4 rfl (by omega) _ 0 [] rfl _ HO.out HN0.out hsz0 L g1 n c1 rfl HL.out HX0.out (by unfold maxLen; omega) (by omega) ?_)
        intro v20 w20 ho hb hb'
        have HO20 : Hid (w20.ownsRow w6.heap.size 33 7 v20 n (ints L)) := by first | exact ho | (rw [Nat.zero_add] at ho; exact ho)
        have HBw20 := hide hb
        have HX20 := hide (HM6.out.below hb)
        have hsz20 := hb.size
        clear ho hb hb' HO HX0 HN0 hsz0
        go_wp2_with (refine growFrom _ rfl _ _ 24 rfl w6.heap.size 33 ti (.agg #[.int .i64 0, .int .i64 0, .int .i64 0, .int .i64 0, .int .i64 0, .int .i64 0, .int .i64 0]) 7 56 Try.underlying24 HI1.out hi2 hi3 hi4 rfl (by omega) _ n L rfl _ HO20.out HBw20.out hsz20 M g2 m c2 rfl HLM.out HX20.out (by unfold maxLen; omega) (by omega) ?_)
        intro v21 w21 ho hb hb'
        obtain ⟨a21, c21, hv, hp⟩ := px_of_owns ho
        subst hv
        have HP21 := hide hp
        have hb21 := hb
        clear ho hb hb' hp HO20 HBw20 HX20 hsz20
        have HB21 := hide (bnext HB6.out (Nat.le_refl _) hb21)
        have HA21 := hide (HA6.out.below hb21)
        have HM21 := hide (HM6.out.below hb21)
        clear hb21 HB6 HA6 HM6
        go_upto_region 10 with fail
        have HO : Hid ((w21.alloc (.cells #[] 33)).ownsRow w21.heap.size 33 7 (.slice (some ⟨w21.heap.size, 0, none⟩) 0 0) 0 (ints [])) := World.ownsRow_lit w21 #[] 0 (Nat.le_refl _) (by unfold maxLen; omega) rfl
        have HX0 := hide (HM21.out.below (bnew w21 (.cells #[] 33)))
        have HN0 := hide (bnew w21 (.cells #[] 33))
        have hsz0 : w21.heap.size ≤ (w21.alloc (.cells #[] 33)).heap.size := by simp
        go_wp2_with (refine growFrom _ rfl _ _ 24 rfl w21.heap.size 33 ti (.agg #[.int .i64 0, .int .i64 0, .int .i64 0, .int .i64 0, .int .i64 0, .int .i64 0, .int .i64 0]) 7 56 Try.underlying24 HI1.out hi2 hi3 hi4 rfl (by omega) _ 0 [] rfl _ HO.out HN0.out hsz0 M g2 m c2 rfl HLM.out HX0.out (by unfold maxLen; omega) (by omega) ?_)
        intro v30 w30 ho hb hb'
        have HO30 : Hid (w30.ownsRow w21.heap.size 33 7 v30 m (ints M)) := by first | exact ho | (rw [Nat.zero_add] at ho; exact ho)
        have HBw30 := hide hb
        have HX30 := hide (HA21.out.below hb)
        have hsz30 := hb.size
        clear ho hb hb' HO HX0 HN0 hsz0
        go_wp2_with (refine growFrom _ rfl _ _ 24 rfl w21.heap.size 33 ti (.agg #[.int .i64 0, .int .i64 0, .int .i64 0, .int .i64 0, .int .i64 0, .int .i64 0, .int .i64 0]) 7 56 Try.underlying24 HI1.out hi2 hi3 hi4 rfl (by omega) _ m M rfl _ HO30.out HBw30.out hsz30 L g1 n c1 rfl HL.out HX30.out (by unfold maxLen; omega) (by omega) ?_)
        intro v31 w31 ho hb hb'
        obtain ⟨a31, c31, hv, hp⟩ := px_of_owns ho
        subst hv
        have HP31 := hide hp
        have hb31 := hb
        clear ho hb hb' hp HO30 HBw30 HX30 hsz30
        have HB31 := hide (bnext HB21.out (Nat.le_refl _) hb31)
        have pA := (HA21.out.below hb31).px
        have HM31 := hide (HM21.out.below hb31)
        have HQ21 := hide (HP21.out.below hb31)
        clear hb31 HB21 HA21 HM21 HP21 HI1 hi2 hi3 hi4
        obtain ⟨p1, p2, e1, e2, hadd, k1, k2, k3, hN⟩ := parts HL.out HLM.out HR1.out hr2 (by omega)
        have hsum := sums_add W (pict (gOf L) W n) (pict (gOf M) W m) (W * H).toNat
        have cI1 := implPaint_any (some ⟨g1, 0, none⟩) n c1 (gOf L) (by omega) W H
        have cI2 := implPaint_any (some ⟨g2, 0, none⟩) m c2 (gOf M) (by omega) W H
        have cI3 := implPaint_any a21 (n + m) c21 (gOf (L ++ M)) (by omega) W H
        have cI4 := implPaint_any a31 (m + n) c31 (gOf (M ++ L)) (by omega) W H
        unfold Added at cI1 cI2 cI3 cI4
        rw [HR1.out] at cI1
        rw [hr2] at cI2
        rw [p1] at cI3
        rw [p2] at cI4
        simp only [if_true] at cI1 cI2 cI3 cI4
        have HE1 := hide e1
        have HE2 := hide e2
        clear p1 p2 e1 e2 HR1 hr2 q1 q2 q3 q4
        generalize hf : pict (gOf L) W n = f at *
        generalize hg : pict (gOf M) W m = g at *
        clear hf hg
        have cAd := fun x y w' hx hy => implAdd_any W H x (W * H).toNat (W * H).toNat f hN W H y (W * H).toNat (W * H).toNat g hN w' hx hy
        unfold Added at cAd
        rw [hadd] at cAd
        simp only [if_true] at cAd
        have cW1 := fun x w' hx => implWeigh_any W H x (W * H).toNat (W * H).toNat f hN w' hx
        have cW2 := fun x w' hx => implWeigh_any W H x (W * H).toNat (W * H).toNat g hN w' hx
        have cW3 := fun x w' hx => implWeigh_any W H x (W * H).toNat (W * H).toNat (plus f g) hN w' hx
        rw [k1] at cW1
        rw [k2] at cW2
        rw [k3, hsum.1, hsum.2.1, hsum.2.2] at cW3
        have cSm := fun x y w' hx hy => sameImage_any W H x y (W * H).toNat (W * H).toNat (W * H).toNat (plus f g) hN w' hx hy
        clear hadd k1 k2 k3 hsum HL HLM
        generalize (W * H).toNat = N at *
        generalize (sums W f N).1 = A1 at *
        generalize (sums W f N).2.1 = A2 at *
        generalize (sums W f N).2.2 = A3 at *
        generalize (sums W g N).1 = B1 at *
        generalize (sums W g N).2.1 = B2 at *
        generalize (sums W g N).2.2 = B3 at *
        go_upto_region 11 with fail
        go_wp2_with fail
        refine (cI1 _ pA).mono ?_
        rintro e w40 ⟨a40, b40, rfl, ho, h1, h2, hb⟩
        have hb41 := bnew w40 (.cells #[.int .i64 W, .int .i64 H, .slice a40 N N] 29)
        have HB41 := hide (bnext (bnext HB31.out (Nat.le_refl _) hb) (Nat.le_refl _) hb41)
        have HI15 := hide (Im.new W H (.slice a40 N N) 29 w40)
        have HF := hide ((ho.px).below hb41)
        have pB := ((HM31.out.below hb).below hb41).px
        have HQ41 := hide ((HQ21.out.below hb).below hb41)
        have HR41 := hide ((HP31.out.below hb).below hb41)
        clear ho h1 h2 hb hb41 cI1 pA HM31 HQ21 HP31 HB31
        go_upto_region 12 with fail
        generalize w40.alloc (.cells #[.int .i64 W, .int .i64 H, .slice a40 N N] 29) = w41 at *
        generalize w40.heap.size = b15 at *
        go_wp2_with fail
        refine (cI2 _ pB).mono ?_
        rintro e w42 ⟨a42, b42, rfl, ho, h1, h2, hb⟩
        have hb43 := bnew w42 (.cells #[.int .i64 W, .int .i64 H, .slice a42 N N] 29)
        have HB43 := hide (bnext (bnext HB41.out (Nat.le_refl _) hb) (Nat.le_refl _) hb43)
        have HI15' := hide ((HI15.out.below hb).below hb43)
        have HI16 := hide (Im.new W H (.slice a42 N N) 29 w42)
        have HF' := hide ((HF.out.below hb).below hb43)
        have HG := hide ((ho.px).below hb43)
        have HQ43 := hide ((HQ41.out.below hb).below hb43)
        have HR43 := hide ((HR41.out.below hb).below hb43)
        clear ho h1 h2 hb hb43 cI2 pB HB41 HI15 HF HQ41 HR41
        go_upto_region 13 with fail
        generalize w42.alloc (.cells #[.int .i64 W, .int .i64 H, .slice a42 N N] 29) = w43 at *
        generalize w42.heap.size = b16 at *
        obtain ⟨i0, i1, i2⟩ := HI15'.out
        obtain ⟨j0, j1, j2⟩ := HI16.out
        go_wp2_with fail
        refine (cAd _ _ _ HF'.out HG.out).mono ?_
        rintro e w44 ⟨a44, b44, rfl, ho, h1, h2, hb⟩
        clear i0 i1 i2 j0 j1 j2
        have hb45 := bnew w44 (.cells #[.int .i64 W, .int .i64 H, .slice a44 N N] 29)
        have HB45 := hide (bnext (bnext HB43.out (Nat.le_refl _) hb) (Nat.le_refl _) hb45)
        have HI15 := hide ((HI15'.out.below hb).below hb45)
        have HI16' := hide ((HI16.out.below hb).below hb45)
        have HI17 := hide (Im.new W H (.slice a44 N N) 29 w44)
        have HF := hide ((HF'.out.below hb).below hb45)
        have HG' := hide ((HG.out.below hb).below hb45)
        have HS := hide ((ho.px).below hb45)
        have HQ45 := hide ((HQ43.out.below hb).below hb45)
        have HR45 := hide ((HR43.out.below hb).below hb45)
        clear ho h1 h2 hb hb45 cAd HB43 HI15' HI16 HF' HG HQ43 HR43
        go_upto_region 14 with fail
        generalize w44.alloc (.cells #[.int .i64 W, .int .i64 H, .slice a44 N N] 29) = w45 at *
        generalize w44.heap.size = b17 at *
        have hne1 : (W != W) = false := by simp
        have hne2 : (H != H) = false := by simp
        go_cut [121] (fun s wc => s = .bool false ∧ Below w45.heap.size w45 wc)
        case first =>
          have HD := hide ((Below.refl w45.heap.size w45).drew)
          obtain ⟨i0, i1, i2⟩ := HI17.out
          have pQ := HQ45.out.below HD.out
          go_region_held (fun w' => w'.cell? ⟨b17, 0, none⟩ = some (.int .i64 W) ∧ w'.cell? ⟨b17, 1, none⟩ = some (.int .i64 H) ∧ w'.cell? ⟨b17, 2, none⟩ = some (.slice a44 N N))
            ((first | exact ⟨i0, i1, i2⟩ | exact HI17.out.below HD50.out | exact HI17.out.below HD51.out | exact HI17.out.below HD52.out | exact HI17.out.below HD53.out))
            ((first | (go_at_call 14; (with_reducible refine (cI3 _ pQ).mono ?_); rintro e w50 ⟨a50, b50, rfl, ho, h1, h2, hb⟩; have HD50 := hide (bnext HD.out (Nat.le_refl _) hb); have pX := ho.px.congr (fun q _ => HE1.out q); have pY := HS.out.below HD50.out; clear ho h1 h2 hb) | (go_at_call 16; (with_reducible refine (cSm _ _ _ pX pY).mono ?_); rintro e w51 ⟨rfl, hb⟩; have HD51 := hide (bnext HD50.out (Nat.le_refl _) hb); have pR := HR45.out.below HD51.out; clear hb pX pY) | (go_at_call 14; (with_reducible refine (cI4 _ pR).mono ?_); rintro e w52 ⟨a52, b52, rfl, ho, h1, h2, hb⟩; have HD52 := hide (bnext HD51.out (Nat.le_refl _) hb); have pZ := ho.px.congr (fun q _ => HE2.out q); have pT := HS.out.below HD52.out; clear ho h1 h2 hb) | (go_at_call 16; (with_reducible refine (cSm _ _ _ pZ pT).mono ?_); rintro e w53 ⟨rfl, hb⟩; have HD53 := hide (bnext HD52.out (Nat.le_refl _) hb); clear hb pZ pT)))
          all_goals
            go_wp2_with fail
            go_meet
            exact ⟨rfl, HD53.out⟩
        case rest =>
          obtain ⟨hq, hbc⟩ := hcut
          subst hq
          have HBc := hide (bnext HB45.out (Nat.le_refl _) hbc)
          have J15 := hide (HI15.out.below hbc)
          have J16 := hide (HI16'.out.below hbc)
          have J17 := hide (HI17.out.below hbc)
          have KF := hide (HF.out.below hbc)
          have KG := hide (HG'.out.below hbc)
          have KS := hide (HS.out.below hbc)
          clear hbc HI15 HI16' HI17 HF HG' HS HQ45 HR45 HB45 cI3 cI4 cSm HE1 HE2
          obtain ⟨i0, i1, i2⟩ := J15.out
          go_wp2_with fail
          refine (cW1 _ _ KF.out).mono ?_
          rintro e w60 ⟨rfl, hb⟩
          clear i0 i1 i2 J15 KF
          have HB60 := hide (bnext HBc.out (Nat.le_refl _) hb)
          have L16 := hide (J16.out.below hb)
          have L17 := hide (J17.out.below hb)
          have MG := hide (KG.out.below hb)
          have MS := hide (KS.out.below hb)
          clear hb HBc J16 J17 KG KS cW1
          obtain ⟨i0, i1, i2⟩ := L16.out
          go_wp2_with fail
          refine (cW2 _ _ MG.out).mono ?_
          rintro e w61 ⟨rfl, hb⟩
          clear i0 i1 i2 L16 MG
          have HB61 := hide (bnext HB60.out (Nat.le_refl _) hb)
          have R17 := hide (L17.out.below hb)
          have RS := hide (MS.out.below hb)
          clear hb HB60 L17 MS cW2
          obtain ⟨i0, i1, i2⟩ := R17.out
          go_wp2_with fail
          refine (cW3 _ _ RS.out).mono ?_
          rintro e w62 ⟨rfl, hb⟩
          clear i0 i1 i2 R17 RS cW3
          have HB62 := hide (bnext HB61.out (Nat.le_refl _) hb)
          clear hb HB61
          go_wp2_with fail
          go_ret
          exact ⟨rfl, HB62.out⟩

end Go.Proofs.Ytadeajdjjcelhaa
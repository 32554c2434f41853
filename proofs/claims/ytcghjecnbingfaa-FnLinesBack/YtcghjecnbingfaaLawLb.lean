/- An image from its lines, there and back: the law, walked. -/
import Derived.Test.YtcghjecnbingfaaDl6
import Derived.Test.YtcghjecnbingfaaLbk
import Derived.Test.YtcghjecnbingfaaLno
import Derived.Test.YtcghjecnbingfaaCln
import Derived.Test.YtcghjecnbingfaaSm8
import Derived.Test.YtcghjecnbingfaaRwb
namespace Go.Proofs.Ytcghjecnbingfaa
open Go.RowKit

theorem own_px6 {w : World} {B n : Nat} {v : Value} {f : Nat → Int} (h : w.ownsRow B 2 1 v n (ints (fl f n))) (hn : 0 < n) : ∃ x c, v = .slice x n c ∧ n ≤ c ∧ Px x n f w := by
  obtain ⟨x, c, b, hv, ho, _⟩ := ow_fl h
  rcases h.2 with ⟨_, h0⟩ | ⟨g, c', cur, hv', _, _, hc, _⟩
  · omega
  rw [hv] at hv'
  cases hv'
  exact ⟨_, c, hv, hc, ho.px⟩
theorem Px.cg6 {a : Option Addr} {n : Nat} {f g : Nat → Int} {w : World} (h : Px a n f w) (e : ∀ k, k < n → f k = g k) : Px a n g w := by
  rcases h with h | ⟨b, off, ha, h⟩
  · exact .inl h
  · exact .inr ⟨b, off, ha, fun k hk => by rw [← e k hk]; exact h k hk⟩
theorem Row.lt6 {b n : Nat} {f : Nat → Int} {w : World} (h : Row b n f w) (hn : 0 < n) : b < w.heap.size := World.block_lt_of_cell? w ⟨b, 0, none⟩ (h 0 hn).1
theorem Bx.lt6 {b : Nat} {v : Value} {vs : List Value} {w : World} (h : Bx b (v :: vs) w) : b < w.heap.size := World.block_lt_of_cell? w ⟨b, 0, none⟩ (h 0 v rfl).1

set_option maxRecDepth 100000 in
set_option maxHeartbeats 8000000 in
theorem fnLinesBack_walk (c0 : Option Addr) (n0 k0 : Nat) (w : World) (hy0 : Bytes c0 n0 w) :
    Calls Try.prog 3 #[.slice c0 n0 k0] w fun e w' => e = .returned (.bool true) ∧ Below w.heap.size w w' := by
  have b0 := big_any c0 n0 k0
  have HY0 := hide hy0
  clear hy0
  go_enter Try.func3, Try.ntmps3
  go_wp2_with fail
  refine (b0 _).mono ?_
  rintro e w0 ⟨rfl, h1⟩
  obtain rfl := h1.symm
  by_cases g0 : 1048576 < n0
  · have d0 : decide (1048576 < n0) = true := by simp [g0]
    clear b0
    go_wp2_with fail
    go_ret
    exact ⟨rfl, Below.refl _ _⟩
  have d0 : decide (1048576 < n0) = false := by simp [g0]
  clear b0
  have cA := drawLines_any c0 n0 k0 w HY0.out
  go_wp2_with fail
  refine cA.mono ?_
  rintro e w1 ⟨W, H, x, b, n, c, f, rfl, hn, ho, -, hb⟩
  have hb2 := bnew w1 (.cells #[.int .i64 W, .int .i64 H, .slice x n c] 26)
  have HP2 := hide (ho.px.below hb2)
  have HB2 := hide (hb.trans (hb2.mono hb.size))
  have BX2 : Hid (Bx w1.heap.size [.int .i64 W, .int .i64 H, .slice x n c] (w1.alloc (.cells #[.int .i64 W, .int .i64 H, .slice x n c] 26))) := Bx.new [.int .i64 W, .int .i64 H, .slice x n c] 26 w1
  clear cA ho hb hb2 d0 g0 HY0
  go_upto_region 4 with fail
  generalize hw2 : w1.alloc (.cells #[.int .i64 W, .int .i64 H, .slice x n c] 26) = w2 at *
  clear hw2
  generalize w1.heap.size = X at *
  obtain ⟨x0, -⟩ := BX2.out 0 _ rfl
  obtain ⟨x1, -⟩ := BX2.out 1 _ rfl
  obtain ⟨x2, -⟩ := BX2.out 2 _ rfl
  have cS := specLines_any W H x n c f (by omega) w2 HP2.out
  cases ht : toneB W H n f
  · have hl0 : lnN W H n f = 0 := by unfold lnN; rw [ht]; rfl
    rw [hl0] at cS
    clear ht hl0
    go_wp2_with fail
    refine cS.mono ?_
    rintro e w3 ⟨al, cl, bl, rfl, -, -, hb3⟩
    have HB3 := hide (HB2.out.trans (hb3.mono HB2.out.size))
    have cI := implSideOf_any 6 w3
    rw [show sdv 6 = 2 from rfl] at cI
    clear cS hb3 x0 x1 x2 HB2 BX2 HP2
    go_wp2_with fail
    refine cI.mono ?_
    rintro e w4 ⟨rfl, hw4⟩
    obtain rfl := hw4.symm
    clear cI
    go_wp2_with fail
    go_ret
    exact ⟨rfl, HB3.out⟩
  · obtain ⟨hHW, hn1, hn9, hN1, hN2, hgb, hfB, hfP, hfN, hfX, hms, hoff⟩ := lines_back ht
    have hWH := hHW.symm
    subst hWH
    clear hHW
    have cL := fun a' c' w' h => implLinesC_any W W a' n c' f (by omega) ht w' h
    have cF := fun a' c' hc w' h => implFromLines_any a' (lnN W W n f) c' (lnF W f) (by omega) hc w' h
    have hfW : frW (lnN W W n f) (lnF W f) = W := by unfold frW; rw [if_pos hfB]; exact hfP
    have hfN' : frN (lnN W W n f) (lnF W f) = n := by unfold frN; rw [if_pos hfB]; exact hfN
    rw [hfW, hfN', hfB] at cF
    have cM := fun a' c' a'' c'' w' h h' => implMisfit_any W W a' n c' f (by omega) a'' (lnN W W n f) c'' (lnF W f) (by omega) w' h h'
    rw [hms] at cM
    obtain ⟨v, hv⟩ : ∃ v, v = lnF W f 0 + 1 := ⟨_, rfl⟩
    have hob := hoff v hv
    have cG := fun a' c' hc w' h => implFromLines_any a' (lnN W W n f) c' (Lnm.upd (lnF W f) 0 v) (by omega) hc w' h
    have hoW : frW (lnN W W n f) (Lnm.upd (lnF W f) 0 v) = 0 := by unfold frW; rw [hob]; rfl
    have hoN : frN (lnN W W n f) (Lnm.upd (lnF W f) 0 v) = 0 := by unfold frN; rw [hob]; rfl
    rw [hoW, hoN, hob] at cG
    have hvw : IntKind.i64.wrap (lnF W f 0 + 1) = v := by have := hgb 0; rw [IntKind.wrap_i64, hv]; omega
    have HXF := hide hfX
    have hq0 : (((lnN W W n f : Nat) : Int) == 0) = false := by simp; omega
    clear hfW hfN' hfP hfN hfX hms hoff hob hoW hoN hgb hfB hv ht
    generalize frX (frP (lnN W W n f)) (lnF W f) = fX at *
    generalize frX (frP (lnN W W n f)) (Lnm.upd (lnF W f) 0 v) = fY at *
    generalize lnN W W n f = NN at *
    generalize lnF W f = g at *
    go_wp2_with fail
    refine cS.mono ?_
    rintro e w3 ⟨al, cl, bl, rfl, -, -, hb3⟩
    have HB3 := hide (HB2.out.trans (hb3.mono HB2.out.size))
    have HP3 := hide (HP2.out.below hb3)
    have BX3 := hide (BX2.out.below hb3 BX2.out.lt6)
    clear cS hb3 x0 x1 x2 HB2 BX2 HP2
    obtain ⟨x0, -⟩ := BX3.out 0 _ rfl
    obtain ⟨x1, -⟩ := BX3.out 1 _ rfl
    obtain ⟨x2, -⟩ := BX3.out 2 _ rfl
    have cC := copyImage_any W W x n c f (by omega) hn1 w3 HP3.out
    go_wp2_with fail
    refine cC.mono ?_
    rintro e w4 ⟨b4, c4, rfl, hr4, -, hb4⟩
    have HB4 := hide (HB3.out.trans (hb4.mono HB3.out.size))
    have HP4 := hide (HP3.out.below hb4)
    have BX4 := hide (BX3.out.below hb4 BX3.out.lt6)
    have cL4 := cL _ c4 w4 hr4.px
    clear cC hb4 hr4 x0 x1 x2 HB3 BX3 HP3 cL
    go_wp2_with fail
    refine cL4.mono ?_
    rintro e w5 ⟨bs, rfl, hrs, hBs, hb5⟩
    have HBS : Hid (w.heap.size ≤ bs) := Nat.le_trans HB4.out.size hBs
    clear hBs
    have HB5 := hide (HB4.out.trans (hb5.mono HB4.out.size))
    have HP5 := hide (HP4.out.below hb5)
    have BX5 := hide (BX4.out.below hb5 BX4.out.lt6)
    have RS5 := hide hrs
    clear cL4 hb5 hrs HB4 BX4 HP4
    obtain ⟨i0, hi, hz0, hz1, hz2⟩ := info2
    go_wp2_with (at_builtin; refine wpList_append_own _ rfl _ _ 24 rfl w5.heap.size 2 i0 (.int .i64 0) 1 8 Try.underlying24 hi hz0 hz1 hz2 rfl (by decide) _ _ _ rfl (World.ownsRow_made w5 #[] 0 (Nat.le_refl _) (Nat.zero_le _) rfl) ⟨bs, 0, none⟩ NN NN (ints (fl g NN)) rfl ?qc1 ?qc2 ?qc3 ?qc4 ?qc5 ?qc6 ?_)
    case qc1 => simp [ints, fl_len]
    case qc2 =>
      intro j u hj
      obtain ⟨hj', rfl⟩ := ints_fl g NN j u hj
      rw [Addr.add_lit]
      refine Lib.cell?_alloc_some _ ?_
      have := (RS5.out j hj').1
      simpa using this
    case qc3 => intro u hu; simp [ints] at hu; obtain ⟨x, _, rfl⟩ := hu; rfl
    case qc4 => unfold maxLen; omega
    case qc5 => omega
    case qc6 => simp
    intro v' w6 hown hgrow hnil
    have hown' : w6.ownsRow w5.heap.size 2 1 v' NN (ints (fl g NN)) := by simpa using hown
    have hb6 : Below w5.heap.size w5 w6 := ((Below.refl _ w5).alloc (Nat.le_refl _) _).grown hgrow (by simp) (by intro k hk; simp [Value.ownBlock] at hk; omega)
    obtain ⟨xa, ca, rfl, hca, hpa⟩ := own_px6 hown' (by omega)
    have HB6 := hide (HB5.out.trans (hb6.mono HB5.out.size))
    have HP6 := hide (HP5.out.below hb6)
    have BX6 := hide (BX5.out.below hb6 BX5.out.lt6)
    have RS6 := hide (RS5.out.below hb6 (RS5.out.lt6 (by omega)))
    have cF6 := cF xa ca hca w6 hpa
    clear hown hown' hgrow hnil hb6 hpa HB5 HP5 BX5 RS5 cF
    go_wp2_with fail
    refine cF6.mono ?_
    rintro e w7 ⟨a7, c7, b7, rfl, ho7, -, hb7⟩
    have hb8 := bnew w7 (.cells #[.int .i64 W, .int .i64 W, .slice a7 n c7] 26)
    have hb68 := hb7.trans (hb8.mono hb7.size)
    have HB8 := hide (HB6.out.trans (hb68.mono HB6.out.size))
    have HP8 := hide (HP6.out.below hb68)
    have BX8 := hide (BX6.out.below hb68 BX6.out.lt6)
    have RS8 := hide (RS6.out.below hb68 (RS6.out.lt6 (by omega)))
    have BY8 : Hid (Bx w7.heap.size [.int .i64 W, .int .i64 W, .slice a7 n c7] (w7.alloc (.cells #[.int .i64 W, .int .i64 W, .slice a7 n c7] 26))) := Bx.new [.int .i64 W, .int .i64 W, .slice a7 n c7] 26 w7
    have HQ8 := hide ((ho7.px.cg6 HXF.out).below hb8)
    clear cF6 hb7 hb8 hb68 ho7 HB6 HP6 BX6 RS6 HXF
    go_upto_region 8 with fail
    generalize hw8 : w7.alloc (.cells #[.int .i64 W, .int .i64 W, .slice a7 n c7] 26) = w8 at *
    clear hw8
    generalize w7.heap.size = Y at *
    obtain ⟨x0, -⟩ := BX8.out 0 _ rfl
    obtain ⟨x1, -⟩ := BX8.out 1 _ rfl
    obtain ⟨x2, -⟩ := BX8.out 2 _ rfl
    obtain ⟨y0, -⟩ := BY8.out 0 _ rfl
    obtain ⟨y1, -⟩ := BY8.out 1 _ rfl
    obtain ⟨y2, -⟩ := BY8.out 2 _ rfl
    have cE := sameImage_any W W a7 x n c7 c f (by omega) w8 HQ8.out HP8.out
    go_wp2_with fail
    refine cE.mono ?_
    rintro e w9 ⟨rfl, hb9⟩
    have HB9 := hide (HB8.out.trans (hb9.mono HB8.out.size))
    have HP9 := hide (HP8.out.below hb9)
    have BX9 := hide (BX8.out.below hb9 BX8.out.lt6)
    have RS9 := hide (RS8.out.below hb9 (RS8.out.lt6 (by omega)))
    clear cE hb9 x0 x1 x2 y0 y1 y2 HB8 HP8 BX8 RS8 BY8 HQ8
    obtain ⟨x0, -⟩ := BX9.out 0 _ rfl
    obtain ⟨x1, -⟩ := BX9.out 1 _ rfl
    obtain ⟨x2, -⟩ := BX9.out 2 _ rfl
    have cM9 := cM x c (some ⟨bs, 0, none⟩) NN w9 HP9.out RS9.out.px
    go_wp2_with fail
    refine cM9.mono ?_
    rintro e w10 ⟨rfl, hb10⟩
    have HB10 := hide (HB9.out.trans (hb10.mono HB9.out.size))
    have RS10 := hide (RS9.out.below hb10 (RS9.out.lt6 (by omega)))
    clear cM9 hb10 x0 x1 x2 HB9 HP9 BX9 RS9 cM
    obtain ⟨s0, s1⟩ := RS10.out 0 hN1
    have hN1' : (0 : Int) < (NN : Int) := by omega
    have RS11 := hide (RS10.out.upd hN1 v)
    have cG11 := cG (some ⟨bs, 0, none⟩) NN (Nat.le_refl _) _ RS11.out.px
    have HB11 := hide (HB10.out.setCell (p := ⟨bs, 0, none⟩) HBS.out (.int .i64 v))
    clear RS10 RS11 HB10 cG
    go_wp2_with fail
    refine cG11.mono ?_
    rintro e w12 ⟨a12, c12, b12, rfl, -, -, hb12⟩
    have HB12 := hide (HB11.out.trans (hb12.mono HB11.out.size))
    clear cG11 hb12 HB11 s0 s1
    go_wp2_with fail
    go_ret
    exact ⟨rfl, HB12.out⟩

end Go.Proofs.Ytcghjecnbingfaa

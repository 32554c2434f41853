/- The law on distances, walked. -/
import Derived.Test.YtipkfaajngabmaaDmd
import Derived.Test.YtipkfaajngabmaaDti
import Derived.BigRegion
namespace Go.Proofs.Ytipkfaajngabmaa
open Go.RowKit

theorem lst_step (P : Nat → Bool) (d : Nat → Int) (k : Nat) : lst P d (k + 1) = if P k = true then (if lst P d k < 0 ∨ d k < lst P d k then d k else lst P d k) else lst P d k := rfl

theorem mul_self_nn (x : Int) : 0 ≤ x * x := by
  rcases Int.le_total 0 x with h | h
  · exact Int.mul_nonneg h h
  · exact Int.mul_nonneg_of_nonpos_of_nonpos h h
set_option maxRecDepth 100000 in
set_option maxHeartbeats 4000000 in
theorem fnDistances_walk (a : Option Addr) (len cap : Nat) (w : World) (h : Bytes a len w) :
    Calls Try.prog 5 #[.slice a len cap] w fun e w' => e = .returned (.bool true) ∧ Below w.heap.size w w' := by
  have cB := big_any a len cap w
  have cD := drawDistance_any a len cap w h
  clear h
  by_cases hbig : 1048576 < len
  · rw [decide_eq_true hbig] at cB
    clear cD
    go_enter Try.func5, Try.ntmps5
    go_wp2_with fail
    refine cB.mono ?_
    rintro e w1 ⟨rfl, rfl⟩
    clear cB
    go_wp2_with fail
    go_ret
    exact ⟨rfl, Below.refl _ _⟩
  rw [decide_eq_false hbig] at cB
  clear hbig
  go_enter Try.func5, Try.ntmps5
  go_wp2_with fail
  refine cB.mono ?_
  rintro e w0 ⟨rfl, rfl⟩
  clear cB
  go_wp2_with fail
  refine cD.mono ?_
  rintro e w1 ⟨W, H, x, b, m, c, f, rfl, hm, ho, hb1, hbl⟩
  have HS1 := hide ((St.start w0).own hbl ho.v hb1)
  have HS2 := hide (HS1.out.box [.int .i64 W, .int .i64 H, .slice x m c] 26)
  clear cD ho hb1 hbl HS1
  go_upto_region 4 with fail
  generalize hw2 : w1.alloc (.cells #[.int .i64 W, .int .i64 H, .slice x m c] 26) = w2 at *
  have HS2' : Hid (St w0 [(w1.heap.size, [.int .i64 W, .int .i64 H, .slice x m c])] [(x, b, m, fun k => .int .i64 (f k))] w2) := HS2.out
  clear HS2 hw2
  generalize hX : w1.heap.size = X at *
  clear hX
  obtain ⟨i0, i1, i2⟩ := HS2'.out.im3 0 rfl
  have cR := specRunsOf_any W H x m c f (by omega) _ (HS2'.out.nthO 0 rfl).px
  cases hmb : maskB W H m f with
  | false =>
    have hr : rofN W H m f = 0 := by unfold rofN; rw [hmb]; rfl
    rw [hr] at cR
    go_wp2_with fail
    refine cR.mono ?_
    rintro e w3 ⟨a3, c3, b3, rfl, -, -, hb3⟩
    have HB := hide (HS2'.out.next hb3).below
    clear cR hb3 HS2' i0 i1 i2 hmb hr
    go_wp2_with fail
    go_ret
    exact ⟨rfl, HB.out⟩
  | true =>
    obtain ⟨-, hW, hH, hn, hn1, hn2, hbit⟩ := maskB_ok hmb
    have hr : 0 < rofN W H m f := by unfold rofN; rw [hmb]; have := (rcnt_bd f m).1; rw [if_pos rfl]; omega
    generalize rofN W H m f = R at *
    have hr2 : (((R : Nat) : Int) == 0) = false := by simp; omega
    go_wp2_with fail
    refine cR.mono ?_
    rintro e w3 ⟨a3, c3, b3, rfl, -, -, hb3⟩
    have HS3 := hide (HS2'.out.next hb3)
    clear cR hb3 HS2' i0 i1 i2
    obtain ⟨i0, i1, i2⟩ := HS3.out.im3 0 rfl
    have cC := copyImage_any W H x m c f (by omega) hn1 _ (HS3.out.nthO 0 rfl).px
    go_wp2_with fail
    refine cC.mono ?_
    rintro e w4 ⟨b4, c4, rfl, hr4, h4, hb4⟩
    have HS4 := hide (HS3.out.own hb4 (Ow.of_row hr4).v (.inr h4))
    clear cC hr4 h4 hb4 HS3 i0 i1 i2
    have cI := implDistance_any W H (some ⟨b4, 0, none⟩) m c4 f (by omega) _ (HS4.out.nthO 0 rfl).px
    rw [hmb] at cI
    simp only [pickI_t, pickN_t] at cI
    go_wp2_with fail
    refine cI.mono ?_
    rintro e w5 ⟨a5, c5, b5, rfl, ho5, h5, hb5⟩
    have HS5 := hide (HS4.out.own hb5 ho5.v h5)
    have HS6 := hide (HS5.out.box [.int .i64 W, .int .i64 H, .slice a5 m c5] 26)
    clear cI ho5 h5 hb5 HS4 HS5
    go_upto_region 7 with fail
    generalize hw6 : w5.alloc (.cells #[.int .i64 W, .int .i64 H, .slice a5 m c5] 26) = w6 at *
    have HS7 : Hid (St w0 [(w5.heap.size, [.int .i64 W, .int .i64 H, .slice a5 m c5]), (X, [.int .i64 W, .int .i64 H, .slice x m c])] [(a5, b5, m, fun k => .int .i64 (disS W m f k)), (some ⟨b4, 0, none⟩, b4, m, fun k => .int .i64 (f k)), (x, b, m, fun k => .int .i64 (f k))] w6) := HS6.out
    clear HS6 hw6
    generalize hY : w5.heap.size = Y at *
    clear hY
    obtain ⟨i0, i1, i2⟩ := HS7.out.im3 1 rfl
    obtain ⟨j0, j1, j2⟩ := HS7.out.im3 0 rfl
    have qW : (W != W) = false := by simp
    have qH : (H != H) = false := by simp
    have qm : (((m : Nat) : Int) != (m : Int)) = false := by simp
    obtain ⟨rfl, hrow⟩ : x = some ⟨b, 0, none⟩ ∧ RowV b m (fun k => .int .i64 (f k)) w6 := by
      rcases HS7.out.nthO 2 rfl with h | h
      · omega
      · exact h
    obtain ⟨rfl, hrow5⟩ : a5 = some ⟨b5, 0, none⟩ ∧ RowV b5 m (fun k => .int .i64 (disS W m f k)) w6 := by
      rcases HS7.out.nthO 0 rfl with h | h
      · omega
      · exact h
    have HROW := hide hrow
    have HROW5 := hide hrow5
    have HBL := hide HS7.out.below
    have HBIT := hide hbit
    have hHm : ∀ k : Nat, k < m → (k : Int) / W < H ∧ 0 ≤ (k : Int) / W ∧ 0 ≤ (k : Int) % W ∧ (k : Int) % W < W := fun k hk =>
      ⟨Int.ediv_lt_of_lt_mul (by omega) (by rw [Int.mul_comm, ← hn]; omega), Int.ediv_nonneg (by omega) (by omega), Int.emod_nonneg _ (by omega), Int.emod_lt_of_pos _ (by omega)⟩
    have HHM := hide hHm
    have hW0 : ¬ W = 0 := by omega
    clear hrow hrow5 HS7 hbit hHm hn hmb
    go_wp2_with fail
    clear qW qH qm j0 j1
    go_loopw [5, 6, 7, 8, 9] (fun i _ _ _ _ wr => ∃ k d : Nat, k ≤ m ∧ i = .int .i64 k ∧ wr = w6.drewN d) (fun i _ _ _ _ _ => m - (intOf i).toNat)
    case atStart => exact ⟨0, 0, by omega, rfl, rfl⟩
    case round =>
      obtain ⟨k, d, hk, rfl, rfl⟩ := hrel
      by_cases hlt : k < m
      · obtain ⟨g1, g2, g3, g4⟩ := HHM.out k hlt
        have HDS : Hid (disS W m f k = lst (fun q => decide (f q = 1)) (dd W k) m) := rfl
        have HD5 := hide ((HROW5.out k hlt).1)
        have e1 : (k : Int).tmod W = (k : Int) % W := Int.tmod_eq_emod_of_nonneg (by omega)
        have e2 : (k : Int).tdiv W = (k : Int) / W := Int.tdiv_eq_ediv_of_nonneg (by omega)
        generalize hkW : (k : Int) % W = kx at *
        generalize hkY : (k : Int) / W = ky at *
        have HKW := hide hkW
        have HKY := hide hkY
        clear hkW hkY
        go_wp2_with fail
        go_loopw [6, 7, 8, 9] (fun v i _ _ wr => ∃ q d2 : Nat, q ≤ m ∧ i = .int .i64 q ∧ v = .int .i64 (lst (fun q => decide (f q = 1)) (dd W k) q) ∧ wr = w6.drewN d2) (fun _ i _ _ _ => m - (intOf i).toNat)
        case atStart => exact ⟨0, d, by omega, rfl, rfl, rfl⟩
        case round =>
          obtain ⟨q, d2, hq, rfl, rfl, rfl⟩ := hrel
          by_cases hlq : q < m
          · have hz : w6.cell? ⟨b, q, none⟩ = some (.int .i64 (f q)) := (HROW.out q hlq).1
            have HST := hide (lst_step (fun q => decide (f q = 1)) (dd W k) q)
            rcases HBIT.out q hlq with hf | hf
            · have HE : Hid (lst (fun q => decide (f q = 1)) (dd W k) (q + 1) = lst (fun q => decide (f q = 1)) (dd W k) q) := by
                show _ = _
                rw [HST.out, hf]; rfl
              rw [hf] at hz
              clear HST hf
              generalize lst (fun q => decide (f q = 1)) (dd W k) q = V at *
              go_wp2_with fail
              go_roundw
              case rel => exact ⟨q + 1, d2, by omega, by go_num, by rw [HE.out], rfl⟩
              case measure => simp [intOf]; omega
            · rw [hf] at hz
              obtain ⟨h1, h2, h3, h4⟩ := HHM.out q hlq
              have f1 : (q : Int).tmod W = (q : Int) % W := Int.tmod_eq_emod_of_nonneg (by omega)
              have f2 : (q : Int).tdiv W = (q : Int) / W := Int.tdiv_eq_ediv_of_nonneg (by omega)
              have HDD : Hid (dd W k q = (kx - (q : Int) % W) * (kx - (q : Int) % W) + (ky - (q : Int) / W) * (ky - (q : Int) / W)) := by
                show _ = _
                unfold dd sq
                rw [HKW.out, HKY.out]
              have HE : Hid (lst (fun q => decide (f q = 1)) (dd W k) (q + 1) = if lst (fun q => decide (f q = 1)) (dd W k) q < 0 ∨ dd W k q < lst (fun q => decide (f q = 1)) (dd W k) q then dd W k q else lst (fun q => decide (f q = 1)) (dd W k) q) := by
                show _ = _
                rw [HST.out, hf]; rfl
              clear HST hf
              generalize lst (fun q => decide (f q = 1)) (dd W k) q = V at *
              generalize (q : Int) % W = qx at *
              generalize (q : Int) / W = qy at *
              have wx : IntKind.i64.wrap (kx - qx) = kx - qx := by rw [IntKind.wrap_i64]; omega
              have wy : IntKind.i64.wrap (ky - qy) = ky - qy := by rw [IntKind.wrap_i64]; omega
              have w1 : IntKind.i64.wrap kx = kx := by rw [IntKind.wrap_i64]; omega
              have w2 : IntKind.i64.wrap qx = qx := by rw [IntKind.wrap_i64]; omega
              have w3 : IntKind.i64.wrap ky = ky := by rw [IntKind.wrap_i64]; omega
              have w4 : IntKind.i64.wrap qy = qy := by rw [IntKind.wrap_i64]; omega
              obtain ⟨DX, hDX⟩ : ∃ DX, kx - qx = DX := ⟨_, rfl⟩
              obtain ⟨DY, hDY⟩ : ∃ DY, ky - qy = DY := ⟨_, rfl⟩
              have bx : -64 ≤ DX ∧ DX ≤ 64 := by omega
              have by' : -64 ≤ DY ∧ DY ≤ 64 := by omega
              rw [hDX, hDY] at HDD
              rw [hDX] at wx
              rw [hDY] at wy
              have sx : 0 ≤ DX * DX ∧ DX * DX ≤ 4096 := by
                constructor
                · exact mul_self_nn DX
                · have : DX.natAbs * DX.natAbs ≤ 64 * 64 := Nat.mul_le_mul (by omega) (by omega)
                  have e := Int.natAbs_mul_self (a := DX)
                  omega
              have sy : 0 ≤ DY * DY ∧ DY * DY ≤ 4096 := by
                constructor
                · exact mul_self_nn DY
                · have : DY.natAbs * DY.natAbs ≤ 64 * 64 := Nat.mul_le_mul (by omega) (by omega)
                  have e := Int.natAbs_mul_self (a := DY)
                  omega
              go_upto_region 17 with fail
              go_region
              go_upto_region 18 with fail
              go_region
              go_wp2_with fail
              all_goals
                refine ⟨⟨q + 1, d2 + 1 + 1, by omega, by go_num, ?_, rfl⟩, by simp [intOf]; omega⟩
                rw [HE.out, HDD.out]
                congr 1
                generalize DX * DX = A at *
                generalize DY * DY = B at *
                split <;> omega
          · obtain rfl : q = m := by omega
            have hd : w6.cell? ⟨b5, k, none⟩ = some (.int .i64 (lst (fun q => decide (f q = 1)) (dd W k) q)) := by rw [← HDS.out]; exact HD5.out
            have HST : Hid True := trivial
            generalize lst (fun q => decide (f q = 1)) (dd W k) q = V at *
            have qV : (V != V) = false := by simp
            go_wp2_with fail
            go_roundw
            case rel => exact ⟨k + 1, d2, by omega, by go_num, rfl⟩
            case measure => simp [intOf]; omega
      · obtain rfl : k = m := by omega
        clear HROW HROW5 HBIT HHM
        go_wp2_with fail
        go_ret
        exact ⟨rfl, below_drewN HBL.out _⟩

end Go.Proofs.Ytipkfaajngabmaa

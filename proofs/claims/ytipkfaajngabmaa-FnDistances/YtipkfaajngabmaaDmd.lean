/- The draw of a mask for distances. -/
import Derived.Test.YtipkfaajngabmaaDmr
namespace Go.Proofs.Ytipkfaajngabmaa
open Go.RowKit

theorem Ow.put {x : Option Addr} {b m : Nat} {f : Nat → Int} {w : World} (h : Ow x b m f w) (k : Nat) (z : Int) : Ow x b m (fun q => if q = k then z else f q) (w.setCell ⟨b, k, none⟩ (.int .i64 z)) := by
  rcases h with h | ⟨ha, h⟩
  · exact .inl h
  · exact .inr ⟨ha, h.put k z⟩

set_option maxRecDepth 100000 in
set_option maxHeartbeats 2000000 in
theorem drawDistance_any (a : Option Addr) (len cap : Nat) (w : World) (h : Bytes a len w) :
    Calls Try.prog 19 #[.slice a len cap] w (ImD 101 w) := by
  have hb := bnew w (.cells #[.int .i64 0, .int .i64 0, .slice none 0 0] 26)
  have HX := hide (Bx.new [.int .i64 0, .int .i64 0, .slice none 0 0] 26 w)
  have HB := hide hb
  have h1 := h.below hb
  have hz : (w.alloc (.cells #[.int .i64 0, .int .i64 0, .slice none 0 0] 26)).heap.size = w.heap.size + 1 := by simp
  have HBY := hide h1
  clear h hb h1
  have hn := new_any a len cap _ HBY.out
  go_enter Try.func19, Try.ntmps19
  go_upto_region 1 with fail
  generalize hw1 : w.alloc (.cells #[.int .i64 0, .int .i64 0, .slice none 0 0] 26) = w1 at *
  clear hw1
  go_wp2_with fail
  refine hn.mono ?_
  rintro e w2 ⟨x, rfl, rfl⟩
  have hc := cur_new a len cap w1 HBY.out x
  have hz2 : (w1.alloc (.cells #[.slice a len cap, .int .i64 0, .int .i64 x] 69)).heap.size = w1.heap.size + 1 := by simp
  have HAB := hide (bytes_lt HBY.out (B := w1.heap.size + 1) (by omega))
  have cM := drawAnyMask_any spoil_any w1.heap.size a len cap _ hc (by omega) (bytes_lt HBY.out (by omega))
  have HB2 := hide (bnew w1 (.cells #[.slice a len cap, .int .i64 0, .int .i64 x] 69))
  have HX2 := hide (HX.out.below HB2.out (by omega))
  clear hn hc HX HBY
  go_upto_region 2 with fail
  generalize hw2 : w1.alloc (.cells #[.slice a len cap, .int .i64 0, .int .i64 x] 69) = w2 at *
  clear hw2
  rw [hz] at *
  go_wp2_with fail
  refine cM.mono ?_
  rintro e w3 ⟨W, H, x3, b3, m, c, f, rfl, hm, ho, hb3, hc3, hk3⟩
  have hs3 := hk3.size
  have hbX := bnew w3 (.cells #[.int .i64 W, .int .i64 H, .slice x3 m c] 26)
  have HBX := hide (Bx.new [.int .i64 W, .int .i64 H, .slice x3 m c] 26 w3)
  have HC4 := hide (hc3.below hbX)
  have HK4 := hide (hk3.trans (Kept.of_below hbX))
  have HO4 := hide (ho.below' hbX)
  have hX4 : (w3.alloc (.cells #[.int .i64 W, .int .i64 H, .slice x3 m c] 26)).heap.size = w3.heap.size + 1 := by simp
  have HB3 : Hid (m = 0 ∨ (w.heap.size + 2 ≤ b3 ∧ b3 ≠ w.heap.size + 1 ∧ b3 ≠ w3.heap.size)) := by
    rcases hb3 with h | h
    · exact .inl h
    · by_cases h0 : m = 0
      · exact .inl h0
      · exact .inr ⟨by omega, h.2, fun e => by have := OwV.lt ho h0; omega⟩
  clear cM ho hb3 hc3 hk3 hbX
  go_upto_region 3 with fail
  generalize hw4 : w3.alloc (.cells #[.int .i64 W, .int .i64 H, .slice x3 m c] 26) = w4 at *
  clear hw4
  generalize hX : w3.heap.size = X at *
  clear hX
  have c6 := once_any (w.heap.size + 1) a len cap _ HC4.out 6 (by omega) (by omega)
  go_wp2_with fail
  refine c6.mono ?_
  rintro e w5 ⟨q, rfl, hc5, hk5⟩
  have HC5 := hide hc5
  have HK5 := hide (HK4.out.trans hk5)
  have HBX5 := hide (HBX.out.kept hk5 (by omega))
  have HO5 : Hid (Ow x3 b3 m f w5) := by
    show Ow _ _ _ _ _
    rcases HB3.out with h | h
    · exact .inl h
    · exact HO4.out.kept hk5 h.2.1
  have hs5 : X + 1 ≤ w5.heap.size := by have := hk5.size; omega
  clear c6 hc5 hk5 HC4 HK4 HBX HO4 hX4
  go_upto_if 11 with fail
  go_cut [] (fun wc => ∃ f', Cur (w.heap.size + 1) a len cap wc ∧ Kept (w.heap.size + 1) w2 wc ∧ Bx X [.int .i64 W, .int .i64 H, .slice x3 m c] wc ∧ Ow x3 b3 m f' wc ∧ X + 1 ≤ wc.heap.size)
  case first =>
    cases q
    · go_wp2_with fail
      go_meet
      exact ⟨f, HC5.out, HK5.out, HBX5.out, HO5.out, hs5⟩
    · go_wp2_with fail
      go_loopw [5] (fun i wr => ∃ (k : Nat) (f' : Nat → Int), k ≤ m ∧ i = .int .i64 k ∧ Cur (w.heap.size + 1) a len cap wr ∧ Kept (w.heap.size + 1) w2 wr ∧ Bx X [.int .i64 W, .int .i64 H, .slice x3 m c] wr ∧ Ow x3 b3 m f' wr ∧ X + 1 ≤ wr.heap.size) (fun i _ => m - (intOf i).toNat)
      case atStart => exact ⟨0, f, by omega, rfl, HC5.out, HK5.out, HBX5.out, HO5.out, hs5⟩
      case round =>
        obtain ⟨k, f', hk, rfl, hc, hkp, hbx, how, hsz⟩ := hrel
        have i2 := (hbx 2 _ rfl).1
        by_cases hlt : k < m
        · have c12 := once_any (w.heap.size + 1) a len cap _ hc 12 (by omega) (by omega)
          have hB3 : w.heap.size + 2 ≤ b3 ∧ b3 ≠ w.heap.size + 1 ∧ b3 ≠ X := by rcases HB3.out with h | h <;> omega
          have HKP := hide hkp
          have HBXr := hide hbx
          have HOr := hide how
          clear hc hkp hbx how HC5 HK5 HBX5 HO5
          go_wp2_with fail
          refine c12.mono ?_
          rintro e w6 ⟨q2, rfl, hc6, hk6⟩
          have HC6 := hide hc6
          have HK6 := hide (HKP.out.trans hk6)
          have HBX6 := hide (HBXr.out.kept hk6 (by omega))
          have HO6 : Hid (Ow x3 b3 m f' w6) := HOr.out.kept hk6 hB3.2.1
          have hs6 : X + 1 ≤ w6.heap.size := by have := hk6.size; omega
          clear c12 hc6 hk6 HKP HBXr HOr i2
          have i2 := (HBX6.out 2 _ rfl).1
          cases q2
          · rcases HO6.out with h0 | ⟨rfl, hr⟩
            · omega
            obtain ⟨r1, r2⟩ := hr k hlt
            have hbs : Below (w.heap.size + 2) w6 (w6.setCell ⟨b3, k, none⟩ (.int .i64 0)) := (Below.refl _ _).setCell hB3.1 _
            have HC7 : Hid (Cur (w.heap.size + 1) a len cap (w6.setCell ⟨b3, k, none⟩ (.int .i64 0))) := HC6.out.belowB hbs (by omega) (HAB.out.imp id fun h b off e => by have := h b off e; omega)
            have HK7 : Hid (Kept (w.heap.size + 1) w2 (w6.setCell ⟨b3, k, none⟩ (.int .i64 0))) := HK6.out.belowB hbs (by omega)
            have HBX7 := hide (HBX6.out.far (q := ⟨b3, k, none⟩) hB3.2.2 (.int .i64 0))
            have HO7 := hide (HO6.out.put k 0)
            have hs7 : Hid (X + 1 ≤ (w6.setCell ⟨b3, k, none⟩ (.int .i64 0)).heap.size) := by show _ ≤ _; simpa using hs6
            clear hr hbs
            go_wp2_with fail
            go_roundw
            case rel => exact ⟨k + 1, _, by omega, by go_num, HC7.out, HK7.out, HBX7.out, HO7.out, hs7.out⟩
            case measure => simp [intOf]; omega
          · go_wp2_with fail
            go_roundw
            case rel => exact ⟨k + 1, f', by omega, by go_num, HC6.out, HK6.out, HBX6.out, HO6.out, hs6⟩
            case measure => simp [intOf]; omega
        · obtain rfl : k = m := by omega
          go_wp2_with fail
          go_meet
          exact ⟨f', hc, hkp, hbx, how, hsz⟩
  case rest =>
    obtain ⟨f', hc', hk', hb', ho', hs'⟩ := hcut
    have hX3 := HX2.out.kept hk' (by omega)
    have hbl : Below w.heap.size w wc := (HB.out.trans (HB2.out.mono (by omega))).trans (hk'.below (by omega) (by omega))
    have hbs := below_set3' hbl (b := w.heap.size) (u := .int .i64 W) (v := .int .i64 H) (x := .slice x3 m c) (Nat.le_refl _)
    have HR : Hid (ImD 101 w (.returned (im W H x3 m c)) (((wc.setCell ⟨w.heap.size, 0, none⟩ (.int .i64 W)).setCell ⟨w.heap.size, 1, none⟩ (.int .i64 H)).setCell ⟨w.heap.size, 2, none⟩ (.slice x3 m c))) :=
      ⟨W, H, x3, b3, m, c, f', rfl, hm, ho'.set3 (HB3.out.imp id fun h => by omega) _ _ _, HB3.out.imp id fun h => by omega, hbs⟩
    obtain ⟨q0, e0⟩ := hX3 0 _ rfl
    obtain ⟨q1, e1⟩ := hX3 1 _ rfl
    obtain ⟨q2, e2⟩ := hX3 2 _ rfl
    obtain ⟨b0, p0⟩ := hb' 0 _ rfl
    obtain ⟨b1, p1⟩ := hb' 1 _ rfl
    obtain ⟨b2, p2⟩ := hb' 2 _ rfl
    clear ho' hc' hk' hb' hX3 HX2 HB HB2 hbl hbs HC5 HK5 HBX5 HO5
    go_wp2_with fail
    exact bodyPost_ret (v := im W H x3 m c) (by simp [results, Try.results19, go_sem, q0, q1, q2]) rfl HR.out

end Go.Proofs.Ytipkfaajngabmaa

/- The draw of a list of shapes with a size. -/
import Derived.Test.YtadeajdjjcelhaaDsl
namespace Go.Proofs.Ytadeajdjjcelhaa
open Go.RowKit

set_option maxRecDepth 20000 in
set_option maxHeartbeats 2000000 in
theorem drawPaint_any (a : Option Addr) (len cap : Nat) (w : World) (h : Bytes a len w) :
    Calls Try.prog 11 #[.slice a len cap] w fun e w' => ∃ (g c n : Nat) (L : List Int) (W H : Int), e = .returned (.tuple #[.slice (some ⟨g, 0, none⟩) n c, .int .i64 W, .int .i64 H]) ∧ n ≤ 66 ∧ w'.ownsRow (w.heap.size + 1) 33 7 (.slice (some ⟨g, 0, none⟩) n c) n (ints L) ∧ Below w.heap.size w w' ∧ w.heap.size + 1 < w'.heap.size := by
  have hn := new_any a len cap w h
  have hab : len = 0 ∨ ∀ b off, a = some ⟨b, off, none⟩ → b < w.heap.size + 1 := by
    by_cases h0 : len = 0
    · exact .inl h0
    · refine .inr fun b off e => ?_
      rcases h.2 with h1 | ⟨b', off', ha, hb⟩
      · exact absurd h1 h0
      · obtain ⟨z, _, _, hz⟩ := hb 0 (by omega)
        rw [e] at ha
        cases ha
        exact Nat.lt_succ_of_lt (World.block_lt_of_cell? w _ hz)
  have HC : ∀ x, Cur w.heap.size a len cap (w.alloc (.cells #[.slice a len cap, .int .i64 0, .int .i64 x] 85)) := fun x => cur_new a len cap w h x
  have HCC := hide HC
  clear h HC
  go_enter Try.func11, Try.ntmps11
  go_wp2_with fail
  refine hn.mono ?_
  rintro e w1 ⟨x, rfl, hw1⟩
  have hc1 := HCC.out x
  rw [← hw1] at hc1
  have hs1 : w1.heap.size = w.heap.size + 1 := by rw [hw1]; simp
  have HB1 : Hid (Below w.heap.size w w1) := by rw [hw1]; exact (Below.refl _ _).alloc (Nat.le_refl _) _
  rw [← hs1] at hab
  have hd := drawShapes_any w.heap.size a len cap 12 (by omega) (by omega) w1 hc1 (by omega) hab
  clear hn hw1 HCC hc1
  go_wp2_with fail
  refine hd.mono ?_
  rintro e w2 ⟨v, n, L, rfl, hn, hD⟩
  obtain ⟨g0, c0, hv⟩ := hD.nn
  subst hv
  have HD := hide hD
  clear hd hD
  have hd := below_any _ a len cap _ HD.out.cur 12 (by omega) (by omega)
  go_wp2_with fail
  refine hd.mono ?_
  rintro e w3 ⟨x3, rfl, l3, u3, hc, hk⟩
  have HD3 := hide (HD.out.step (by omega) hc hk)
  clear hd hc hk HD
  have hd := below_any _ a len cap _ HD3.out.cur 12 (by omega) (by omega)
  go_wp2_with fail
  refine hd.mono ?_
  rintro e w4 ⟨x4, rfl, l4, u4, hc, hk⟩
  have HD4 := hide (HD3.out.step (by omega) hc hk)
  clear hd hc hk HD3
  have hd := once_any _ a len cap _ HD4.out.cur 20 (by omega) (by omega)
  go_wp2_with fail
  refine hd.mono ?_
  rintro e w5 ⟨q, rfl, hc, hk⟩
  have HD5 := hide (HD4.out.step (by omega) hc hk)
  clear hd hc hk HD4
  have FIN : ∀ w', DL w.heap.size a len cap w1 (.slice (some ⟨g0, 0, none⟩) n c0) n L w' → w'.ownsRow (w.heap.size + 1) 33 7 (.slice (some ⟨g0, 0, none⟩) n c0) n (ints L) ∧ Below w.heap.size w w' ∧ w.heap.size + 1 < w'.heap.size := by
    intro w' hD
    have h1 := hD.own
    have h2 := hD.lt
    rw [hs1] at h1 h2
    exact ⟨h1, HB1.out.trans (hD.kept.below (Nat.le_refl _) (by omega)), h2⟩
  have HFIN := hide FIN
  clear FIN HB1
  cases q
  · go_wp2_with fail
    go_ret3
    exact ⟨g0, c0, n, L, _, _, rfl, hn, HFIN.out _ HD5.out⟩
  · have HL : Hid (DL w.heap.size a len cap w1 (.slice (some ⟨g0, 0, none⟩) n c0) n L (w5.alloc (.cells #[.int .i64 0, .int .i64 64, .int .i64 65, .int .i64 (-1)] 2))) := HD5.out.step (by omega) (HD5.out.cur.below ((Below.refl _ _).alloc (Nat.le_refl _) _)) (Kept.of_below ((Below.refl _ _).alloc (Nat.le_refl _) _))
    have hd := below_any _ a len cap _ HL.out.cur 4 (by omega) (by omega)
    have hlt5 : w.heap.size < w5.heap.size := by have := HD5.out.lt; omega
    go_wp2_with fail
    refine hd.mono ?_
    rintro e w6 ⟨y, rfl, y0, y1, hc, hk⟩
    obtain ⟨m, rfl⟩ : ∃ m : Nat, y = (m : Int) := ⟨y.toNat, by omega⟩
    have hm4 : m < 4 := by omega
    obtain ⟨z, hz⟩ : ∃ z : Int, (w5.alloc (.cells #[.int .i64 0, .int .i64 64, .int .i64 65, .int .i64 (-1)] 2)).cell? ⟨w5.heap.size, m, none⟩ = some (.int .i64 z) := by
      clear y0 y1
      match m, hm4 with
      | 0, _ => exact ⟨_, by simp [go_sem]; rfl⟩
      | 1, _ => exact ⟨_, by simp [go_sem]; rfl⟩
      | 2, _ => exact ⟨_, by simp [go_sem]; rfl⟩
      | 3, _ => exact ⟨_, by simp [go_sem]; rfl⟩
    have hz6 := hk.cell (a := ⟨w5.heap.size, m, none⟩) (by show w5.heap.size ≠ w.heap.size; omega) hz
    have HD6 := hide (HL.out.step (by omega) hc hk)
    clear hd hc hk HL HD5 hz
    go_wp2_with fail
    go_ret3
    exact ⟨g0, c0, n, L, _, _, rfl, hn, HFIN.out _ HD6.out⟩

end Go.Proofs.Ytadeajdjjcelhaa

/- The draw of a mask for labels. -/
import Derived.Test.YtfaponkmmiiehaaDmr
namespace Go.Proofs.Ytfaponkmmiiehaa
open Go.RowKit

set_option maxRecDepth 100000 in
set_option maxHeartbeats 2000000 in
theorem drawLabel_any (a : Option Addr) (len cap : Nat) (w : World) (h : Bytes a len w) :
    Calls Try.prog 6 #[.slice a len cap] w (ImD 101 w) := by
  have hb := bnew w (.cells #[.int .i64 0, .int .i64 0, .slice none 0 0] 26)
  have HX := hide (Bx.new [.int .i64 0, .int .i64 0, .slice none 0 0] 26 w)
  have HB := hide hb
  have h1 := h.below hb
  have hz : (w.alloc (.cells #[.int .i64 0, .int .i64 0, .slice none 0 0] 26)).heap.size = w.heap.size + 1 := by simp
  have HBY := hide h1
  clear h hb h1
  have hn := new_any a len cap _ HBY.out
  go_enter Try.func6, Try.ntmps6
  go_upto_region 1 with fail
  generalize hw1 : w.alloc (.cells #[.int .i64 0, .int .i64 0, .slice none 0 0] 26) = w1 at *
  clear hw1
  go_wp2_with fail
  refine hn.mono ?_
  rintro e w2 ⟨x, rfl, rfl⟩
  have hc := cur_new a len cap w1 HBY.out x
  have hz2 : (w1.alloc (.cells #[.slice a len cap, .int .i64 0, .int .i64 x] 55)).heap.size = w1.heap.size + 1 := by simp
  have HAB := hide (bytes_lt HBY.out (B := w1.heap.size + 1) (by omega))
  have cM := drawAnyMask_any spoil_any w1.heap.size a len cap _ hc (by omega) (bytes_lt HBY.out (by omega))
  have HB2 := hide (bnew w1 (.cells #[.slice a len cap, .int .i64 0, .int .i64 x] 55))
  have HX2 := hide (HX.out.below HB2.out (by omega))
  clear hn hc HX HBY
  go_upto_region 2 with fail
  generalize hw2 : w1.alloc (.cells #[.slice a len cap, .int .i64 0, .int .i64 x] 55) = w2 at *
  clear hw2
  rw [hz] at *
  go_wp2_with fail
  refine cM.mono ?_
  rintro e w3 ⟨W, H, x3, b3, m, c, f, rfl, hm, ho, hb3, hc3, hk3⟩
  have hX3 := HX2.out.kept hk3 (by omega)
  have hbl : Below w.heap.size w w3 := (HB.out.trans (HB2.out.mono (by omega))).trans (hk3.below (by omega) (by omega))
  have hbs := below_set3' hbl (b := w.heap.size) (u := .int .i64 W) (v := .int .i64 H) (x := .slice x3 m c) (Nat.le_refl _)
  have HR : Hid (ImD 101 w (.returned (im W H x3 m c)) (((w3.setCell ⟨w.heap.size, 0, none⟩ (.int .i64 W)).setCell ⟨w.heap.size, 1, none⟩ (.int .i64 H)).setCell ⟨w.heap.size, 2, none⟩ (.slice x3 m c))) :=
    ⟨W, H, x3, b3, m, c, f, rfl, hm, ho.set3 (hb3.imp id fun h => by omega) _ _ _, hb3.imp id fun h => by omega, hbs⟩
  obtain ⟨q0, e0⟩ := hX3 0 _ rfl
  obtain ⟨q1, e1⟩ := hX3 1 _ rfl
  obtain ⟨q2, e2⟩ := hX3 2 _ rfl
  clear ho hc3 hk3 hX3 HX2 HB HB2 hbl hbs cM
  go_wp2_with fail
  exact bodyPost_ret (v := im W H x3 m c) (by simp [results, Try.results6, go_sem, q0, q1, q2]) rfl HR.out

end Go.Proofs.Ytfaponkmmiiehaa

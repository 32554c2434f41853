/- Draws of a cube and a turn. -/
import Derived.Test.YtggiegfkmkaaeaaDoorDvo
namespace Go.Proofs.YtggiegfkmkaaeaaDoor
open Go.RowKit

set_option maxRecDepth 100000 in
set_option maxHeartbeats 4000000 in
theorem l10DrawAnyCube_any (p : Nat) (a : Option Addr) (len cap : Nat) (w : World) (h : Cur p a len cap w) (hp : p < w.heap.size) (hab : len = 0 ∨ ∀ b off, a = some ⟨b, off, none⟩ → b < w.heap.size) :
    Calls Tryd.prog 26 #[.pointer (some ⟨p, 0, none⟩)] w (DrV p a len cap w) := by
  have hb0 := bnew w (.cells #[.int .i64 0, .int .i64 0, .int .i64 0, .slice none 0 0] 35)
  have HR0 : Hid (Bx w.heap.size [.int .i64 0, .int .i64 0, .int .i64 0, .slice none 0 0] (w.alloc (.cells #[.int .i64 0, .int .i64 0, .int .i64 0, .slice none 0 0] 35))) := Bx.new [.int .i64 0, .int .i64 0, .int .i64 0, .slice none 0 0] 35 w
  have HCK0 : Hid (CK p a len cap w (w.alloc (.cells #[.int .i64 0, .int .i64 0, .int .i64 0, .slice none 0 0] 35))) := ⟨h.below hb0, Kept.of_below hb0⟩
  have HZ0 : Hid (w.heap.size < (w.alloc (.cells #[.int .i64 0, .int .i64 0, .int .i64 0, .slice none 0 0] 35)).heap.size) := by show _ < _; simp
  have HAB := hide hab
  have hne : w.heap.size ≠ p := by omega
  clear h hab hb0
  go_enter Tryd.func26, Tryd.ntmps26
  go_upto_region 1 with fail
  generalize hw1 : w.alloc (.cells #[.int .i64 0, .int .i64 0, .int .i64 0, .slice none 0 0] 35) = w1 at *
  clear hw1
  have c1 := below_any p a len cap _ HCK0.out.1 4 (by omega) (by omega)
  go_wp2_with fail
  refine c1.mono ?_
  rintro e w2 ⟨x, rfl, x0, x1, hc, hk⟩
  obtain ⟨X, hX⟩ : ∃ X : Nat, (X : Int) = 1 + x := ⟨(1 + x).toNat, by omega⟩
  have u1 : IntKind.i64.wrap (1 + x) = (X : Int) := by rw [IntKind.wrap_i64]; omega
  have hX3 : X ≤ 10 := by omega
  have HR2 := hide (HR0.out.kept hk hne)
  have HCK2 : Hid (CK p a len cap w w2) := ⟨hc, HCK0.out.2.trans hk⟩
  have HZ2 := hide (Nat.lt_of_lt_of_le HZ0.out hk.size)
  clear c1 hc hk HR0 HCK0 HZ0 hX x0 x1
  have c1 := l10DrawCube_any p a len cap X hX3 w2 HCK2.out.1 (Nat.lt_trans hp HZ2.out) (HAB.out.imp id fun h b off e => Nat.lt_trans (h b off e) HZ2.out)
  go_wp2_with fail
  refine c1.mono ?_
  rintro e w3 ⟨V0, V1, V2, L, af, cf, rfl, hL, ho, hc, hk⟩
  have HR3 := hide (HR2.out.kept hk hne)
  have HCK3 : Hid (CK p a len cap w w3) := ⟨hc, HCK2.out.2.trans hk⟩
  have HZ3 := hide (Nat.lt_of_lt_of_le HZ2.out hk.size)
  have HO3 : Hid (w3.ownsRow (w.heap.size + 1) 2 1 (.slice af L.length cf) L.length (ints L)) := own_mono ho (by have := HZ2.out; omega)
  have HL3 := hide hL
  clear c1 hc hk ho hL HR2 HCK2 HZ2 u1 hX3
  go_upto_region 2 with fail
  have hb4 := bnew w3 (.cells #[.int .i64 V0, .int .i64 V1, .int .i64 V2, .slice af L.length cf] 35)
  have HQ4 : Hid (Bx w3.heap.size [.int .i64 V0, .int .i64 V1, .int .i64 V2, .slice af L.length cf] (w3.alloc (.cells #[.int .i64 V0, .int .i64 V1, .int .i64 V2, .slice af L.length cf] 35))) := Bx.new [.int .i64 V0, .int .i64 V1, .int .i64 V2, .slice af L.length cf] 35 w3
  have HR4 := hide (HR3.out.below hb4 HZ3.out)
  have HCK4 : Hid (CK p a len cap w (w3.alloc (.cells #[.int .i64 V0, .int .i64 V1, .int .i64 V2, .slice af L.length cf] 35))) := ⟨HCK3.out.1.below hb4, HCK3.out.2.trans (Kept.of_below hb4)⟩
  have HO4 : Hid ((w3.alloc (.cells #[.int .i64 V0, .int .i64 V1, .int .i64 V2, .slice af L.length cf] 35)).ownsRow (w.heap.size + 1) 2 1 (.slice af L.length cf) L.length (ints L)) := HO3.out.alloc _
  have HZ4 : Hid (w.heap.size < w3.heap.size ∧ w3.heap.size < (w3.alloc (.cells #[.int .i64 V0, .int .i64 V1, .int .i64 V2, .slice af L.length cf] 35)).heap.size) := ⟨HZ3.out, by simp⟩
  clear hb4 HR3 HCK3 HO3 HZ3
  generalize hw4 : w3.alloc (.cells #[.int .i64 V0, .int .i64 V1, .int .i64 V2, .slice af L.length cf] 35) = w4 at *
  clear hw4
  generalize w3.heap.size = q at *
  have c1 := once_any p a len cap _ HCK4.out.1 16 (by omega) (by omega)
  go_wp2_with fail
  refine c1.mono ?_
  rintro e w5 ⟨b, rfl, hc, hk⟩
  have hqp : q ≠ p := by have := HZ4.out; omega
  have HR5 := hide (HR4.out.kept hk hne)
  have HQ5 := hide (HQ4.out.kept hk hqp)
  have HCK5 : Hid (CK p a len cap w w5) := ⟨hc, HCK4.out.2.trans hk⟩
  have HO5 : Hid (w5.ownsRow (w.heap.size + 1) 2 1 (.slice af L.length cf) L.length (ints L)) := owns_keepV HO4.out (fun b hb hl => hk.block b hl (by omega))
  have HZ5 : Hid (w.heap.size < q ∧ q < w5.heap.size) := ⟨HZ4.out.1, Nat.lt_of_lt_of_le HZ4.out.2 hk.size⟩
  clear c1 hc hk HR4 HQ4 HCK4 HO4 HZ4
  have hqR : q ≠ w.heap.size := by have := HZ5.out; omega
  have hRq : w.heap.size ≠ q := hqR.symm
  cases b
  · obtain ⟨z0, f0⟩ := HQ5.out 0 _ rfl
    obtain ⟨z1, f1⟩ := HQ5.out 1 _ rfl
    obtain ⟨z2, f2⟩ := HQ5.out 2 _ rfl
    obtain ⟨z3, f3⟩ := HQ5.out 3 _ rfl
    obtain ⟨g0, d0⟩ := HR5.out 0 _ rfl
    obtain ⟨g1, d1⟩ := HR5.out 1 _ rfl
    obtain ⟨g2, d2⟩ := HR5.out 2 _ rfl
    obtain ⟨g3, d3⟩ := HR5.out 3 _ rfl
    go_wp2_with fail
    exact bodyPost_ret (v := vVolume V0 V1 V2 af L.length cf) (by simp [results, Tryd.results26, go_sem, g0, g1, g2, g3]) rfl
      ⟨V0, V1, V2, L, af, cf, rfl, HL3.out, own_mono (owns_farC (owns_farC (owns_farC (owns_farC HO5.out (by omega) _) (by omega) _) (by omega) _) (by omega) _) (by omega), HCK5.out.set4 hp HAB.out (Nat.le_refl _) _ _ _ _⟩
  · have c1 := l7DrawVolume_any p a len cap w5 HCK5.out.1 (Nat.lt_trans hp (Nat.lt_trans HZ5.out.1 HZ5.out.2)) (HAB.out.imp id fun h b off e => Nat.lt_trans (h b off e) (Nat.lt_trans HZ5.out.1 HZ5.out.2))
    go_wp2_with fail
    refine c1.mono ?_
    rintro e w6 ⟨U0, U1, U2, M, ag, cg, rfl, hM, ho, hc, hk⟩
    have HR6 := hide (HR5.out.kept hk hne)
    have HQ6 := hide (HQ5.out.kept hk hqp)
    have HCK6 : Hid (CK p a len cap w w6) := ⟨hc, HCK5.out.2.trans hk⟩
    have HO6 : Hid (w6.ownsRow (q + 1) 2 1 (.slice ag M.length cg) M.length (ints M)) := own_mono ho (by have := HZ5.out; omega)
    have HM := hide hM
    clear c1 hc hk ho hM HR5 HQ5 HCK5 HO5
    obtain ⟨z0, f0⟩ := HQ6.out 0 _ rfl
    obtain ⟨z1, f1⟩ := HQ6.out 1 _ rfl
    obtain ⟨z2, f2⟩ := HQ6.out 2 _ rfl
    obtain ⟨z3, f3⟩ := HQ6.out 3 _ rfl
    obtain ⟨g0, d0⟩ := HR6.out 0 _ rfl
    obtain ⟨g1, d1⟩ := HR6.out 1 _ rfl
    obtain ⟨g2, d2⟩ := HR6.out 2 _ rfl
    obtain ⟨g3, d3⟩ := HR6.out 3 _ rfl
    have HRl : Hid (w.heap.size < q) := HZ5.out.1
    go_wp2_with fail
    refine bodyPost_ret (v := vVolume U0 U1 U2 ag M.length cg) (by simp [results, Tryd.results26, go_sem, g0, g1, g2, g3]) rfl ?_
    have hRl := HRl.out
    have ho := owns_farC (owns_farC (owns_farC (owns_farC HO6.out (c := q) (k := 0) (by omega) (.int .i64 U0)) (c := q) (k := 1) (by omega) (.int .i64 U1)) (c := q) (k := 2) (by omega) (.int .i64 U2)) (c := q) (k := 3) (by omega) (.slice ag M.length cg)
    exact ⟨U0, U1, U2, M, ag, cg, rfl, HM.out, own_mono (owns_farC (owns_farC (owns_farC (owns_farC ho (by omega) _) (by omega) _) (by omega) _) (by omega) _) (by omega), (HCK6.out.set4 hp HAB.out (Nat.le_of_lt hRl) _ _ _ _).set4 hp HAB.out (Nat.le_refl _) _ _ _ _⟩

end Go.Proofs.YtggiegfkmkaaeaaDoor

/- The draw of a cube and a turn. -/
import Derived.Test.YtggiegfkmkaaeaaDoorDvo
namespace Go.Proofs.YtggiegfkmkaaeaaDoor
open Go.RowKit

set_option maxRecDepth 100000 in
set_option maxHeartbeats 4000000 in
theorem l10DrawAnyCube_any (p : Nat) (a : Option Addr) (len cap : Nat) (w : World) (h : Cur p a len cap w) (hp : p < w.heap.size) (hab : len = 0 ∨ ∀ b off, a = some ⟨b, off, none⟩ → b < w.heap.size) :
    Calls Tryd.prog 26 #[.pointer (some ⟨p, 0, none⟩)] w (DrV p a len cap w) := by
  have hb0 := bnew w (.cells #[.int .i64 0, .int .i64 0, .int .i64 0, .slice none 0 0] 35)
  have HR0 : Hid (Bx w.heap.size [.int .i64 0, .int .i64 0, .int .i64 0, .slice none 0 0] (w.alloc (.cells #[.int .i64 0, .int .i64 0, .int .i64 0, .slice none 0 0] 35))) := Bx.new [.int .i64 0, .int .i64 0, .int .i64 0, .slice none 0 0] 35 w
  have HCK0 : Hid (CK p a len cap w (w.alloc (.cells #[.int .i64 0, .int .i64 0, .int .i64 0, .slice none 0 0] 35))) := ⟨h.below hb0, Kept.of_below hb0⟩
  have HZ0 : Hid (w.heap.size < (w.alloc (.cells #[.int .i64 0, .int .i64 0, .int .i64 0, .slice none 0 0] 35)).heap.size) := by show _ < _; simp
  have HAB := hide hab
  have hne : w.heap.size ≠ p := by omega
  clear h hab hb0
  go_enter Tryd.func26, Tryd.ntmps26
  go_upto_region 1 with fail
  generalize hw1 : w.alloc (.cells #[.int .i64 0, .int .i64 0, .int .i64 0, .slice none 0 0] 35) = w1 at *
  clear hw1
  have c1 := below_any p a len cap _ HCK0.out.1 4 (by omega) (by omega)
  go_wp2_with fail
  refine c1.mono ?_
  rintro e w2 ⟨x, rfl, x0, x1, hc, hk⟩
  obtain ⟨X, hX⟩ : ∃ X : Nat, (X : Int) = 1 + x := ⟨(1 + x).toNat, by omega⟩
  have u1 : IntKind.i64.wrap (1 + x) = (X : Int) := by rw [IntKind.wrap_i64]; omega
  have hX3 : X ≤ 10 := by omega
  have HR2 := hide (HR0.out.kept hk hne)
  have HCK2 : Hid (CK p a len cap w w2) := ⟨hc, HCK0.out.2.trans hk⟩
  have HZ2 := hide (Nat.lt_of_lt_of_le HZ0.out hk.size)
  clear c1 hc hk HR0 HCK0 HZ0 hX x0 x1
  have c1 := l10DrawCube_any p a len cap X hX3 w2 HCK2.out.1 (Nat.lt_trans hp HZ2.out) (HAB.out.imp id fun h b off e => Nat.lt_trans (h b off e) HZ2.out)
  go_wp2_with fail
  refine c1.mono ?_
  rintro e w3 ⟨V0, V1, V2, L, af, cf, rfl, hL, ho, hc, hk⟩
  have HR3 := hide (HR2.out.kept hk hne)
  have HCK3 : Hid (CK p a len cap w w3) := ⟨hc, HCK2.out.2.trans hk⟩
  have HZ3 := hide (Nat.lt_of_lt_of_le HZ2.out hk.size)
  have HO3 : Hid (w3.ownsRow (w.heap.size + 1) 2 1 (.slice af L.length cf) L.length (ints L)) := own_mono ho (by have := HZ2.out; omega)
  have HL3 := hide hL
  clear c1 hc hk ho hL HR2 HCK2 HZ2 u1 hX3
  go_upto_region 2 with fail
  have hb4 := bnew w3 (.cells #[.int .i64 V0, .int .i64 V1, .int .i64 V2, .slice af L.length cf] 35)
  have HQ4 : Hid (Bx w3.heap.size [.int .i64 V0, .int .i64 V1, .int .i64 V2, .slice af L.length cf] (w3.alloc (.cells #[.int .i64 V0, .int .i64 V1, .int .i64 V2, .slice af L.length cf] 35))) := Bx.new [.int .i64 V0, .int .i64 V1, .int .i64 V2, .slice af L.length cf] 35 w3
  have HR4 := hide (HR3.out.below hb4 HZ3.out)
  have HCK4 : Hid (CK p a len cap w (w3.alloc (.cells #[.int .i64 V0, .int .i64 V1, .int .i64 V2, .slice af L.length cf] 35))) := ⟨HCK3.out.1.below hb4, HCK3.out.2.trans (Kept.of_below hb4)⟩
  have HO4 : Hid ((w3.alloc (.cells #[.int .i64 V0, .int .i64 V1, .int .i64 V2, .slice af L.length cf] 35)).ownsRow (w.heap.size + 1) 2 1 (.slice af L.length cf) L.length (ints L)) := HO3.out.alloc _
  have HZ4 : Hid (w.heap.size < w3.heap.size ∧ w3.heap.size < (w3.alloc (.cells #[.int .i64 V0, .int .i64 V1, .int .i64 V2, .slice af L.length cf] 35)).heap.size) := ⟨HZ3.out, by simp⟩
  clear hb4 HR3 HCK3 HO3 HZ3
  generalize hw4 : w3.alloc (.cells #[.int .i64 V0, .int .i64 V1, .int .i64 V2, .slice af L.length cf] 35) = w4 at *
  clear hw4
  generalize w3.heap.size = q at *
  have c1 := once_any p a len cap _ HCK4.out.1 16 (by omega) (by omega)
  go_wp2_with fail
  refine c1.mono ?_
  rintro e w5 ⟨b, rfl, hc, hk⟩
  have hqp : q ≠ p := by have := HZ4.out; omega
  have HR5 := hide (HR4.out.kept hk hne)
  have HQ5 := hide (HQ4.out.kept hk hqp)
  have HCK5 : Hid (CK p a len cap w w5) := ⟨hc, HCK4.out.2.trans hk⟩
  have HO5 : Hid (w5.ownsRow (w.heap.size + 1) 2 1 (.slice af L.length cf) L.length (ints L)) := owns_keepV HO4.out (fun b hb hl => hk.block b hl (by omega))
  have HZ5 : Hid (w.heap.size < q ∧ q < w5.heap.size) := ⟨HZ4.out.1, Nat.lt_of_lt_of_le HZ4.out.2 hk.size⟩
  clear c1 hc hk HR4 HQ4 HCK4 HO4 HZ4
  have hqR : q ≠ w.heap.size := by have := HZ5.out; omega
  have hRq : w.heap.size ≠ q := hqR.symm
  cases b
  · obtain ⟨z0, f0⟩ := HQ5.out 0 _ rfl
    obtain ⟨z1, f1⟩ := HQ5.out 1 _ rfl
    obtain ⟨z2, f2⟩ := HQ5.out 2 _ rfl
    obtain ⟨z3, f3⟩ := HQ5.out 3 _ rfl
    obtain ⟨g0, d0⟩ := HR5.out 0 _ rfl
    obtain ⟨g1, d1⟩ := HR5.out 1 _ rfl
    obtain ⟨g2, d2⟩ := HR5.out 2 _ rfl
    obtain ⟨g3, d3⟩ := HR5.out 3 _ rfl
    go_wp2_with fail
    exact bodyPost_ret (v := vVolume V0 V1 V2 af L.length cf) (by simp [results, Tryd.results26, go_sem, g0, g1, g2, g3]) rfl
      ⟨V0, V1, V2, L, af, cf, rfl, HL3.out, own_mono (owns_farC (owns_farC (owns_farC (owns_farC HO5.out (by omega) _) (by omega) _) (by omega) _) (by omega) _) (by omega), HCK5.out.set4 hp HAB.out (Nat.le_refl _) _ _ _ _⟩
  · have c1 := l7DrawVolume_any p a len cap w5 HCK5.out.1 (Nat.lt_trans hp (Nat.lt_trans HZ5.out.1 HZ5.out.2)) (HAB.out.imp id fun h b off e => Nat.lt_trans (h b off e) (Nat.lt_trans HZ5.out.1 HZ5.out.2))
    go_wp2_with fail
    refine c1.mono ?_
    rintro e w6 ⟨U0, U1, U2, M, ag, cg, rfl, hM, ho, hc, hk⟩
    have HR6 := hide (HR5.out.kept hk hne)
    have HQ6 := hide (HQ5.out.kept hk hqp)
    have HCK6 : Hid (CK p a len cap w w6) := ⟨hc, HCK5.out.2.trans hk⟩
    have HO6 : Hid (w6.ownsRow (q + 1) 2 1 (.slice ag M.length cg) M.length (ints M)) := own_mono ho (by have := HZ5.out; omega)
    have HM := hide hM
    clear c1 hc hk ho hM HR5 HQ5 HCK5 HO5
    obtain ⟨z0, f0⟩ := HQ6.out 0 _ rfl
    obtain ⟨z1, f1⟩ := HQ6.out 1 _ rfl
    obtain ⟨z2, f2⟩ := HQ6.out 2 _ rfl
    obtain ⟨z3, f3⟩ := HQ6.out 3 _ rfl
    obtain ⟨g0, d0⟩ := HR6.out 0 _ rfl
    obtain ⟨g1, d1⟩ := HR6.out 1 _ rfl
    obtain ⟨g2, d2⟩ := HR6.out 2 _ rfl
    obtain ⟨g3, d3⟩ := HR6.out 3 _ rfl
    have HRl : Hid (w.heap.size < q) := HZ5.out.1
    go_wp2_with fail
    refine bodyPost_ret (v := vVolume U0 U1 U2 ag M.length cg) (by simp [results, Tryd.results26, go_sem, g0, g1, g2, g3]) rfl ?_
    have hRl := HRl.out
    have ho := owns_farC (owns_farC (owns_farC (owns_farC HO6.out (c := q) (k := 0) (by omega) (.int .i64 U0)) (c := q) (k := 1) (by omega) (.int .i64 U1)) (c := q) (k := 2) (by omega) (.int .i64 U2)) (c := q) (k := 3) (by omega) (.slice ag M.length cg)
    exact ⟨U0, U1, U2, M, ag, cg, rfl, HM.out, own_mono (owns_farC (owns_farC (owns_farC (owns_farC ho (by omega) _) (by omega) _) (by omega) _) (by omega) _) (by omega), (HCK6.out.set4 hp HAB.out (Nat.le_of_lt hRl) _ _ _ _).set4 hp HAB.out (Nat.le_refl _) _ _ _ _⟩

end Go.Proofs.YtggiegfkmkaaeaaDoor

namespace Go.Proofs.YtggiegfkmkaaeaaDoor
open Go.RowKit

/-- a volume and a turn are drawn -/
def DrW (w : World) (e : Ending) (w' : World) : Prop :=
  ∃ (V0 V1 V2 : Int) (L : List Int) (af : Option Addr) (cf : Nat) (y0 y1 y2 y3 : Int), e = .returned (.tuple #[vVolume V0 V1 V2 af L.length cf, tv y0 y1 y2 y3]) ∧ L.length ≤ 1000 ∧ w'.ownsRow w.heap.size 2 1 (.slice af L.length cf) L.length (ints L) ∧ I4 y0 y1 y2 y3 ∧ Below w.heap.size w w'

set_option maxRecDepth 100000 in
set_option maxHeartbeats 2000000 in
theorem drawTurnVolume_any (a : Option Addr) (len cap : Nat) (w : World) (h : Bytes a len w) :
    Calls Tryd.prog 12 #[.slice a len cap] w (DrW w) := by
  have HAB := hide (bytes_lt h (B := w.heap.size) (Nat.le_refl _))
  obtain ⟨w1, hw1⟩ : ∃ w1, w1 = (w.alloc (.cells #[.int .i64 0, .int .i64 0, .int .i64 0, .slice none 0 0] 35)).alloc (cTurn 0 0 0 0 30) := ⟨_, rfl⟩
  have hb1 : Below w.heap.size w w1 := by rw [hw1]; exact (bnew _ _).alloc (by simp) _
  have hs1 : w1.heap.size = w.heap.size + 2 := by rw [hw1]; simp
  have r1 : Bx w.heap.size [.int .i64 0, .int .i64 0, .int .i64 0, .slice none 0 0] w1 := by
    rw [hw1]; exact (Bx.new [.int .i64 0, .int .i64 0, .int .i64 0, .slice none 0 0] 35 w).below (bnew _ _) (by simp)
  have r2 : Bx (w.heap.size + 1) [.int .i64 0, .int .i64 0, .int .i64 0, .int .i64 0] w1 := by
    rw [hw1]
    have := Bx.new [.int .i64 0, .int .i64 0, .int .i64 0, .int .i64 0] 30 (w.alloc (.cells #[.int .i64 0, .int .i64 0, .int .i64 0, .slice none 0 0] 35))
    rwa [show (w.alloc (.cells #[.int .i64 0, .int .i64 0, .int .i64 0, .slice none 0 0] 35)).heap.size = w.heap.size + 1 by simp] at this
  have hy1 := h.below hb1
  have hn := new_any a len cap w1 hy1
  have HBY := hide hy1
  have HB1 := hide hb1
  have HR1 := hide r1
  have HR2 := hide r2
  have HS1 := hide hs1
  clear h hb1 r1 r2 hs1 hy1
  go_enter Tryd.func12, Tryd.ntmps12
  go_upto_region 1 with fail
  rw [← hw1]
  clear hw1
  go_wp2_with fail
  refine hn.mono ?_
  rintro e w2 ⟨x, rfl, rfl⟩
  have hc := cur_new a len cap w1 HBY.out x
  have hb2 := bnew w1 (.cells #[.slice a len cap, .int .i64 0, .int .i64 x] 71)
  have hs2 : (w1.alloc (.cells #[.slice a len cap, .int .i64 0, .int .i64 x] 71)).heap.size = w.heap.size + 3 := by have := HS1.out; simp; omega
  have hs1 := HS1.out
  have HB2 := hide (HB1.out.trans (hb2.mono (by omega)))
  have HR1' := hide (HR1.out.below hb2 (by omega))
  have HR2' := hide (HR2.out.below hb2 (by omega))
  have HC2 := hide hc
  have HS2 := hide hs2
  rw [hs1] at HC2
  rw [hs1]
  clear hn hc hb2 hs2 hs1 HBY HB1 HR1 HR2 HS1
  generalize hw2 : w1.alloc (.cells #[.slice a len cap, .int .i64 0, .int .i64 x] 71) = w2 at *
  clear hw2
  obtain ⟨p, hp⟩ : ∃ p, p = w.heap.size + 2 := ⟨_, rfl⟩
  rw [← hp] at HC2
  rw [← hp]
  have hpp : p < w2.heap.size := by have := HS2.out; omega
  have cD := fun w' h h1 h2 => l10DrawAny_any p a len cap w' h h1 h2
  have HP := hide hp
  have c1 := l10DrawAnyCube_any p a len cap w2 HC2.out hpp (HAB.out.imp id fun h b off e => by have := h b off e; have := HS2.out; omega)
  clear hp
  go_wp2_with fail
  refine c1.mono ?_
  rintro e w3 ⟨V0, V1, V2, L, af, cf, rfl, hL, ho, hc, hk⟩
  have hb3 := bnew w3 (.cells #[.int .i64 V0, .int .i64 V1, .int .i64 V2, .slice af L.length cf] 35)
  have hz := hk.size
  have hs2 := HS2.out
  have hp := HP.out
  have HBp : Hid (dpB w p a len w.heap.size (w.heap.size + 1) w3.heap.size) := ⟨rfl, rfl, hp, by omega, HAB.out⟩
  have HD : Hid (dpR w p a len cap w.heap.size (w.heap.size + 1) w3.heap.size (.int .i64 V0) (.int .i64 V1) (.int .i64 V2) (.slice af L.length cf) (w3.alloc (.cells #[.int .i64 V0, .int .i64 V1, .int .i64 V2, .slice af L.length cf] 35))) :=
    ⟨hc.below hb3, (HB2.out.trans (hk.below (by omega) (by omega))).trans (hb3.mono (by omega)), Bx.new [.int .i64 V0, .int .i64 V1, .int .i64 V2, .slice af L.length cf] 35 w3,
      ⟨_, _, _, _, (HR1'.out.kept hk (by omega)).below hb3 (by omega)⟩, ⟨_, _, _, _, (HR2'.out.kept hk (by omega)).below hb3 (by omega)⟩, by simp; omega⟩
  have HOW : Hid ((w3.alloc (.cells #[.int .i64 V0, .int .i64 V1, .int .i64 V2, .slice af L.length cf] 35)).ownsRow (w.heap.size + 3) 2 1 (.slice af L.length cf) L.length (ints L)) := own_mono (ho.alloc _) (by omega)
  have HLL := hide hL
  clear c1 hc hk hb3 hz hs2 hp ho hL HB2 HR1' HR2' HC2 HS2 hpp
  go_upto_region 3 with fail
  generalize hw4 : w3.alloc (.cells #[.int .i64 V0, .int .i64 V1, .int .i64 V2, .slice af L.length cf] 35) = w4 at *
  clear hw4
  generalize w3.heap.size = X at *
  generalize hR2 : w.heap.size + 1 = R2 at *
  have HR2 := hide hR2
  clear hR2
  refine region_ops (fun w' => dpR w p a len cap w.heap.size R2 X (.int .i64 V0) (.int .i64 V1) (.int .i64 V2) (.slice af L.length cf) w' ∧ w'.ownsRow (w.heap.size + 3) 2 1 (.slice af L.length cf) L.length (ints L)) (dpF p w.heap.size R2 (.int .i64 V0) (.int .i64 V1) (.int .i64 V2) (.slice af L.length cf)) (by kernel_rfl) (by kernel_rfl) (by kernel_rfl) ?_ ?_ ?_
  · exact ⟨HD.out.drew, HOW.out⟩
  · refine ⟨?_, ?_, ?_, ?_, ?_, trivial⟩
    · intro u w5 au hau _ hF0 hp' K hK
      obtain ⟨hF, hOw⟩ := hF0
      obtain ⟨x0, -⟩ := hF.x 0 _ rfl
      obtain ⟨x1, -⟩ := hF.x 1 _ rfl
      obtain ⟨x2, -⟩ := hF.x 2 _ rfl
      obtain ⟨x3, -⟩ := hF.x 3 _ rfl
      have t5 : au.tmps[5]?.getD undef = .pointer (some ⟨X, 0, none⟩) := by rw [hau.out]; kernel_rfl
      refine step_plain rfl ?_
      go_simp
      exact hK.out (vVolume V0 V1 V2 af L.length cf) _ ⟨hF, hOw⟩ (upU_same _ _ _) (fun j hj _ h => dpF_stab u 0 _ j hj (by omega) (fun _ _ h => h) (fun _ _ h => h) h)
    · intro u w5 au hau _ hF0 hp' K hK
      obtain ⟨hF, hOw⟩ := hF0
      have t4 : au.tmps[4]?.getD undef = .pointer (some ⟨p, 0, none⟩) := by rw [hau.out]; kernel_rfl
      refine step_plain rfl ?_
      go_simp
      exact hK.out (.pointer (some ⟨p, 0, none⟩)) _ ⟨hF, hOw⟩ (upU_same _ _ _) (fun j hj _ h => dpF_stab u 1 _ j hj (by omega) (fun _ _ h => h) (fun _ _ h => h) h)
    · intro u w5 au hau _ hF0 hp' K hK
      obtain ⟨hF, hOw⟩ := hF0
      obtain ⟨h1, -⟩ := hp'
      have h1' : u 1 = .pointer (some ⟨p, 0, none⟩) := h1
      have t11 : au.tmps[11]?.getD undef = u 1 := by rw [hau.out]; kernel_rfl
      rw [h1'] at t11
      have c := cD w5 hF.cur (by have := hF.sz; have := HBp.out.hp; omega) (HAB.out.imp id fun h b off e => by have := h b off e; have := hF.sz; omega)
      refine step_plain rfl ?_
      go_simp
      refine c.mono ?_
      rintro e w6 ⟨z0, z1, z2, z3, rfl, b0, b1, b2, b3, hc, hk⟩
      exact hK.out (tv z0 z1 z2 z3) _ ⟨hF.step HBp.out hc hk, owns_keepV hOw (fun b hb hl => hk.block b hl (by have := HBp.out.hp; omega))⟩ ⟨z0, z1, z2, z3, upU_same _ _ _, I4.of b0 b1 b2 b3⟩ (fun j hj hf h => dpF_stab u 2 _ j hj (fun e => by subst e; exact absurd (Eq.trans (Eq.symm (by kernel_rfl)) hf) Bool.false_ne_true) (fun _ _ h => h.kept hk (by have := HBp.out.hp; omega)) (fun _ _ h => h.kept hk (by have := HBp.out.hp; have := HBp.out.r2; omega)) h)
    · intro u w5 au hau _ hF0 hp' K hK
      obtain ⟨hF, hOw⟩ := hF0
      have h0 : u 0 = vVolume V0 V1 V2 af L.length cf := PreF.get hp' 0 (by kernel_rfl)
      have t2 : au.tmps[2]?.getD undef = .pointer (some ⟨w.heap.size, 0, none⟩) := by rw [hau.out]; kernel_rfl
      have t10 : au.tmps[10]?.getD undef = u 0 := by rw [hau.out]; kernel_rfl
      rw [h0] at t10
      obtain ⟨q0, q1, q2, q3, hq⟩ := hF.r1
      obtain ⟨x0, f0⟩ := hq 0 _ rfl
      obtain ⟨x1, f1⟩ := hq 1 _ rfl
      obtain ⟨x2, f2⟩ := hq 2 _ rfl
      obtain ⟨x3, f3⟩ := hq 3 _ rfl
      refine step_plain rfl ?_
      go_simp
      exact hK.out undef _ ⟨hF.set HBp.out (.inl rfl) _ _ _ _, owns_farC (owns_farC (owns_farC (owns_farC hOw (by omega) _) (by omega) _) (by omega) _) (by omega) _⟩ (hq.to4 _ _ _ _) (fun j hj _ h => dpF_stab u 3 _ j hj (by omega) (fun _ e => absurd e hj) (fun _ _ h => h.far4 (by have := HBp.out.r2; omega) _ _ _ _) h)
    · intro u w5 au hau _ hF0 hp' K hK
      obtain ⟨hF, hOw⟩ := hF0
      obtain ⟨z0, z1, z2, z3, h2, hz⟩ : ∃ z0 z1 z2 z3, u 2 = tv z0 z1 z2 z3 ∧ I4 z0 z1 z2 z3 := PreF.get hp' 2 (by kernel_rfl)
      have t3 : au.tmps[3]?.getD undef = .pointer (some ⟨R2, 0, none⟩) := by rw [hau.out]; kernel_rfl
      have t12 : au.tmps[12]?.getD undef = u 2 := by rw [hau.out]; kernel_rfl
      rw [h2] at t12
      obtain ⟨q0, q1, q2, q3, hq⟩ := hF.r2
      obtain ⟨x0, f0⟩ := hq 0 _ rfl
      obtain ⟨x1, f1⟩ := hq 1 _ rfl
      obtain ⟨x2, f2⟩ := hq 2 _ rfl
      obtain ⟨x3, f3⟩ := hq 3 _ rfl
      have HZ := hide hz
      clear hz
      refine step_plain rfl ?_
      go_simp
      exact hK.out undef _ ⟨hF.set HBp.out (.inr rfl) _ _ _ _, owns_farC (owns_farC (owns_farC (owns_farC hOw (by have := HBp.out.r2; omega) _) (by have := HBp.out.r2; omega) _) (by have := HBp.out.r2; omega) _) (by have := HBp.out.r2; omega) _⟩ ⟨z0, z1, z2, z3, (upU_other _ _ (by omega)).trans h2, HZ.out, hq.to4 _ _ _ _⟩ (fun j hj _ h => dpF_stab u 4 _ j hj (by omega) (fun _ _ h => h.far4 (by have := HBp.out.r2; omega) _ _ _ _) (fun _ e => absurd e hj) h)
  · intro u w5 hF0 hall
    obtain ⟨hF, hOw⟩ := hF0
    have HOE := hide (own_mono hOw (show w.heap.size ≤ w.heap.size + 3 by omega))
    clear hOw
    obtain ⟨x0, f0⟩ := (hall 3 (by decide) : Bx _ _ _) 0 _ rfl
    obtain ⟨x1, f1⟩ := (hall 3 (by decide) : Bx _ _ _) 1 _ rfl
    obtain ⟨x2, f2⟩ := (hall 3 (by decide) : Bx _ _ _) 2 _ rfl
    obtain ⟨x3, f3⟩ := (hall 3 (by decide) : Bx _ _ _) 3 _ rfl
    obtain ⟨z0, z1, z2, z3, h2, hz, hq⟩ : ∃ z0 z1 z2 z3, u 2 = tv z0 z1 z2 z3 ∧ I4 z0 z1 z2 z3 ∧ Bx R2 [.int .i64 z0, .int .i64 z1, .int .i64 z2, .int .i64 z3] w5 := hall 4 (by decide)
    obtain ⟨g0, d0⟩ := hq 0 _ rfl
    obtain ⟨g1, d1⟩ := hq 1 _ rfl
    obtain ⟨g2, d2⟩ := hq 2 _ rfl
    obtain ⟨g3, d3⟩ := hq 3 _ rfl
    have HZ := hide hz
    have HE := hide hF.below
    clear hF hall hq hz HD
    simp only [rgPut, Act.put]
    go_simp
    go_wp2_with fail
    exact bodyPost_ret (v := .tuple #[vVolume V0 V1 V2 af L.length cf, tv z0 z1 z2 z3]) (by simp [results, Tryd.results12, go_sem, x0, x1, x2, x3, g0, g1, g2, g3]) rfl ⟨V0, V1, V2, L, af, cf, z0, z1, z2, z3, rfl, HLL.out, HOE.out, HZ.out, HE.out⟩

end Go.Proofs.YtggiegfkmkaaeaaDoor

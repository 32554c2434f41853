/- The draw of an act. -/
import Derived.Test.YtfhfddmiiopgdaaRgi
import Derived.Test.YtfhfddmiiopgdaaDgn
import Derived.Test.YtfhfddmiiopgdaaAcs
namespace Go.Proofs.Ytfhfddmiiopgdaa
open Go.RowKit

/-- what each operation of the draw leaves -/
def dacF (p : Nat) (w0 : World) : Nat → (Nat → Value) → World → Prop
  | 0, u, w => ∃ b, u 0 = .slice (some ⟨b, 0, none⟩) 9 9 ∧ w0.heap.size ≤ b ∧ ∀ Y, Y < 9 → ∃ z, w.cell? ⟨b, Y, none⟩ = some (.int .i64 z)
  | 1, u, _ => u 1 = .pointer (some ⟨p, 0, none⟩)
  | 2, u, _ => ∃ Y : Nat, Y < 9 ∧ u 2 = .int .i64 Y
  | 3, u, w => ∃ b Y z, u 3 = .pointer (some ⟨b, Y, none⟩) ∧ w0.heap.size ≤ b ∧ w.cell? ⟨b, Y, none⟩ = some (.int .i64 z)
  | 4, u, _ => ∃ z, u 4 = .int .i64 z
  | 5, u, _ => u 5 = .pointer (some ⟨p, 0, none⟩)
  | 6, u, _ => ∃ z, u 6 = .int .i64 z
  | 7, u, _ => u 7 = .pointer (some ⟨p, 0, none⟩)
  | 8, u, _ => ∃ z, u 8 = .int .i64 z
  | 9, u, _ => ∃ z, u 9 = .int .i64 z
  | 10, u, _ => ∃ x y z, u 10 = vAct x y z
  | 11, u, w => ∃ X x y z, u 11 = .pointer (some ⟨X, 0, none⟩) ∧ w0.heap.size ≤ X ∧ Bx X [.int .i64 x, .int .i64 y, .int .i64 z] w
  | _, _, _ => True

theorem lit9 (w : World) {x0 x1 x2 x3 x4 x5 x6 x7 x8 : Int} : ∀ Y, Y < 9 → ∃ z : Int, (w.alloc (.cells #[.int .i64 x0, .int .i64 x1, .int .i64 x2, .int .i64 x3, .int .i64 x4, .int .i64 x5, .int .i64 x6, .int .i64 x7, .int .i64 x8] 2)).cell? ⟨w.heap.size, Y, none⟩ = some (.int .i64 z) := fun Y h => by
  have : Y = 0 ∨ Y = 1 ∨ Y = 2 ∨ Y = 3 ∨ Y = 4 ∨ Y = 5 ∨ Y = 6 ∨ Y = 7 ∨ Y = 8 := by omega
  rcases this with rfl | rfl | rfl | rfl | rfl | rfl | rfl | rfl | rfl <;> exact ⟨_, by simp [go_sem]; rfl⟩
theorem cell_int {w : World} {q q' : Addr} {y : Int} (h : ∃ z : Int, w.cell? q = some (.int .i64 z)) : ∃ z : Int, (w.setCell q' (.int .i64 y)).cell? q = some (.int .i64 z) := by
  obtain ⟨z, h⟩ := h
  by_cases e : q = q'
  · subst e; exact ⟨y, World.cell?_setCell_same _ _ _ h⟩
  · exact ⟨z, by rw [World.cell?_setCell_other _ _ _ _ (fun h => e h.symm)]; exact h⟩
theorem dacF_stab {p : Nat} {w0 w w' : World} (hp : p < w0.heap.size) (hk : Kept p w w') (u : Nat → Value) (i : Nat) (v : Value) : ∀ j, j ≠ i → dacF p w0 j u w → dacF p w0 j (upU u i v) w' := by
  intro j hj h
  have up : ∀ k, k ≠ i → upU u i v k = u k := fun k hk => upU_other u v hk
  match j, hj, h with
  | 0, hj, h =>
    obtain ⟨b, h1, h2, h3⟩ := h
    refine ⟨b, (up 0 hj).trans h1, h2, fun Y hY => ?_⟩
    obtain ⟨z, hz⟩ := h3 Y hY
    exact ⟨z, hk.cell (show b ≠ p by omega) hz⟩
  | 1, hj, h => exact (up 1 hj).trans h
  | 2, hj, h => obtain ⟨Y, h1, h2⟩ := h; exact ⟨Y, h1, (up 2 hj).trans h2⟩
  | 3, hj, h =>
    obtain ⟨b, Y, z, h1, h2, h3⟩ := h
    exact ⟨b, Y, z, (up 3 hj).trans h1, h2, hk.cell (show b ≠ p by omega) h3⟩
  | 4, hj, h => obtain ⟨z, h⟩ := h; exact ⟨z, (up 4 hj).trans h⟩
  | 5, hj, h => exact (up 5 hj).trans h
  | 6, hj, h => obtain ⟨z, h⟩ := h; exact ⟨z, (up 6 hj).trans h⟩
  | 7, hj, h => exact (up 7 hj).trans h
  | 8, hj, h => obtain ⟨z, h⟩ := h; exact ⟨z, (up 8 hj).trans h⟩
  | 9, hj, h => obtain ⟨z, h⟩ := h; exact ⟨z, (up 9 hj).trans h⟩
  | 10, hj, h => obtain ⟨x, y, z, h⟩ := h; exact ⟨x, y, z, (up 10 hj).trans h⟩
  | 11, hj, h =>
    obtain ⟨X, x, y, z, h1, h2, h3⟩ := h
    exact ⟨X, x, y, z, (up 11 hj).trans h1, h2, h3.kept hk (by omega)⟩
  | _ + 12, _, _ => trivial
theorem dacF_put {p : Nat} {w0 w : World} {u : Nat → Value} {X : Nat} {x y z y0 y1 y2 : Int} (hX1 : u 11 = .pointer (some ⟨X, 0, none⟩)) (hX3 : Bx X [.int .i64 y0, .int .i64 y1, .int .i64 y2] w) :
    ∀ j, dacF p w0 j u w → dacF p w0 j (upU u 12 undef) (((w.setCell ⟨X, 0, none⟩ (.int .i64 x)).setCell ⟨X, 1, none⟩ (.int .i64 y)).setCell ⟨X, 2, none⟩ (.int .i64 z)) := by
  intro j h
  have up : ∀ k, k ≠ 12 → upU u 12 undef k = u k := fun k hk => upU_other u _ hk
  match j, h with
  | 0, h =>
    obtain ⟨b, h1, h2, h3⟩ := h
    exact ⟨b, (up 0 (by omega)).trans h1, h2, fun Y hY => cell_int (cell_int (cell_int (h3 Y hY)))⟩
  | 1, h => exact (up 1 (by omega)).trans h
  | 2, h => obtain ⟨Y, h1, h2⟩ := h; exact ⟨Y, h1, (up 2 (by omega)).trans h2⟩
  | 3, h =>
    obtain ⟨b, Y, z', h1, h2, h3⟩ := h
    obtain ⟨z'', h4⟩ := cell_int (q' := ⟨X, 2, none⟩) (y := z) (cell_int (q' := ⟨X, 1, none⟩) (y := y) (cell_int (q' := ⟨X, 0, none⟩) (y := x) ⟨z', h3⟩))
    exact ⟨b, Y, z'', (up 3 (by omega)).trans h1, h2, h4⟩
  | 4, h => obtain ⟨z, h⟩ := h; exact ⟨z, (up 4 (by omega)).trans h⟩
  | 5, h => exact (up 5 (by omega)).trans h
  | 6, h => obtain ⟨z, h⟩ := h; exact ⟨z, (up 6 (by omega)).trans h⟩
  | 7, h => exact (up 7 (by omega)).trans h
  | 8, h => obtain ⟨z, h⟩ := h; exact ⟨z, (up 8 (by omega)).trans h⟩
  | 9, h => obtain ⟨z, h⟩ := h; exact ⟨z, (up 9 (by omega)).trans h⟩
  | 10, h => obtain ⟨x, y, z, h⟩ := h; exact ⟨x, y, z, (up 10 (by omega)).trans h⟩
  | 11, h =>
    obtain ⟨X', -, -, -, h1, h2, -⟩ := h
    rw [hX1] at h1
    cases h1
    exact ⟨X, x, y, z, (up 11 (by omega)).trans hX1, h2, ((hX3.set 0 (.int .i64 x)).set 1 (.int .i64 y)).set 2 (.int .i64 z)⟩
  | _ + 12, _ => trivial

set_option maxRecDepth 100000 in
set_option maxHeartbeats 1000000 in
theorem drawAct_any (p : Nat) (a : Option Addr) (len cap : Nat) (w : World) (h : Cur p a len cap w) (hp : p < w.heap.size) (hab : len = 0 ∨ ∀ b off, a = some ⟨b, off, none⟩ → b < w.heap.size) :
    Calls Try.prog 18 #[.pointer (some ⟨p, 0, none⟩)] w fun e w' => ∃ x0 x1 x2, e = .returned (vAct x0 x1 x2) ∧ Cur p a len cap w' ∧ Kept p w w' := by
  have hb0 := bnew w (cAct 0 0 0 30)
  have HX0 : Hid (Bx w.heap.size [.int .i64 0, .int .i64 0, .int .i64 0] (w.alloc (cAct 0 0 0 30))) := Bx.new [.int .i64 0, .int .i64 0, .int .i64 0] 30 w
  have HK0 := hide (Kept.of_below (p := p) hb0)
  have HC0 := hide (h.below hb0)
  have hne : w.heap.size ≠ p := by omega
  clear h hb0
  go_enter Try.func18, Try.ntmps18
  go_upto_region 1 with fail
  generalize hw1 : w.alloc (cAct 0 0 0 30) = w1 at *
  have HPW : Hid (p < w1.heap.size) := by rw [← hw1]; exact Nat.lt_trans hp (by simp)
  have HAB : Hid (len = 0 ∨ ∀ b off, a = some ⟨b, off, none⟩ → b < w1.heap.size) := hab.imp id fun h b off e => Nat.lt_trans (h b off e) (by rw [← hw1]; simp)
  clear hw1
  refine region_ops (fun w' => Cur p a len cap w' ∧ Kept p w1 w') (dacF p w1) (by kernel_rfl) (by kernel_rfl) (by kernel_rfl) ?_ ?_ ?_
  · exact ⟨HC0.out.drewN 1, (Kept.refl _ _).drewN 1⟩
  · refine ⟨?_, ?_, ?_, ?_, ?_, ?_, ?_, ?_, ?_, ?_, ?_, ?_, ?_, trivial⟩
    · intro u w2 au hau _ hF hp' K hK
      obtain ⟨hC, hKp⟩ := hF
      refine step_plain rfl ?_
      have hb := bnew w2 (.cells #[.int .i64 1, .int .i64 1, .int .i64 2, .int .i64 2, .int .i64 3, .int .i64 3, .int .i64 4, .int .i64 5, .int .i64 5] 2)
      have HL : Hid (∀ Y, Y < 9 → ∃ z, (w2.alloc (.cells #[.int .i64 1, .int .i64 1, .int .i64 2, .int .i64 2, .int .i64 3, .int .i64 3, .int .i64 4, .int .i64 5, .int .i64 5] 2)).cell? ⟨w2.heap.size, Y, none⟩ = some (.int .i64 z)) := lit9 w2
      go_simp
      exact hK.out (.slice (some ⟨w2.heap.size, 0, none⟩) 9 9) _ ⟨hC.below hb, hKp.trans (Kept.of_below hb)⟩ ⟨_, upU_same _ _ _, hKp.size, HL.out⟩ (fun j hj _ h => dacF_stab HPW.out (Kept.of_below hb) u 0 _ j hj h)
    · intro u w2 au hau _ hF hp' K hK
      obtain ⟨hC, hKp⟩ := hF
      have t0 : au.tmps[0]?.getD undef = .pointer (some ⟨p, 0, none⟩) := by rw [hau.out]; kernel_rfl
      refine step_plain rfl ?_
      go_simp
      exact hK.out (.pointer (some ⟨p, 0, none⟩)) _ ⟨hC, hKp⟩ (upU_same _ _ _) (fun j hj _ h => dacF_stab HPW.out (Kept.refl _ _) u 1 _ j hj h)
    · intro u w2 au hau _ hF hp' K hK
      obtain ⟨hC, hKp⟩ := hF
      obtain ⟨h1, -⟩ := hp'
      have h1' : u 1 = .pointer (some ⟨p, 0, none⟩) := h1
      have t5 : au.tmps[5]?.getD undef = u 1 := by rw [hau.out]; kernel_rfl
      rw [h1'] at t5
      have c := below_any p a len cap w2 hC 9 (by omega) (by omega)
      refine step_plain rfl ?_
      go_simp
      refine c.mono ?_
      rintro e w3 ⟨x, rfl, x0, x1, hc, hk⟩
      exact hK.out (.int .i64 x) _ ⟨hc, hKp.trans hk⟩ ⟨x.toNat, by omega, (upU_same _ _ _).trans (by rw [show ((x.toNat : Nat) : Int) = x by omega])⟩ (fun j hj _ h => dacF_stab HPW.out hk u 2 _ j hj h)
    · intro u w2 au hau _ hF hp' K hK
      obtain ⟨hC, hKp⟩ := hF
      obtain ⟨h0, h2, -⟩ := hp'
      obtain ⟨b, hb1, hb2, hb3⟩ : dacF p w1 0 u w2 := h0
      obtain ⟨Y, hY, hy⟩ : dacF p w1 2 u w2 := h2
      obtain ⟨z, hz⟩ := hb3 Y hY
      have hYi : (Y : Int) < 9 := by omega
      have t4 : au.tmps[4]?.getD undef = u 0 := by rw [hau.out]; kernel_rfl
      have t6 : au.tmps[6]?.getD undef = u 2 := by rw [hau.out]; kernel_rfl
      rw [hb1] at t4
      rw [hy] at t6
      refine step_plain rfl ?_
      go_simp
      exact hK.out (.pointer (some ⟨b, Y, none⟩)) _ ⟨hC, hKp⟩ ⟨b, Y, z, upU_same _ _ _, hb2, hz⟩ (fun j hj _ h => dacF_stab HPW.out (Kept.refl _ _) u 3 _ j hj h)
    · intro u w2 au hau _ hF hp' K hK
      obtain ⟨hC, hKp⟩ := hF
      obtain ⟨h3, -⟩ := hp'
      obtain ⟨b, Y, z, hb1, hb2, hz⟩ : dacF p w1 3 u w2 := h3
      have t7 : au.tmps[7]?.getD undef = u 3 := by rw [hau.out]; kernel_rfl
      rw [hb1] at t7
      refine step_plain rfl ?_
      go_simp
      exact hK.out (.int .i64 z) _ ⟨hC, hKp⟩ ⟨z, upU_same _ _ _⟩ (fun j hj _ h => dacF_stab HPW.out (Kept.refl _ _) u 4 _ j hj h)
    · intro u w2 au hau _ hF hp' K hK
      obtain ⟨hC, hKp⟩ := hF
      have t0 : au.tmps[0]?.getD undef = .pointer (some ⟨p, 0, none⟩) := by rw [hau.out]; kernel_rfl
      refine step_plain rfl ?_
      go_simp
      exact hK.out (.pointer (some ⟨p, 0, none⟩)) _ ⟨hC, hKp⟩ (upU_same _ _ _) (fun j hj _ h => dacF_stab HPW.out (Kept.refl _ _) u 5 _ j hj h)
    · intro u w2 au hau _ hF hp' K hK
      obtain ⟨hC, hKp⟩ := hF
      obtain ⟨h1, -⟩ := hp'
      have h1' : u 5 = .pointer (some ⟨p, 0, none⟩) := h1
      have t9 : au.tmps[9]?.getD undef = u 5 := by rw [hau.out]; kernel_rfl
      rw [h1'] at t9
      have c := below_any p a len cap w2 hC 6 (by omega) (by omega)
      refine step_plain rfl ?_
      go_simp
      refine c.mono ?_
      rintro e w3 ⟨x, rfl, x0, x1, hc, hk⟩
      exact hK.out (.int .i64 x) _ ⟨hc, hKp.trans hk⟩ ⟨x, upU_same _ _ _⟩ (fun j hj _ h => dacF_stab HPW.out hk u 6 _ j hj h)
    · intro u w2 au hau _ hF hp' K hK
      obtain ⟨hC, hKp⟩ := hF
      have t0 : au.tmps[0]?.getD undef = .pointer (some ⟨p, 0, none⟩) := by rw [hau.out]; kernel_rfl
      refine step_plain rfl ?_
      go_simp
      exact hK.out (.pointer (some ⟨p, 0, none⟩)) _ ⟨hC, hKp⟩ (upU_same _ _ _) (fun j hj _ h => dacF_stab HPW.out (Kept.refl _ _) u 7 _ j hj h)
    · intro u w2 au hau _ hF hp' K hK
      obtain ⟨hC, hKp⟩ := hF
      obtain ⟨h1, -⟩ := hp'
      have h1' : u 7 = .pointer (some ⟨p, 0, none⟩) := h1
      have t11 : au.tmps[11]?.getD undef = u 7 := by rw [hau.out]; kernel_rfl
      rw [h1'] at t11
      have c := below_any p a len cap w2 hC 9 (by omega) (by omega)
      refine step_plain rfl ?_
      go_simp
      refine c.mono ?_
      rintro e w3 ⟨x, rfl, x0, x1, hc, hk⟩
      exact hK.out (.int .i64 x) _ ⟨hc, hKp.trans hk⟩ ⟨x, upU_same _ _ _⟩ (fun j hj _ h => dacF_stab HPW.out hk u 8 _ j hj h)
    · intro u w2 au hau _ hF hp' K hK
      obtain ⟨hC, hKp⟩ := hF
      obtain ⟨h8, -⟩ := hp'
      obtain ⟨z, hz⟩ : dacF p w1 8 u w2 := h8
      have t12 : au.tmps[12]?.getD undef = u 8 := by rw [hau.out]; kernel_rfl
      rw [hz] at t12
      refine step_plain rfl ?_
      go_simp
      exact hK.out (.int .i64 _) _ ⟨hC, hKp⟩ ⟨_, upU_same _ _ _⟩ (fun j hj _ h => dacF_stab HPW.out (Kept.refl _ _) u 9 _ j hj h)
    · intro u w2 au hau _ hF hp' K hK
      obtain ⟨hC, hKp⟩ := hF
      obtain ⟨h4, h6, h9, -⟩ := hp'
      obtain ⟨x, hx⟩ : dacF p w1 4 u w2 := h4
      obtain ⟨y, hy⟩ : dacF p w1 6 u w2 := h6
      obtain ⟨z, hz⟩ : dacF p w1 9 u w2 := h9
      have t8 : au.tmps[8]?.getD undef = u 4 := by rw [hau.out]; kernel_rfl
      have t10 : au.tmps[10]?.getD undef = u 6 := by rw [hau.out]; kernel_rfl
      have t13 : au.tmps[13]?.getD undef = u 9 := by rw [hau.out]; kernel_rfl
      rw [hx] at t8
      rw [hy] at t10
      rw [hz] at t13
      refine step_plain rfl ?_
      go_simp
      exact hK.out (vAct x y z) _ ⟨hC, hKp⟩ ⟨x, y, z, upU_same _ _ _⟩ (fun j hj _ h => dacF_stab HPW.out (Kept.refl _ _) u 10 _ j hj h)
    · intro u w2 au hau _ hF hp' K hK
      obtain ⟨hC, hKp⟩ := hF
      refine step_plain rfl ?_
      have hb := bnew w2 (.cells #[.int .i64 0, .int .i64 0, .int .i64 0] 30)
      have HX := hide (Bx.new [.int .i64 0, .int .i64 0, .int .i64 0] 30 w2)
      go_simp
      exact hK.out (.pointer (some ⟨w2.heap.size, 0, none⟩)) _ ⟨hC.below hb, hKp.trans (Kept.of_below hb)⟩ ⟨_, 0, 0, 0, upU_same _ _ _, hKp.size, HX.out⟩ (fun j hj _ h => dacF_stab HPW.out (Kept.of_below hb) u 11 _ j hj h)
    · intro u w2 au hau _ hF hp' K hK
      obtain ⟨hC, hKp⟩ := hF
      obtain ⟨X, y0, y1, y2, hX1, hX2, hX3⟩ : dacF p w1 11 u w2 := hp'.1
      obtain ⟨x, y, z, hx⟩ : dacF p w1 10 u w2 := hp'.2.1
      have t3 : au.tmps[3]?.getD undef = u 11 := by rw [hau.out]; kernel_rfl
      have t14 : au.tmps[14]?.getD undef = u 10 := by rw [hau.out]; kernel_rfl
      rw [hX1] at t3
      rw [hx] at t14
      obtain ⟨z0, f0⟩ := hX3 0 _ rfl
      obtain ⟨z1, f1⟩ := hX3 1 _ rfl
      obtain ⟨z2, f2⟩ := hX3 2 _ rfl
      refine step_plain rfl ?_
      go_simp
      exact hK.out undef _ ⟨((hC.setFar (q := ⟨X, 0, none⟩) hX2 HPW.out HAB.out _).setFar (q := ⟨X, 1, none⟩) hX2 HPW.out HAB.out _).setFar (q := ⟨X, 2, none⟩) hX2 HPW.out HAB.out _, ((hKp.setNew' (a := ⟨X, 0, none⟩) hX2 _).setNew' (a := ⟨X, 1, none⟩) hX2 _).setNew' (a := ⟨X, 2, none⟩) hX2 _⟩ trivial (fun j _ _ h => dacF_put hX1 hX3 j h)
  · intro u w2 hF hall
    obtain ⟨X, x, y, z, hX1, hX2, hX3⟩ : dacF p w1 11 u w2 := hall 11 (by decide)
    simp only [rgPut, Act.put, hX1]
    go_simp
    have HX := hide hX3
    have HC := hide hF.1
    have HK := hide hF.2
    have hXp : X ≠ p := by have := HPW.out; omega
    have HX2 := hide hX2
    clear hX1 hX2 hX3 hF hall
    have c20 := once_any p a len cap w2 HC.out 20 (by omega) (by omega)
    go_wp2_with fail
    refine c20.mono ?_
    rintro e w3 ⟨q, rfl, hc, hk⟩
    replace HX := hide (HX.out.kept hk hXp)
    replace HC := hide hc
    replace HK := hide (HK.out.trans hk)
    clear c20 hc hk
    go_upto_if 16 with fail
    go_cut [] (fun wc => ∃ x y z : Int, Bx X [.int .i64 x, .int .i64 y, .int .i64 z] wc ∧ Cur p a len cap wc ∧ Kept p w1 wc)
    case first =>
      cases q
      · go_wp2_with fail
        go_meet
        exact ⟨x, y, z, HX.out, HC.out, HK.out⟩
      · have c3 := below_any p a len cap w3 HC.out 3 (by omega) (by omega)
        go_wp2_with fail
        refine c3.mono ?_
        rintro e w4 ⟨k, rfl, k0, k1, hc, hk⟩
        replace HX := hide (HX.out.kept hk hXp)
        replace HC := hide hc
        replace HK := hide (HK.out.trans hk)
        clear c3 hc hk
        have hk3 : k = 0 ∨ k = 1 ∨ k = 2 := by omega
        clear k0 k1
        rcases hk3 with rfl | rfl | rfl
        · have c := from_any p a len cap w4 HC.out (-1) 7 (by omega) (by omega) (by omega)
          go_wp2_with fail
          refine c.mono ?_
          rintro e w5 ⟨v, rfl, -, -, hc, hk⟩
          have hX5 := HX.out.kept hk hXp
          obtain ⟨z0, f0⟩ := hX5 0 _ rfl
          have HE : Hid (Bx X [.int .i64 v, .int .i64 y, .int .i64 z] (w5.setCell ⟨X, 0, none⟩ (.int .i64 v)) ∧ Cur p a len cap (w5.setCell ⟨X, 0, none⟩ (.int .i64 v)) ∧ Kept p w1 (w5.setCell ⟨X, 0, none⟩ (.int .i64 v))) := ⟨hX5.set 0 (.int .i64 v), hc.setFar (q := ⟨X, 0, none⟩) HX2.out HPW.out HAB.out _, (HK.out.trans hk).setNew' (a := ⟨X, 0, none⟩) HX2.out _⟩
          clear c hc hk HX HC HK hX5
          go_wp2_with fail
          go_meet
          exact ⟨_, _, _, HE.out.1, HE.out.2.1, HE.out.2.2⟩
        · obtain ⟨wl, hwl⟩ : ∃ wl, wl = w4.alloc (.cells #[.int .i64 (-1), .int .i64 1000000, .int .i64 1000001] 2) := ⟨_, rfl⟩
          have hb : Below w4.heap.size w4 wl := by rw [hwl]; exact bnew _ _
          have HL : Hid (∀ Y, Y < 3 → ∃ z, wl.cell? ⟨w4.heap.size, Y, none⟩ = some (.int .i64 z)) := fun Y hY => by rw [hwl]; exact lit3 Y hY
          have hwl' := hwl.symm
          have hlp : w4.heap.size ≠ p := by have := HK.out.size; have := HPW.out; omega
          have c := below_any p a len cap wl (HC.out.below hb) 3 (by omega) (by omega)
          have HX4 := hide (HX.out.kept (Kept.of_below (p := p) hb) hXp)
          have HK4 := hide (HK.out.trans (Kept.of_below hb))
          clear hwl HX HC HK hb
          go_wp2_with fail
          refine c.mono ?_
          rintro e w5 ⟨k, rfl, k0, k1, hc, hk⟩
          obtain ⟨Y, rfl⟩ : ∃ Y : Nat, k = Y := ⟨k.toNat, by omega⟩
          have hY : (Y : Int) < 3 := by omega
          obtain ⟨v, hv⟩ := HL.out Y (by omega)
          have hv5 := hk.cell (a := ⟨w4.heap.size, Y, none⟩) hlp hv
          have hX5 := HX4.out.kept hk hXp
          obtain ⟨z1, f1⟩ := hX5 1 _ rfl
          have HE : Hid (Bx X [.int .i64 x, .int .i64 v, .int .i64 z] (w5.setCell ⟨X, 1, none⟩ (.int .i64 v)) ∧ Cur p a len cap (w5.setCell ⟨X, 1, none⟩ (.int .i64 v)) ∧ Kept p w1 (w5.setCell ⟨X, 1, none⟩ (.int .i64 v))) := ⟨hX5.set 1 (.int .i64 v), hc.setFar (q := ⟨X, 1, none⟩) HX2.out HPW.out HAB.out _, (HK4.out.trans hk).setNew' (a := ⟨X, 1, none⟩) HX2.out _⟩
          clear c hc hk HX4 HK4 hX5 HL hv k0 k1 hwl' hlp
          go_wp2_with fail
          go_meet
          exact ⟨_, _, _, HE.out.1, HE.out.2.1, HE.out.2.2⟩
        · obtain ⟨wl, hwl⟩ : ∃ wl, wl = w4.alloc (.cells #[.int .i64 0, .int .i64 (-1), .int .i64 1000000000, .int .i64 1000000001] 2) := ⟨_, rfl⟩
          have hb : Below w4.heap.size w4 wl := by rw [hwl]; exact bnew _ _
          have HL : Hid (∀ Y, Y < 4 → ∃ z, wl.cell? ⟨w4.heap.size, Y, none⟩ = some (.int .i64 z)) := fun Y hY => by rw [hwl]; exact lit4 Y hY
          have hwl' := hwl.symm
          have hlp : w4.heap.size ≠ p := by have := HK.out.size; have := HPW.out; omega
          have c := below_any p a len cap wl (HC.out.below hb) 4 (by omega) (by omega)
          have HX4 := hide (HX.out.kept (Kept.of_below (p := p) hb) hXp)
          have HK4 := hide (HK.out.trans (Kept.of_below hb))
          clear hwl HX HC HK hb
          go_wp2_with fail
          refine c.mono ?_
          rintro e w5 ⟨k, rfl, k0, k1, hc, hk⟩
          obtain ⟨Y, rfl⟩ : ∃ Y : Nat, k = Y := ⟨k.toNat, by omega⟩
          have hY : (Y : Int) < 4 := by omega
          obtain ⟨v, hv⟩ := HL.out Y (by omega)
          have hv5 := hk.cell (a := ⟨w4.heap.size, Y, none⟩) hlp hv
          have hX5 := HX4.out.kept hk hXp
          obtain ⟨z2, f2⟩ := hX5 2 _ rfl
          have HE : Hid (Bx X [.int .i64 x, .int .i64 y, .int .i64 v] (w5.setCell ⟨X, 2, none⟩ (.int .i64 v)) ∧ Cur p a len cap (w5.setCell ⟨X, 2, none⟩ (.int .i64 v)) ∧ Kept p w1 (w5.setCell ⟨X, 2, none⟩ (.int .i64 v))) := ⟨hX5.set 2 (.int .i64 v), hc.setFar (q := ⟨X, 2, none⟩) HX2.out HPW.out HAB.out _, (HK4.out.trans hk).setNew' (a := ⟨X, 2, none⟩) HX2.out _⟩
          clear c hc hk HX4 HK4 hX5 HL hv k0 k1 hwl' hlp
          go_wp2_with fail
          go_meet
          exact ⟨_, _, _, HE.out.1, HE.out.2.1, HE.out.2.2⟩
    case rest =>
      obtain ⟨x', y', z', hX5, hc, hk⟩ := hcut
      have HR := HX0.out.kept hk hne
      obtain ⟨z0, -⟩ := hX5 0 _ rfl
      obtain ⟨z1, -⟩ := hX5 1 _ rfl
      obtain ⟨z2, -⟩ := hX5 2 _ rfl
      obtain ⟨r0, f0⟩ := HR 0 _ rfl
      obtain ⟨r1, f1⟩ := HR 1 _ rfl
      obtain ⟨r2, f2⟩ := HR 2 _ rfl
      have HE := ((HR.set 0 (.int .i64 x')).set 1 (.int .i64 y')).set 2 (.int .i64 z')
      have d0 := (HE 0 _ rfl).1
      have d1 := (HE 1 _ rfl).1
      have d2 := (HE 2 _ rfl).1
      have HV : Hid (Cur p a len cap (((wc.setCell ⟨w.heap.size, 0, none⟩ (.int .i64 x')).setCell ⟨w.heap.size, 1, none⟩ (.int .i64 y')).setCell ⟨w.heap.size, 2, none⟩ (.int .i64 z')) ∧ Kept p w (((wc.setCell ⟨w.heap.size, 0, none⟩ (.int .i64 x')).setCell ⟨w.heap.size, 1, none⟩ (.int .i64 y')).setCell ⟨w.heap.size, 2, none⟩ (.int .i64 z'))) :=
        ⟨((hc.setFar (q := ⟨w.heap.size, 0, none⟩) (Nat.le_refl _) hp hab _).setFar (q := ⟨w.heap.size, 1, none⟩) (Nat.le_refl _) hp hab _).setFar (q := ⟨w.heap.size, 2, none⟩) (Nat.le_refl _) hp hab _, (((HK0.out.trans hk).setNew' (a := ⟨w.heap.size, 0, none⟩) (Nat.le_refl _) _).setNew' (a := ⟨w.heap.size, 1, none⟩) (Nat.le_refl _) _).setNew' (a := ⟨w.heap.size, 2, none⟩) (Nat.le_refl _) _⟩
      clear hX5 hc hk HR HE HX HC HK HK0 HC0 HX0
      go_wp2_with fail
      exact bodyPost_ret (v := vAct x' y' z') (by simp [results, Try.results18, go_sem, d0, d1, d2]) rfl ⟨x', y', z', rfl, HV.out⟩

end Go.Proofs.Ytfhfddmiiopgdaa

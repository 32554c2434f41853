/- Products of turns: the specification's and the program's. -/
import Derived.Test.YtkgkdhocmglklaaDoorTrn
import Derived.Test.YtkgkdhocmglklaaDoorHom
namespace Go.Proofs.YtkgkdhocmglklaaDoor
open Go.RowKit

/-- a turn as a value -/
abbrev tv (a b c d : Int) : Value := .agg #[.int .i64 a, .int .i64 b, .int .i64 c, .int .i64 d]

theorem tdiv2 {Q : Int} (h : -1000000000 ≤ Q) (h' : Q ≤ 1000000000) : IntKind.i64.wrap (Q.tdiv 2) = Q.tdiv 2 := by
  rw [IntKind.wrap_i64]
  rcases Int.le_total 0 Q with h0 | h0
  · rw [Int.tdiv_eq_ediv_of_nonneg h0]; omega
  · have e : Q = -(-Q) := by omega
    rw [e, Int.neg_tdiv, Int.tdiv_eq_ediv_of_nonneg (by omega)]; omega

set_option maxRecDepth 100000 in
set_option maxHeartbeats 4000000 in
theorem l10Mul_any (a0 a1 a2 a3 b0 b1 b2 b3 : Int) (ha : Sml 1000 a0 a1 a2 a3) (hb : Sml 1000 b0 b1 b2 b3) (w : World) :
    Calls Tryd.prog 50 #[tv a0 a1 a2 a3, tv b0 b1 b2 b3] w fun e w' => e = .returned (tv (qW a0 a1 a2 a3 b0 b1 b2 b3) (qX a0 a1 a2 a3 b0 b1 b2 b3) (qY a0 a1 a2 a3 b0 b1 b2 b3) (qZ a0 a1 a2 a3 b0 b1 b2 b3)) ∧ Below w.heap.size w w' := by
  obtain ⟨l00, u00⟩ := mulB ha.w0 ha.w1 hb.w0 hb.w1
  obtain ⟨l01, u01⟩ := mulB ha.w0 ha.w1 hb.x0 hb.x1
  obtain ⟨l02, u02⟩ := mulB ha.w0 ha.w1 hb.y0 hb.y1
  obtain ⟨l03, u03⟩ := mulB ha.w0 ha.w1 hb.z0 hb.z1
  obtain ⟨l10, u10⟩ := mulB ha.x0 ha.x1 hb.w0 hb.w1
  obtain ⟨l11, u11⟩ := mulB ha.x0 ha.x1 hb.x0 hb.x1
  obtain ⟨l12, u12⟩ := mulB ha.x0 ha.x1 hb.y0 hb.y1
  obtain ⟨l13, u13⟩ := mulB ha.x0 ha.x1 hb.z0 hb.z1
  obtain ⟨l20, u20⟩ := mulB ha.y0 ha.y1 hb.w0 hb.w1
  obtain ⟨l21, u21⟩ := mulB ha.y0 ha.y1 hb.x0 hb.x1
  obtain ⟨l22, u22⟩ := mulB ha.y0 ha.y1 hb.y0 hb.y1
  obtain ⟨l23, u23⟩ := mulB ha.y0 ha.y1 hb.z0 hb.z1
  obtain ⟨l30, u30⟩ := mulB ha.z0 ha.z1 hb.w0 hb.w1
  obtain ⟨l31, u31⟩ := mulB ha.z0 ha.z1 hb.x0 hb.x1
  obtain ⟨l32, u32⟩ := mulB ha.z0 ha.z1 hb.y0 hb.y1
  obtain ⟨l33, u33⟩ := mulB ha.z0 ha.z1 hb.z0 hb.z1
  have HIW : Hid (wrap64 (wrap64 (wrap64 (wrap64 (a0 * b0) - wrap64 (a1 * b1)) - wrap64 (a2 * b2)) - wrap64 (a3 * b3)) = qW a0 a1 a2 a3 b0 b1 b2 b3) := by
    show _ = _
    unfold qW wrap64
    omega
  have HIX : Hid (wrap64 (wrap64 (wrap64 (wrap64 (a0 * b1) + wrap64 (a1 * b0)) + wrap64 (a2 * b3)) - wrap64 (a3 * b2)) = qX a0 a1 a2 a3 b0 b1 b2 b3) := by
    show _ = _
    unfold qX wrap64
    omega
  have HIY : Hid (wrap64 (wrap64 (wrap64 (wrap64 (a0 * b2) - wrap64 (a1 * b3)) + wrap64 (a2 * b0)) + wrap64 (a3 * b1)) = qY a0 a1 a2 a3 b0 b1 b2 b3) := by
    show _ = _
    unfold qY wrap64
    omega
  have HIZ : Hid (wrap64 (wrap64 (wrap64 (wrap64 (a0 * b3) + wrap64 (a1 * b2)) - wrap64 (a2 * b1)) + wrap64 (a3 * b0)) = qZ a0 a1 a2 a3 b0 b1 b2 b3) := by
    show _ = _
    unfold qZ wrap64
    omega
  clear ha hb l00 u00 l01 u01 l02 u02 l03 u03 l10 u10 l11 u11 l12 u12 l13 u13 l20 u20 l21 u21 l22 u22 l23 u23 l30 u30 l31 u31 l32 u32 l33 u33
  go_enter Tryd.func50, Tryd.ntmps50
  go_wp2_with fail
  exact bodyPost_ret (v := tv (wrap64 (wrap64 (wrap64 (wrap64 (a0 * b0) - wrap64 (a1 * b1)) - wrap64 (a2 * b2)) - wrap64 (a3 * b3))) (wrap64 (wrap64 (wrap64 (wrap64 (a0 * b1) + wrap64 (a1 * b0)) + wrap64 (a2 * b3)) - wrap64 (a3 * b2))) (wrap64 (wrap64 (wrap64 (wrap64 (a0 * b2) - wrap64 (a1 * b3)) + wrap64 (a2 * b0)) + wrap64 (a3 * b1))) (wrap64 (wrap64 (wrap64 (wrap64 (a0 * b3) + wrap64 (a1 * b2)) - wrap64 (a2 * b1)) + wrap64 (a3 * b0)))) (by simp [results, Tryd.results50, go_sem]) rfl ⟨by rw [HIW.out, HIX.out, HIY.out, HIZ.out], bnext (bnext (bnew w _) (Nat.le_refl _) (bnew _ _)) (Nat.le_refl _) (bnew _ _)⟩

set_option maxRecDepth 100000 in
set_option maxHeartbeats 4000000 in
theorem behind_any (a0 a1 a2 a3 b0 b1 b2 b3 : Int) (ha : Sml 1000 a0 a1 a2 a3) (hb : Sml 1000 b0 b1 b2 b3) (w : World) :
    Calls Tryd.prog 59 #[tv a0 a1 a2 a3, tv b0 b1 b2 b3] w fun e w' => e = .returned (tv ((qW a0 a1 a2 a3 b0 b1 b2 b3).tdiv 2) ((qX a0 a1 a2 a3 b0 b1 b2 b3).tdiv 2) ((qY a0 a1 a2 a3 b0 b1 b2 b3).tdiv 2) ((qZ a0 a1 a2 a3 b0 b1 b2 b3).tdiv 2)) ∧ Below w.heap.size w w' := by
  obtain ⟨l00, u00⟩ := mulB ha.w0 ha.w1 hb.w0 hb.w1
  obtain ⟨l01, u01⟩ := mulB ha.w0 ha.w1 hb.x0 hb.x1
  obtain ⟨l02, u02⟩ := mulB ha.w0 ha.w1 hb.y0 hb.y1
  obtain ⟨l03, u03⟩ := mulB ha.w0 ha.w1 hb.z0 hb.z1
  obtain ⟨l10, u10⟩ := mulB ha.x0 ha.x1 hb.w0 hb.w1
  obtain ⟨l11, u11⟩ := mulB ha.x0 ha.x1 hb.x0 hb.x1
  obtain ⟨l12, u12⟩ := mulB ha.x0 ha.x1 hb.y0 hb.y1
  obtain ⟨l13, u13⟩ := mulB ha.x0 ha.x1 hb.z0 hb.z1
  obtain ⟨l20, u20⟩ := mulB ha.y0 ha.y1 hb.w0 hb.w1
  obtain ⟨l21, u21⟩ := mulB ha.y0 ha.y1 hb.x0 hb.x1
  obtain ⟨l22, u22⟩ := mulB ha.y0 ha.y1 hb.y0 hb.y1
  obtain ⟨l23, u23⟩ := mulB ha.y0 ha.y1 hb.z0 hb.z1
  obtain ⟨l30, u30⟩ := mulB ha.z0 ha.z1 hb.w0 hb.w1
  obtain ⟨l31, u31⟩ := mulB ha.z0 ha.z1 hb.x0 hb.x1
  obtain ⟨l32, u32⟩ := mulB ha.z0 ha.z1 hb.y0 hb.y1
  obtain ⟨l33, u33⟩ := mulB ha.z0 ha.z1 hb.z0 hb.z1
  have HIW : Hid (wrap64 (wrap64 (wrap64 (wrap64 (a0 * b0) - wrap64 (a1 * b1)) - wrap64 (a2 * b2)) - wrap64 (a3 * b3)) = qW a0 a1 a2 a3 b0 b1 b2 b3) := by
    show _ = _
    unfold qW wrap64
    omega
  have HIX : Hid (wrap64 (wrap64 (wrap64 (wrap64 (a0 * b1) + wrap64 (a1 * b0)) + wrap64 (a2 * b3)) - wrap64 (a3 * b2)) = qX a0 a1 a2 a3 b0 b1 b2 b3) := by
    show _ = _
    unfold qX wrap64
    omega
  have HIY : Hid (wrap64 (wrap64 (wrap64 (wrap64 (a0 * b2) - wrap64 (a1 * b3)) + wrap64 (a2 * b0)) + wrap64 (a3 * b1)) = qY a0 a1 a2 a3 b0 b1 b2 b3) := by
    show _ = _
    unfold qY wrap64
    omega
  have HIZ : Hid (wrap64 (wrap64 (wrap64 (wrap64 (a0 * b3) + wrap64 (a1 * b2)) - wrap64 (a2 * b1)) + wrap64 (a3 * b0)) = qZ a0 a1 a2 a3 b0 b1 b2 b3) := by
    show _ = _
    unfold qZ wrap64
    omega
  have HEW : Hid (wrap64 ((wrap64 (wrap64 (wrap64 (wrap64 (a0 * b0) - wrap64 (a1 * b1)) - wrap64 (a2 * b2)) - wrap64 (a3 * b3))).tdiv 2) = (qW a0 a1 a2 a3 b0 b1 b2 b3).tdiv 2) := by
    show _ = _
    rw [HIW.out]
    have hb2 : -1000000000 ≤ qW a0 a1 a2 a3 b0 b1 b2 b3 ∧ qW a0 a1 a2 a3 b0 b1 b2 b3 ≤ 1000000000 := by unfold qW; omega
    have := tdiv2 hb2.1 hb2.2
    rw [IntKind.wrap_i64] at this
    unfold wrap64
    exact this
  have HEX : Hid (wrap64 ((wrap64 (wrap64 (wrap64 (wrap64 (a0 * b1) + wrap64 (a1 * b0)) + wrap64 (a2 * b3)) - wrap64 (a3 * b2))).tdiv 2) = (qX a0 a1 a2 a3 b0 b1 b2 b3).tdiv 2) := by
    show _ = _
    rw [HIX.out]
    have hb2 : -1000000000 ≤ qX a0 a1 a2 a3 b0 b1 b2 b3 ∧ qX a0 a1 a2 a3 b0 b1 b2 b3 ≤ 1000000000 := by unfold qX; omega
    have := tdiv2 hb2.1 hb2.2
    rw [IntKind.wrap_i64] at this
    unfold wrap64
    exact this
  have HEY : Hid (wrap64 ((wrap64 (wrap64 (wrap64 (wrap64 (a0 * b2) - wrap64 (a1 * b3)) + wrap64 (a2 * b0)) + wrap64 (a3 * b1))).tdiv 2) = (qY a0 a1 a2 a3 b0 b1 b2 b3).tdiv 2) := by
    show _ = _
    rw [HIY.out]
    have hb2 : -1000000000 ≤ qY a0 a1 a2 a3 b0 b1 b2 b3 ∧ qY a0 a1 a2 a3 b0 b1 b2 b3 ≤ 1000000000 := by unfold qY; omega
    have := tdiv2 hb2.1 hb2.2
    rw [IntKind.wrap_i64] at this
    unfold wrap64
    exact this
  have HEZ : Hid (wrap64 ((wrap64 (wrap64 (wrap64 (wrap64 (a0 * b3) + wrap64 (a1 * b2)) - wrap64 (a2 * b1)) + wrap64 (a3 * b0))).tdiv 2) = (qZ a0 a1 a2 a3 b0 b1 b2 b3).tdiv 2) := by
    show _ = _
    rw [HIZ.out]
    have hb2 : -1000000000 ≤ qZ a0 a1 a2 a3 b0 b1 b2 b3 ∧ qZ a0 a1 a2 a3 b0 b1 b2 b3 ≤ 1000000000 := by unfold qZ; omega
    have := tdiv2 hb2.1 hb2.2
    rw [IntKind.wrap_i64] at this
    unfold wrap64
    exact this
  clear ha hb l00 u00 l01 u01 l02 u02 l03 u03 l10 u10 l11 u11 l12 u12 l13 u13 l20 u20 l21 u21 l22 u22 l23 u23 l30 u30 l31 u31 l32 u32 l33 u33 HIW HIX HIY HIZ
  go_enter Tryd.func59, Tryd.ntmps59
  go_wp2_with fail
  exact bodyPost_ret (v := tv (wrap64 ((wrap64 (wrap64 (wrap64 (wrap64 (a0 * b0) - wrap64 (a1 * b1)) - wrap64 (a2 * b2)) - wrap64 (a3 * b3))).tdiv 2)) (wrap64 ((wrap64 (wrap64 (wrap64 (wrap64 (a0 * b1) + wrap64 (a1 * b0)) + wrap64 (a2 * b3)) - wrap64 (a3 * b2))).tdiv 2)) (wrap64 ((wrap64 (wrap64 (wrap64 (wrap64 (a0 * b2) - wrap64 (a1 * b3)) + wrap64 (a2 * b0)) + wrap64 (a3 * b1))).tdiv 2)) (wrap64 ((wrap64 (wrap64 (wrap64 (wrap64 (a0 * b3) + wrap64 (a1 * b2)) - wrap64 (a2 * b1)) + wrap64 (a3 * b0))).tdiv 2))) (by simp [results, Tryd.results59, go_sem]) rfl ⟨by rw [HEW.out, HEX.out, HEY.out, HEZ.out], bnext (bnext (bnew w _) (Nat.le_refl _) (bnew _ _)) (Nat.le_refl _) (bnew _ _)⟩

end Go.Proofs.YtkgkdhocmglklaaDoor

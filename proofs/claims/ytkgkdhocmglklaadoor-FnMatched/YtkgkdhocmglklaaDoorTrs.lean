/- Turns: copies, comparisons, when one is right, the way back, products. -/
import Derived.Test.YtkgkdhocmglklaaDoorTrm
import Derived.Deep.RegionHeld
import Derived.BigRegion
namespace Go.Proofs.YtkgkdhocmglklaaDoor
open Go.RowKit

theorem px4 (a b c d : Int) (w : World) (t : TypeId) : Px (some ⟨w.heap.size, 0, none⟩) 4 (q4 a b c d) (w.alloc (.cells #[.int .i64 a, .int .i64 b, .int .i64 c, .int .i64 d] t)) := by
  have H := (St.start w).box [.int .i64 a, .int .i64 b, .int .i64 c, .int .i64 d] t
  have h0 := H.cell 0 rfl 0 rfl
  have h1 := H.cell 0 rfl 1 rfl
  have h2 := H.cell 0 rfl 2 rfl
  have h3 := H.cell 0 rfl 3 rfl
  have f0 := H.free 0 rfl 0 rfl
  have f1 := H.free 0 rfl 1 rfl
  have f2 := H.free 0 rfl 2 rfl
  have f3 := H.free 0 rfl 3 rfl
  have hr : Row w.heap.size 4 (q4 a b c d) (w.alloc (.cells #[.int .i64 a, .int .i64 b, .int .i64 c, .int .i64 d] t)) := fun k hk => by
    match k, hk with
    | 0, _ => exact ⟨h0, f0⟩
    | 1, _ => exact ⟨h1, f1⟩
    | 2, _ => exact ⟨h2, f2⟩
    | 3, _ => exact ⟨h3, f3⟩
  exact hr.px

set_option maxRecDepth 100000 in
set_option maxHeartbeats 2000000 in
theorem implTurnOk_any (a b c d : Int) (w : World) :
    Calls Tryd.prog 24 #[tv a b c d] w fun e w' => e = .returned (.bool (tkB a b c d)) ∧ Below w.heap.size w w' := by
  obtain ⟨w1, hw1⟩ : ∃ w1, w1 = w.alloc (.cells #[.int .i64 a, .int .i64 b, .int .i64 c, .int .i64 d] 28) := ⟨_, rfl⟩
  have c1 := allWithin_any (-2) 2 _ 4 4 (q4 a b c d) (by omega) _ (px4 a b c d w1 2)
  rw [hw1] at c1
  clear hw1 w1
  rw [show (w.alloc (.cells #[.int .i64 a, .int .i64 b, .int .i64 c, .int .i64 d] 28)).heap.size = w.heap.size + 1 by simp] at c1
  cases hq : alW (q4 a b c d) (-2) 2 4
  · have HF : Hid (tkB a b c d = false) := by show _ = _; unfold tkB; rw [hq]; rfl
    rw [hq] at c1
    clear hq
    go_enter Tryd.func24, Tryd.ntmps24
    go_wp2_with fail
    refine c1.mono ?_
    rintro e w' ⟨rfl, rfl⟩
    go_wp2_with fail
    go_ret
    exact ⟨by rw [HF.out]; rfl, bnext (bnew w _) (Nat.le_refl _) (bnew _ _)⟩
  have hs : Sml 2 a b c d := by
    have g : ∀ k, k < 4 → -2 ≤ q4 a b c d k ∧ q4 a b c d k ≤ 2 := fun k hk => by
      have := alW_at hq hk
      unfold inB at this
      simpa using this
    have g0 := g 0 (by omega)
    have g1 := g 1 (by omega)
    have g2 := g 2 (by omega)
    have g3 := g 3 (by omega)
    simp only [q4] at g0 g1 g2 g3
    exact ⟨g0.1, g0.2, g1.1, g1.2, g2.1, g2.2, g3.1, g3.2⟩
  have HF : Hid (tkB a b c d = decide (a * a + b * b + c * c + d * d = 4)) := by show _ = _; unfold tkB; rw [hq]; rfl
  obtain ⟨l0, u0⟩ := mulB hs.w0 hs.w1 hs.w0 hs.w1
  obtain ⟨l1, u1⟩ := mulB hs.x0 hs.x1 hs.x0 hs.x1
  obtain ⟨l2, u2⟩ := mulB hs.y0 hs.y1 hs.y0 hs.y1
  obtain ⟨l3, u3⟩ := mulB hs.z0 hs.z1 hs.z0 hs.z1
  rw [hq] at c1
  have HE : Hid (wrap64 (wrap64 (wrap64 (wrap64 (a * a) + wrap64 (b * b)) + wrap64 (c * c)) + wrap64 (d * d)) = a * a + b * b + c * c + d * d) := by
    show _ = _
    unfold wrap64
    omega
  clear hq hs l0 u0 l1 u1 l2 u2 l3 u3
  go_enter Tryd.func24, Tryd.ntmps24
  go_wp2_with fail
  refine c1.mono ?_
  rintro e w' ⟨rfl, rfl⟩
  go_wp2_with fail
  go_ret
  refine ⟨?_, bnext (bnew w _) (Nat.le_refl _) (bnew _ _)⟩
  rw [HF.out, ← HE.out]
  rfl

set_option maxRecDepth 100000 in
theorem l1Ab_any (x : Int) (w : World) :
    Calls Tryd.prog 49 #[.int .i64 x] w fun e w' => e = .returned (.int .i64 (ab x)) ∧ w' = w := by
  unfold ab
  by_cases h : x < 0
  · rw [if_pos h]
    obtain ⟨y, hy⟩ : ∃ y, IntKind.i64.wrap (-x) = y := ⟨_, rfl⟩
    rw [hy]
    go_enter Tryd.func49, Tryd.ntmps49
    go_wp2_with fail
    go_ret
    exact ⟨rfl, rfl⟩
  · rw [if_neg h]
    go_enter Tryd.func49, Tryd.ntmps49
    go_wp2_with fail
    go_ret
    exact ⟨rfl, rfl⟩

end Go.Proofs.YtkgkdhocmglklaaDoor

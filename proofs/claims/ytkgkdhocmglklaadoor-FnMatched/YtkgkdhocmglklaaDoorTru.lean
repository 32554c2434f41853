/- Turns: the way back, and products of right ones. -/
import Derived.Test.YtkgkdhocmglklaaDoorTrt
import Derived.Test.YtkgkdhocmglklaaDoorRVol
namespace Go.Proofs.YtkgkdhocmglklaaDoor
open Go.RowKit

/-- a number where a turn is right, else 0 -/
def tif (p : Bool) (v : Int) : Int := if p = true then v else 0

theorem St.fill4 {w0 : World} {L : List BoxT} {O : List OwnT} {w : World} {c : Nat} {x0 x1 x2 x3 : Value} (h : St w0 ((c, [x0, x1, x2, x3]) :: L) O w) (v0 v1 v2 v3 : Value) :
    St w0 ((c, [v0, v1, v2, v3]) :: L) O ((((w.setCell ⟨c, 0, none⟩ v0).setCell ⟨c, 1, none⟩ v1).setCell ⟨c, 2, none⟩ v2).setCell ⟨c, 3, none⟩ v3) :=
  St.fill (L1 := []) (St.fill (L1 := []) (St.fill (L1 := []) (St.fill (L1 := []) h 0 v0) 1 v1) 2 v2) 3 v3

set_option maxRecDepth 100000 in
set_option maxHeartbeats 1000000 in
theorem back_any (a b c d : Int) (h : Sml 1000 a b c d) (w : World) :
    Calls Tryd.prog 60 #[tv a b c d] w fun e w' => e = .returned (tv a (-b) (-c) (-d)) ∧ Below w.heap.size w w' := by
  have u1 : IntKind.i64.wrap (-b) = -b := by have := h.x0; have := h.x1; rw [IntKind.wrap_i64]; omega
  have u2 : IntKind.i64.wrap (-c) = -c := by have := h.y0; have := h.y1; rw [IntKind.wrap_i64]; omega
  have u3 : IntKind.i64.wrap (-d) = -d := by have := h.z0; have := h.z1; rw [IntKind.wrap_i64]; omega
  clear h
  go_enter Tryd.func60, Tryd.ntmps60
  go_wp2_with fail
  refine bodyPost_ret (v := tv a (-b) (-c) (-d)) (by simp [results, Tryd.results60, go_sem]) rfl ⟨rfl, ?_⟩
  repeat (first | exact Below.refl _ _ | refine Below.setCell ?_ (by first | (simp; done) | (simp; omega)) _ | refine Below.alloc ?_ (by first | (simp; done) | (simp; omega)) _)

/-- a number of 64 bits -/
def I64 (x : Int) : Prop := -9223372036854775808 ≤ x ∧ x ≤ 9223372036854775807

set_option maxRecDepth 100000 in
set_option maxHeartbeats 2000000 in
theorem specTurnBack_any (a b c d : Int) (ha : I64 a) (hb' : I64 b) (hc : I64 c) (hd : I64 d) (w : World) :
    Calls Tryd.prog 51 #[tv a b c d] w fun e w' => e = .returned (tv (tif (tkB a b c d) a) (tif (tkB a b c d) (-b)) (tif (tkB a b c d) (-c)) (tif (tkB a b c d) (-d))) ∧ Below w.heap.size w w' := by
  have c1 := fun w' => specTurnOk_any a b c d ha hb' hc hd w'
  have HS0 := hide (((St.start w).box [.int .i64 a, .int .i64 b, .int .i64 c, .int .i64 d] 28).box' [.int .i64 0, .int .i64 0, .int .i64 0, .int .i64 0] 28 (b := w.heap.size + 1) (by simp))
  clear ha hb' hc hd
  unfold tif
  cases hq : tkB a b c d
  · simp only [hq] at c1
    simp only [Bool.false_eq_true, if_false]
    clear hq
    go_enter Tryd.func51, Tryd.ntmps51
    go_wp2_with fail
    refine (c1 _).mono ?_
    rintro e w1 ⟨rfl, hb⟩
    have HS1 := hide (HS0.out.next hb)
    obtain ⟨i0, i1, i2, i3⟩ := HS1.out.im4 0 rfl
    obtain ⟨e0, e1, e2, e3⟩ := HS1.out.fr4 0 rfl
    have HE := hide (HS1.out.fill4 (.int .i64 0) (.int .i64 0) (.int .i64 0) (.int .i64 0))
    clear hb HS0 HS1 c1
    go_wp2_with fail
    exact bodyPost_ret (v := tv 0 0 0 0) (by simp [results, Tryd.results51, go_sem, i0, i1, i2, i3]) rfl ⟨rfl, HE.out.below⟩
  have hs := (tkB_sml hq).1
  have u1 : IntKind.i64.wrap (-b) = -b := by have := hs.x0; have := hs.x1; rw [IntKind.wrap_i64]; omega
  have u2 : IntKind.i64.wrap (-c) = -c := by have := hs.y0; have := hs.y1; rw [IntKind.wrap_i64]; omega
  have u3 : IntKind.i64.wrap (-d) = -d := by have := hs.z0; have := hs.z1; rw [IntKind.wrap_i64]; omega
  simp only [hq] at c1
  simp only [if_true]
  clear hq hs
  go_enter Tryd.func51, Tryd.ntmps51
  go_wp2_with fail
  refine (c1 _).mono ?_
  rintro e w1 ⟨rfl, hb⟩
  have HS1 := hide (HS0.out.next hb)
  obtain ⟨i0, i1, i2, i3⟩ := HS1.out.im4 1 rfl
  obtain ⟨j0, j1, j2, j3⟩ := HS1.out.im4 0 rfl
  obtain ⟨e0, e1, e2, e3⟩ := HS1.out.fr4 0 rfl
  have HE := hide (HS1.out.fill4 (.int .i64 a) (.int .i64 (-b)) (.int .i64 (-c)) (.int .i64 (-d)))
  clear hb HS0 HS1 c1
  go_wp2_with fail
  exact bodyPost_ret (v := tv a (-b) (-c) (-d)) (by simp [results, Tryd.results51, go_sem, j0, j1, j2, j3]) rfl ⟨rfl, HE.out.below⟩

end Go.Proofs.YtkgkdhocmglklaaDoor

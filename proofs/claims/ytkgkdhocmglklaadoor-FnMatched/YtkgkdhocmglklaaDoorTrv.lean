/- Turns: products of right ones. -/
import Derived.Test.YtkgkdhocmglklaaDoorTru
namespace Go.Proofs.YtkgkdhocmglklaaDoor
open Go.RowKit

theorem Sml.wide {a b c d : Int} (hs : Sml 2 a b c d) : Sml 1000 a b c d :=
  ⟨by have := hs.w0; omega, by have := hs.w1; omega, by have := hs.x0; omega, by have := hs.x1; omega, by have := hs.y0; omega, by have := hs.y1; omega, by have := hs.z0; omega, by have := hs.z1; omega⟩

set_option maxRecDepth 100000 in
set_option maxHeartbeats 2000000 in
theorem ofRight_any (K : Nat) (hK : ∀ ar w, Sem.run Tryd.prog (callFunc K ar) w = .ok (.enter K ar) w) (a0 a1 a2 a3 b0 b1 b2 b3 r0 r1 r2 r3 : Int)
    (hc : tkB a0 a1 a2 a3 = true → tkB b0 b1 b2 b3 = true → ∀ w, Calls Tryd.prog K #[tv a0 a1 a2 a3, tv b0 b1 b2 b3] w fun e w' => e = .returned (tv r0 r1 r2 r3) ∧ Below w.heap.size w w') (w : World) :
    Calls Tryd.prog 53 #[.func (.func K) #[] #[], tv a0 a1 a2 a3, tv b0 b1 b2 b3] w fun e w' =>
      e = .returned (tv (tif (tkB a0 a1 a2 a3 && tkB b0 b1 b2 b3) r0) (tif (tkB a0 a1 a2 a3 && tkB b0 b1 b2 b3) r1) (tif (tkB a0 a1 a2 a3 && tkB b0 b1 b2 b3) r2) (tif (tkB a0 a1 a2 a3 && tkB b0 b1 b2 b3) r3)) ∧ Below w.heap.size w w' := by
  have c1 := fun w' => implTurnOk_any a0 a1 a2 a3 w'
  have c2 := fun w' => implTurnOk_any b0 b1 b2 b3 w'
  have HS0 := hide ((((St.start w).box [.int .i64 a0, .int .i64 a1, .int .i64 a2, .int .i64 a3] 28).box' [.int .i64 b0, .int .i64 b1, .int .i64 b2, .int .i64 b3] 28 (b := w.heap.size + 1) (by simp)).box' [.int .i64 0, .int .i64 0, .int .i64 0, .int .i64 0] 28 (b := w.heap.size + 2) (by simp))
  have HC := hide hc
  unfold tif
  clear hc
  cases hq : tkB a0 a1 a2 a3
  · simp only [hq] at c1
    simp only [Bool.false_and, Bool.false_eq_true, if_false]
    clear hq HC c2
    go_enter Tryd.func53, Tryd.ntmps53
    go_wp2_with fail
    refine (c1 _).mono ?_
    rintro e w1 ⟨rfl, hb⟩
    have HS1 := hide (HS0.out.next hb)
    obtain ⟨i0, i1, i2, i3⟩ := HS1.out.im4 0 rfl
    obtain ⟨e0, e1, e2, e3⟩ := HS1.out.fr4 0 rfl
    have HE := hide (HS1.out.fill4 (.int .i64 0) (.int .i64 0) (.int .i64 0) (.int .i64 0))
    clear hb HS0 HS1 c1
    go_wp2_with fail
    exact bodyPost_ret (v := tv 0 0 0 0) (by simp [results, Tryd.results53, go_sem, i0, i1, i2, i3]) rfl ⟨rfl, HE.out.below⟩
  cases hp : tkB b0 b1 b2 b3
  · simp only [hq] at c1
    simp only [hp] at c2
    simp only [Bool.and_false, Bool.false_eq_true, if_false]
    clear hq hp HC
    go_enter Tryd.func53, Tryd.ntmps53
    go_wp2_with fail
    refine (c1 _).mono ?_
    rintro e w1 ⟨rfl, hb⟩
    have HS1 := hide (HS0.out.next hb)
    obtain ⟨i0, i1, i2, i3⟩ := HS1.out.im4 1 rfl
    clear hb HS0 c1
    go_wp2_with fail
    refine (c2 _).mono ?_
    rintro e w2 ⟨rfl, hb⟩
    have HS2 := hide (HS1.out.next hb)
    clear i0 i1 i2 i3 HS1 hb
    obtain ⟨i0, i1, i2, i3⟩ := HS2.out.im4 0 rfl
    obtain ⟨e0, e1, e2, e3⟩ := HS2.out.fr4 0 rfl
    have HE := hide (HS2.out.fill4 (.int .i64 0) (.int .i64 0) (.int .i64 0) (.int .i64 0))
    clear HS2 c2
    go_wp2_with fail
    exact bodyPost_ret (v := tv 0 0 0 0) (by simp [results, Tryd.results53, go_sem, i0, i1, i2, i3]) rfl ⟨rfl, HE.out.below⟩
  have cF := HC.out hq hp
  simp only [hq] at c1
  simp only [hp] at c2
  simp only [Bool.and_self, if_true]
  clear hq hp HC
  go_enter Tryd.func53, Tryd.ntmps53
  go_wp2_with fail
  refine (c1 _).mono ?_
  rintro e w1 ⟨rfl, hb⟩
  have HS1 := hide (HS0.out.next hb)
  obtain ⟨i0, i1, i2, i3⟩ := HS1.out.im4 1 rfl
  clear hb HS0 c1
  go_wp2_with fail
  refine (c2 _).mono ?_
  rintro e w2 ⟨rfl, hb⟩
  have HS2 := hide (HS1.out.next hb)
  clear i0 i1 i2 i3 HS1 hb c2
  obtain ⟨i0, i1, i2, i3⟩ := HS2.out.im4 2 rfl
  obtain ⟨j0, j1, j2, j3⟩ := HS2.out.im4 1 rfl
  go_wp2_with fail
  refine (cF _).mono ?_
  rintro e w3 ⟨rfl, hb⟩
  have HS3 := hide (HS2.out.next hb)
  clear i0 i1 i2 i3 j0 j1 j2 j3 HS2 hb cF
  obtain ⟨i0, i1, i2, i3⟩ := HS3.out.im4 0 rfl
  obtain ⟨e0, e1, e2, e3⟩ := HS3.out.fr4 0 rfl
  have HE := hide (HS3.out.fill4 (.int .i64 r0) (.int .i64 r1) (.int .i64 r2) (.int .i64 r3))
  clear HS3
  go_wp2_with fail
  exact bodyPost_ret (v := tv r0 r1 r2 r3) (by simp [results, Tryd.results53, go_sem, i0, i1, i2, i3]) rfl ⟨rfl, HE.out.below⟩

/-- a part of the product of two turns -/
def tmv (q : Int → Int → Int → Int → Int → Int → Int → Int → Int) (a0 a1 a2 a3 b0 b1 b2 b3 : Int) : Int := tif (tkB a0 a1 a2 a3 && tkB b0 b1 b2 b3) ((q a0 a1 a2 a3 b0 b1 b2 b3).tdiv 2)

end Go.Proofs.YtkgkdhocmglklaaDoor

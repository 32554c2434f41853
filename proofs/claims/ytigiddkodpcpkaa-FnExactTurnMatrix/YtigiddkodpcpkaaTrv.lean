/- Turns: products of right ones. -/
import Derived.Test.YtigiddkodpcpkaaTru
namespace Go.Proofs.Ytigiddkodpcpkaa
open Go.RowKit

theorem Sml.wide {a b c d : Int} (hs : Sml 2 a b c d) : Sml 1000 a b c d :=
  ⟨by have := hs.w0; omega, by have := hs.w1; omega, by have := hs.x0; omega, by have := hs.x1; omega, by have := hs.y0; omega, by have := hs.y1; omega, by have := hs.z0; omega, by have := hs.z1; omega⟩

set_option maxRecDepth 100000 in
set_option maxHeartbeats 2000000 in
theorem ofRight_any (K : Nat) (hK : ∀ ar w, Sem.run Try.prog (callFunc K ar) w = .ok (.enter K ar) w) (a0 a1 a2 a3 b0 b1 b2 b3 r0 r1 r2 r3 : Int)
    (hc : tkB a0 a1 a2 a3 = true → tkB b0 b1 b2 b3 = true → ∀ w, Calls Try.prog K #[tv a0 a1 a2 a3, tv b0 b1 b2 b3] w fun e w' => e = .returned (tv r0 r1 r2 r3) ∧ Below w.heap.size w w') (w : World) :
    Calls Try.prog 60 #[.func (.func K) #[] #[], tv a0 a1 a2 a3, tv b0 b1 b2 b3] w fun e w' =>
      e = .returned (tv (tif (tkB a0 a1 a2 a3 && tkB b0 b1 b2 b3) r0) (tif (tkB a0 a1 a2 a3 && tkB b0 b1 b2 b3) r1) (tif (tkB a0 a1 a2 a3 && tkB b0 b1 b2 b3) r2) (tif (tkB a0 a1 a2 a3 && tkB b0 b1 b2 b3) r3)) ∧ Below w.heap.size w w' := by
  have c1 := fun w' => implTurnOk_any a0 a1 a2 a3 w'
  have c2 := fun w' => implTurnOk_any b0 b1 b2 b3 w'
  have HS0 := hide ((((St.start w).box [.int .i64 a0, .int .i64 a1, .int .i64 a2, .int .i64 a3] 32).box' [.int .i64 b0, .int .i64 b1, .int .i64 b2, .int .i64 b3] 32 (b := w.heap.size + 1) (by simp)).box' [.int .i64 0, .int .i64 0, .int .i64 0, .int .i64 0] 32 (b := w.heap.size + 2) (by simp))
  have HC := hide hc
  unfold tif
  clear hc
  cases hq : tkB a0 a1 a2 a3
  · simp only [hq] at c1
    simp only [Bool.false_and, Bool.false_eq_true, if_false]
    clear hq HC c2
    go_enter Try.func60, Try.ntmps60
    go_wp2_with fail
    refine (c1 _).mono ?_
    rintro e w1 ⟨rfl, hb⟩
    have HS1 := hide (HS0.out.next hb)
    obtain ⟨i0, i1, i2, i3⟩ := HS1.out.im4 0 rfl
    obtain ⟨e0, e1, e2, e3⟩ := HS1.out.fr4 0 rfl
    have HE := hide (HS1.out.fill4 (.int .i64 0) (.int .i64 0) (.int .i64 0) (.int .i64 0))
    clear hb HS0 HS1 c1
    go_wp2_with fail
    exact bodyPost_ret (v := tv 0 0 0 0) (by simp [results, Try.results60, go_sem, i0, i1, i2, i3]) rfl ⟨rfl, HE.out.below⟩
  cases hp : tkB b0 b1 b2 b3
  · simp only [hq] at c1
    simp only [hp] at c2
    simp only [Bool.and_false, Bool.false_eq_true, if_false]
    clear hq hp HC
    go_enter Try.func60, Try.ntmps60
    go_wp2_with fail
    refine (c1 _).mono ?_
    rintro e w1 ⟨rfl, hb⟩
    have HS1 := hide (HS0.out.next hb)
    obtain ⟨i0, i1, i2, i3⟩ := HS1.out.im4 1 rfl
    clear hb HS0 c1
    go_wp2_with fail
    refine (c2 _).mono ?_
    rintro e w2 ⟨rfl, hb⟩
    have HS2 := hide (HS1.out.next hb)
    clear i0 i1 i2 i3 HS1 hb
    obtain ⟨i0, i1, i2, i3⟩ := HS2.out.im4 0 rfl
    obtain ⟨e0, e1, e2, e3⟩ := HS2.out.fr4 0 rfl
    have HE := hide (HS2.out.fill4 (.int .i64 0) (.int .i64 0) (.int .i64 0) (.int .i64 0))
    clear HS2 c2
    go_wp2_with fail
    exact bodyPost_ret (v := tv 0 0 0 0) (by simp [results, Try.results60, go_sem, i0, i1, i2, i3]) rfl ⟨rfl, HE.out.below⟩
  have cF := HC.out hq hp
  simp only [hq] at c1
  simp only [hp] at c2
  simp only [Bool.and_self, if_true]
  clear hq hp HC
  go_enter Try.func60, Try.ntmps60
  go_wp2_with fail
  refine (c1 _).mono ?_
  rintro e w1 ⟨rfl, hb⟩
  have HS1 := hide (HS0.out.next hb)
  obtain ⟨i0, i1, i2, i3⟩ := HS1.out.im4 1 rfl
  clear hb HS0 c1
  go_wp2_with fail
  refine (c2 _).mono ?_
  rintro e w2 ⟨rfl, hb⟩
  have HS2 := hide (HS1.out.next hb)
  clear i0 i1 i2 i3 HS1 hb c2
  obtain ⟨i0, i1, i2, i3⟩ := HS2.out.im4 2 rfl
  obtain ⟨j0, j1, j2, j3⟩ := HS2.out.im4 1 rfl
  go_wp2_with fail
  refine (cF _).mono ?_
  rintro e w3 ⟨rfl, hb⟩
  have HS3 := hide (HS2.out.next hb)
  clear i0 i1 i2 i3 j0 j1 j2 j3 HS2 hb cF
  obtain ⟨i0, i1, i2, i3⟩ := HS3.out.im4 0 rfl
  obtain ⟨e0, e1, e2, e3⟩ := HS3.out.fr4 0 rfl
  have HE := hide (HS3.out.fill4 (.int .i64 r0) (.int .i64 r1) (.int .i64 r2) (.int .i64 r3))
  clear HS3
  go_wp2_with fail
  exact bodyPost_ret (v := tv r0 r1 r2 r3) (by simp [results, Try.results60, go_sem, i0, i1, i2, i3]) rfl ⟨rfl, HE.out.below⟩

/-- a part of the product of two turns -/
def tmv (q : Int → Int → Int → Int → Int → Int → Int → Int → Int) (a0 a1 a2 a3 b0 b1 b2 b3 : Int) : Int := tif (tkB a0 a1 a2 a3 && tkB b0 b1 b2 b3) ((q a0 a1 a2 a3 b0 b1 b2 b3).tdiv 2)

set_option maxRecDepth 100000 in
set_option maxHeartbeats 2000000 in
theorem implTurnMul_any (a0 a1 a2 a3 b0 b1 b2 b3 : Int) (w : World) :
    Calls Try.prog 22 #[tv a0 a1 a2 a3, tv b0 b1 b2 b3] w fun e w' =>
      e = .returned (tv (tmv qW a0 a1 a2 a3 b0 b1 b2 b3) (tmv qX a0 a1 a2 a3 b0 b1 b2 b3) (tmv qY a0 a1 a2 a3 b0 b1 b2 b3) (tmv qZ a0 a1 a2 a3 b0 b1 b2 b3)) ∧ Below w.heap.size w w' := by
  have c := fun w' => ofRight_any 61 (fun _ _ => rfl) a0 a1 a2 a3 b0 b1 b2 b3 _ _ _ _ (fun h1 h2 w => behind_any a0 a1 a2 a3 b0 b1 b2 b3 (tkB_sml h1).1.wide (tkB_sml h2).1.wide w) w'
  unfold tmv
  generalize tif (tkB a0 a1 a2 a3 && tkB b0 b1 b2 b3) ((qW a0 a1 a2 a3 b0 b1 b2 b3).tdiv 2) = r0 at *
  generalize tif (tkB a0 a1 a2 a3 && tkB b0 b1 b2 b3) ((qX a0 a1 a2 a3 b0 b1 b2 b3).tdiv 2) = r1 at *
  generalize tif (tkB a0 a1 a2 a3 && tkB b0 b1 b2 b3) ((qY a0 a1 a2 a3 b0 b1 b2 b3).tdiv 2) = r2 at *
  generalize tif (tkB a0 a1 a2 a3 && tkB b0 b1 b2 b3) ((qZ a0 a1 a2 a3 b0 b1 b2 b3).tdiv 2) = r3 at *
  have HS0 := hide ((((St.start w).box [.int .i64 a0, .int .i64 a1, .int .i64 a2, .int .i64 a3] 32).box' [.int .i64 b0, .int .i64 b1, .int .i64 b2, .int .i64 b3] 32 (b := w.heap.size + 1) (by simp)).box' [.int .i64 0, .int .i64 0, .int .i64 0, .int .i64 0] 32 (b := w.heap.size + 2) (by simp))
  go_enter Try.func22, Try.ntmps22
  go_wp2_with fail
  refine (c _).mono ?_
  rintro e w1 ⟨rfl, hb⟩
  have HS1 := hide (HS0.out.next hb)
  obtain ⟨i0, i1, i2, i3⟩ := HS1.out.im4 0 rfl
  obtain ⟨e0, e1, e2, e3⟩ := HS1.out.fr4 0 rfl
  have HE := hide (HS1.out.fill4 (.int .i64 r0) (.int .i64 r1) (.int .i64 r2) (.int .i64 r3))
  clear hb HS0 HS1 c
  go_wp2_with fail
  exact bodyPost_ret (v := tv r0 r1 r2 r3) (by simp [results, Try.results22, go_sem, i0, i1, i2, i3]) rfl ⟨rfl, HE.out.below⟩

set_option maxRecDepth 100000 in
set_option maxHeartbeats 2000000 in
theorem specTurnMul_any (a0 a1 a2 a3 b0 b1 b2 b3 : Int) (ha0 : I64 a0) (ha1 : I64 a1) (ha2 : I64 a2) (ha3 : I64 a3) (hb0 : I64 b0) (hb1 : I64 b1) (hb2 : I64 b2) (hb3 : I64 b3) (w : World) :
    Calls Try.prog 21 #[tv a0 a1 a2 a3, tv b0 b1 b2 b3] w fun e w' =>
      e = .returned (tv (tmv qW a0 a1 a2 a3 b0 b1 b2 b3) (tmv qX a0 a1 a2 a3 b0 b1 b2 b3) (tmv qY a0 a1 a2 a3 b0 b1 b2 b3) (tmv qZ a0 a1 a2 a3 b0 b1 b2 b3)) ∧ Below w.heap.size w w' := by
  have c1 := fun w' => specTurnOk_any a0 a1 a2 a3 ha0 ha1 ha2 ha3 w'
  have c2 := fun w' => specTurnOk_any b0 b1 b2 b3 hb0 hb1 hb2 hb3 w'
  have HS0 := hide ((((St.start w).box [.int .i64 a0, .int .i64 a1, .int .i64 a2, .int .i64 a3] 32).box' [.int .i64 b0, .int .i64 b1, .int .i64 b2, .int .i64 b3] 32 (b := w.heap.size + 1) (by simp)).box' [.int .i64 0, .int .i64 0, .int .i64 0, .int .i64 0] 32 (b := w.heap.size + 2) (by simp))
  clear ha0 ha1 ha2 ha3 hb0 hb1 hb2 hb3
  unfold tmv tif
  cases hq : tkB a0 a1 a2 a3
  · simp only [hq] at c1
    simp only [Bool.false_and, Bool.false_eq_true, if_false]
    clear hq c2
    go_enter Try.func21, Try.ntmps21
    go_wp2_with fail
    refine (c1 _).mono ?_
    rintro e w1 ⟨rfl, hb⟩
    have HS1 := hide (HS0.out.next hb)
    obtain ⟨i0, i1, i2, i3⟩ := HS1.out.im4 0 rfl
    obtain ⟨e0, e1, e2, e3⟩ := HS1.out.fr4 0 rfl
    have HE := hide (HS1.out.fill4 (.int .i64 0) (.int .i64 0) (.int .i64 0) (.int .i64 0))
    clear hb HS0 HS1 c1
    go_wp2_with fail
    exact bodyPost_ret (v := tv 0 0 0 0) (by simp [results, Try.results21, go_sem, i0, i1, i2, i3]) rfl ⟨rfl, HE.out.below⟩
  cases hp : tkB b0 b1 b2 b3
  · simp only [hq] at c1
    simp only [hp] at c2
    simp only [Bool.and_false, Bool.false_eq_true, if_false]
    clear hq hp
    go_enter Try.func21, Try.ntmps21
    go_wp2_with fail
    refine (c1 _).mono ?_
    rintro e w1 ⟨rfl, hb⟩
    have HS1 := hide (HS0.out.next hb)
    obtain ⟨i0, i1, i2, i3⟩ := HS1.out.im4 1 rfl
    clear hb HS0 c1
    go_wp2_with fail
    refine (c2 _).mono ?_
    rintro e w2 ⟨rfl, hb⟩
    have HS2 := hide (HS1.out.next hb)
    clear i0 i1 i2 i3 HS1 hb
    obtain ⟨i0, i1, i2, i3⟩ := HS2.out.im4 0 rfl
    obtain ⟨e0, e1, e2, e3⟩ := HS2.out.fr4 0 rfl
    have HE := hide (HS2.out.fill4 (.int .i64 0) (.int .i64 0) (.int .i64 0) (.int .i64 0))
    clear HS2 c2
    go_wp2_with fail
    exact bodyPost_ret (v := tv 0 0 0 0) (by simp [results, Try.results21, go_sem, i0, i1, i2, i3]) rfl ⟨rfl, HE.out.below⟩
  have hsa := (tkB_sml hq).1
  have hsb := (tkB_sml hp).1
  have cM := fun w' => l10Mul_any a0 a1 a2 a3 b0 b1 b2 b3 hsa.wide hsb.wide w'
  have hW : -1000000000 ≤ qW a0 a1 a2 a3 b0 b1 b2 b3 ∧ qW a0 a1 a2 a3 b0 b1 b2 b3 ≤ 1000000000 := by
    have p0 := mulB hsa.w0 hsa.w1 hsb.w0 hsb.w1
    have p1 := mulB hsa.x0 hsa.x1 hsb.x0 hsb.x1
    have p2 := mulB hsa.y0 hsa.y1 hsb.y0 hsb.y1
    have p3 := mulB hsa.z0 hsa.z1 hsb.z0 hsb.z1
    unfold qW; omega
  have hX : -1000000000 ≤ qX a0 a1 a2 a3 b0 b1 b2 b3 ∧ qX a0 a1 a2 a3 b0 b1 b2 b3 ≤ 1000000000 := by
    have p0 := mulB hsa.w0 hsa.w1 hsb.x0 hsb.x1
    have p1 := mulB hsa.x0 hsa.x1 hsb.w0 hsb.w1
    have p2 := mulB hsa.y0 hsa.y1 hsb.z0 hsb.z1
    have p3 := mulB hsa.z0 hsa.z1 hsb.y0 hsb.y1
    unfold qX; omega
  have hY : -1000000000 ≤ qY a0 a1 a2 a3 b0 b1 b2 b3 ∧ qY a0 a1 a2 a3 b0 b1 b2 b3 ≤ 1000000000 := by
    have p0 := mulB hsa.w0 hsa.w1 hsb.y0 hsb.y1
    have p1 := mulB hsa.x0 hsa.x1 hsb.z0 hsb.z1
    have p2 := mulB hsa.y0 hsa.y1 hsb.w0 hsb.w1
    have p3 := mulB hsa.z0 hsa.z1 hsb.x0 hsb.x1
    unfold qY; omega
  have hZ : -1000000000 ≤ qZ a0 a1 a2 a3 b0 b1 b2 b3 ∧ qZ a0 a1 a2 a3 b0 b1 b2 b3 ≤ 1000000000 := by
    have p0 := mulB hsa.w0 hsa.w1 hsb.z0 hsb.z1
    have p1 := mulB hsa.x0 hsa.x1 hsb.y0 hsb.y1
    have p2 := mulB hsa.y0 hsa.y1 hsb.x0 hsb.x1
    have p3 := mulB hsa.z0 hsa.z1 hsb.w0 hsb.w1
    unfold qZ; omega
  have d0 := tdiv2 hW.1 hW.2
  have d1 := tdiv2 hX.1 hX.2
  have d2 := tdiv2 hY.1 hY.2
  have d3 := tdiv2 hZ.1 hZ.2
  generalize qW a0 a1 a2 a3 b0 b1 b2 b3 = QW at *
  generalize qX a0 a1 a2 a3 b0 b1 b2 b3 = QX at *
  generalize qY a0 a1 a2 a3 b0 b1 b2 b3 = QY at *
  generalize qZ a0 a1 a2 a3 b0 b1 b2 b3 = QZ at *
  simp only [hq] at c1
  simp only [hp] at c2
  simp only [Bool.and_self, if_true]
  clear hq hp hsa hsb hW hX hY hZ
  go_enter Try.func21, Try.ntmps21
  go_wp2_with fail
  refine (c1 _).mono ?_
  rintro e w1 ⟨rfl, hb⟩
  have HS1 := hide (HS0.out.next hb)
  obtain ⟨i0, i1, i2, i3⟩ := HS1.out.im4 1 rfl
  clear hb HS0 c1
  go_wp2_with fail
  refine (c2 _).mono ?_
  rintro e w2 ⟨rfl, hb⟩
  have HS2 := hide (HS1.out.next hb)
  clear i0 i1 i2 i3 HS1 hb c2
  obtain ⟨i0, i1, i2, i3⟩ := HS2.out.im4 2 rfl
  obtain ⟨j0, j1, j2, j3⟩ := HS2.out.im4 1 rfl
  go_wp2_with fail
  refine (cM _).mono ?_
  rintro e w3 ⟨rfl, hb⟩
  clear i0 i1 i2 i3 j0 j1 j2 j3
  have HS3 := hide ((HS2.out.next hb).box [.int .i64 QW, .int .i64 QX, .int .i64 QY, .int .i64 QZ] 32)
  have lt := (HS2.out.next hb).ltB 0 rfl
  have lt2 : w.heap.size + 2 ≠ w3.heap.size := by omega
  clear HS2 hb cM
  obtain ⟨i0, i1, i2, i3⟩ := HS3.out.im4 1 rfl
  obtain ⟨e0, e1, e2, e3⟩ := HS3.out.fr4 1 rfl
  have HE := hide (St.fill (L1 := [_]) (St.fill (L1 := [_]) (St.fill (L1 := [_]) (St.fill (L1 := [_]) HS3.out 0 (.int .i64 (QW.tdiv 2))) 1 (.int .i64 (QX.tdiv 2))) 2 (.int .i64 (QY.tdiv 2))) 3 (.int .i64 (QZ.tdiv 2)))
  clear HS3 lt
  go_wp2_with fail
  exact bodyPost_ret (v := tv (QW.tdiv 2) (QX.tdiv 2) (QY.tdiv 2) (QZ.tdiv 2)) (by simp [results, Try.results21, go_sem, i0, i1, i2, i3]) rfl ⟨rfl, HE.out.below⟩

end Go.Proofs.Ytigiddkodpcpkaa

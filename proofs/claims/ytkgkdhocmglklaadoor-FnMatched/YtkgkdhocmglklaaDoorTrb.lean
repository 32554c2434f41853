/- The matrix of a turn: the program, its loop. -/
import Derived.Test.YtkgkdhocmglklaaDoorTra
import Derived.Deep.RegionHeld
import Derived.BigRegion
namespace Go.Proofs.YtkgkdhocmglklaaDoor
open Go.RowKit

/-- the columns that are there when k axes are through -/
def mcI (m : Nat → Int) (k j : Nat) : Int := if j % 3 < k then m j else 0
/-- nine cells -/
abbrev c9 (g : Nat → Int) : List Value := [.int .i64 (g 0), .int .i64 (g 1), .int .i64 (g 2), .int .i64 (g 3), .int .i64 (g 4), .int .i64 (g 5), .int .i64 (g 6), .int .i64 (g 7), .int .i64 (g 8)]
abbrev mat9 (g : Nat → Int) : Value := .agg #[.int .i64 (g 0), .int .i64 (g 1), .int .i64 (g 2), .int .i64 (g 3), .int .i64 (g 4), .int .i64 (g 5), .int .i64 (g 6), .int .i64 (g 7), .int .i64 (g 8)]

theorem mtx_wrap {a b c d : Int} (ht : tkB a b c d = true) {k : Nat} (hk : k < 9) {r : Int} (h : r.tdiv 2 = mtx a b c d k) : IntKind.i64.wrap (r.tdiv 2) = mtx a b c d k := by
  have := mtx_all _ (tk_mem ht) ⟨k, hk⟩
  simp only at this
  rw [h, IntKind.wrap_i64]
  omega

set_option maxRecDepth 100000 in
set_option maxHeartbeats 4000000 in
theorem matrixOfTurn_any (a b c d : Int) (ht : tkB a b c d = true) (w : World) :
    Calls Tryd.prog 25 #[tv a b c d] w fun e w' => e = .returned (mat9 (mtx a b c d)) ∧ Below w.heap.size w w' := by
  have hs := (tkB_sml ht).1
  have cO := fun (x y z : Int) (hx : -2 ≤ x ∧ x ≤ 2) (hy : -2 ≤ y ∧ y ≤ 2) (hz : -2 ≤ z ∧ z ≤ 2) (w' : World) =>
    ofRight_any 54 (fun _ _ => rfl) a b c d 0 x y z _ _ _ _ (fun _ _ w => around_any a b c d x y z hs hx hy hz w) w'
  have g0 := cO 2 0 0 (by omega) (by omega) (by omega)
  have e0 := rX_all _ (tk_mem ht) 0
  have k0 : (tkB a b c d && tkB 0 2 0 0) = true := by rw [ht]; rfl
  simp only [tif_t' k0] at g0
  have u00 : (aro qX a b c d 2 0 0).tdiv 2 = mtx a b c d 0 := e0.1
  have u01 : (aro qY a b c d 2 0 0).tdiv 2 = mtx a b c d 3 := e0.2.1
  have u02 : (aro qZ a b c d 2 0 0).tdiv 2 = mtx a b c d 6 := e0.2.2
  have v00 := mtx_wrap ht (by omega) u00
  have v01 := mtx_wrap ht (by omega) u01
  have v02 := mtx_wrap ht (by omega) u02
  clear e0 k0 u00 u01 u02
  generalize aro qW a b c d 2 0 0 = s00 at *
  generalize aro qX a b c d 2 0 0 = s01 at *
  generalize aro qY a b c d 2 0 0 = s02 at *
  generalize aro qZ a b c d 2 0 0 = s03 at *
  have G0 := hide g0
  have V0 : Hid (_ ∧ _ ∧ _) := ⟨v00, v01, v02⟩
  clear g0 v00 v01 v02
  have g1 := cO 0 2 0 (by omega) (by omega) (by omega)
  have e1 := rX_all _ (tk_mem ht) 1
  have k1 : (tkB a b c d && tkB 0 0 2 0) = true := by rw [ht]; rfl
  simp only [tif_t' k1] at g1
  have u10 : (aro qX a b c d 0 2 0).tdiv 2 = mtx a b c d 1 := e1.1
  have u11 : (aro qY a b c d 0 2 0).tdiv 2 = mtx a b c d 4 := e1.2.1
  have u12 : (aro qZ a b c d 0 2 0).tdiv 2 = mtx a b c d 7 := e1.2.2
  have v10 := mtx_wrap ht (by omega) u10
  have v11 := mtx_wrap ht (by omega) u11
  have v12 := mtx_wrap ht (by omega) u12
  clear e1 k1 u10 u11 u12
  generalize aro qW a b c d 0 2 0 = s10 at *
  generalize aro qX a b c d 0 2 0 = s11 at *
  generalize aro qY a b c d 0 2 0 = s12 at *
  generalize aro qZ a b c d 0 2 0 = s13 at *
  have G1 := hide g1
  have V1 : Hid (_ ∧ _ ∧ _) := ⟨v10, v11, v12⟩
  clear g1 v10 v11 v12
  have g2 := cO 0 0 2 (by omega) (by omega) (by omega)
  have e2 := rX_all _ (tk_mem ht) 2
  have k2 : (tkB a b c d && tkB 0 0 0 2) = true := by rw [ht]; rfl
  simp only [tif_t' k2] at g2
  have u20 : (aro qX a b c d 0 0 2).tdiv 2 = mtx a b c d 2 := e2.1
  have u21 : (aro qY a b c d 0 0 2).tdiv 2 = mtx a b c d 5 := e2.2.1
  have u22 : (aro qZ a b c d 0 0 2).tdiv 2 = mtx a b c d 8 := e2.2.2
  have v20 := mtx_wrap ht (by omega) u20
  have v21 := mtx_wrap ht (by omega) u21
  have v22 := mtx_wrap ht (by omega) u22
  clear e2 k2 u20 u21 u22
  generalize aro qW a b c d 0 0 2 = s20 at *
  generalize aro qX a b c d 0 0 2 = s21 at *
  generalize aro qY a b c d 0 0 2 = s22 at *
  generalize aro qZ a b c d 0 0 2 = s23 at *
  have G2 := hide g2
  have V2 : Hid (_ ∧ _ ∧ _) := ⟨v20, v21, v22⟩
  clear g2 v20 v21 v22
  clear cO hs ht
  generalize mtx a b c d = m at *
  have HS0 := hide ((((St.start w).box [.int .i64 a, .int .i64 b, .int .i64 c, .int .i64 d] 28).box' (c9 fun _ => 0) 54 (b := w.heap.size + 1) (by simp)).box' (c9 fun _ => 0) 54 (b := w.heap.size + 1 + 1) (by simp))
  go_enter Tryd.func25, Tryd.ntmps25
  go_wp2_with fail
  go_loopw [12] (fun i wr => ∃ k : Nat, k ≤ 3 ∧ i = .int .i64 k ∧ St w [(w.heap.size + 1 + 1, c9 (mcI m k)), (w.heap.size + 1, c9 fun _ => 0), (w.heap.size, [.int .i64 a, .int .i64 b, .int .i64 c, .int .i64 d])] [] wr) (fun i _ => 3 - (intOf i).toNat)
  case atStart => exact ⟨0, by omega, rfl, HS0.out⟩
  case round =>
    obtain ⟨k, hk, rfl, hs⟩ := hrel
    have HS := hide hs
    clear hs HS0
    have hk' : k = 0 ∨ k = 1 ∨ k = 2 ∨ k = 3 := by omega
    clear hk
    rcases hk' with rfl | rfl | rfl | rfl
    · have HS1 := hide (HS.out.box [.int .i64 0, .int .i64 2, .int .i64 0, .int .i64 0] 28)
      obtain ⟨i0, i1, i2, i3⟩ := HS1.out.im4 3 rfl
      obtain ⟨j0, j1, j2, j3⟩ := HS1.out.im4 0 rfl
      have hlt : decide (((0 : Nat) : Int) < 3) = true := by simp
      have hix : ∀ w', (Instr.index 80 (.agg #[.int .i64 0, .int .i64 2, .int .i64 0, .int .i64 0, .int .i64 0, .int .i64 0, .int .i64 2, .int .i64 0, .int .i64 0, .int .i64 0, .int .i64 0, .int .i64 2]) (.int .i64 0)).run Tryd.prog w' = .ok (.agg #[.int .i64 0, .int .i64 2, .int .i64 0, .int .i64 0]) w' := fun _ => rfl
      have cG := G0.out
      go_wp2_with fail
      refine (cG _).mono ?_
      rintro e w2 ⟨rfl, hb⟩
      have HS2 := hide ((HS1.out.next hb).box [.int .i64 s00, .int .i64 s01, .int .i64 s02, .int .i64 s03] 28)
      clear hb cG HS1 i0 i1 i2 i3 j0 j1 j2 j3
      generalize hA : w2.alloc (.cells [.int .i64 s00, .int .i64 s01, .int .i64 s02, .int .i64 s03].toArray 28) = w3 at HS2
      have hA' : w2.alloc (.cells #[.int .i64 s00, .int .i64 s01, .int .i64 s02, .int .i64 s03] 28) = w3 := hA
      clear hA
      obtain ⟨i0, i1, i2, i3⟩ := HS2.out.im4 0 rfl
      have HF1 := hide (St.fill (L1 := [_, _]) HS2.out 0 (.int .i64 (m 0)))
      have HF2 := hide (St.fill (L1 := [_, _]) HF1.out 3 (.int .i64 (m 3)))
      have HE := hide (St.fill (L1 := [_, _]) HF2.out 6 (.int .i64 (m 6)))
      have f0 := HS2.out.free 2 rfl 0 rfl
      have d0 := HS2.out.cell 2 rfl 0 rfl
      have f1 := HF1.out.free 2 rfl 3 rfl
      have d1 := HF1.out.cell 2 rfl 3 rfl
      have f2 := HF2.out.free 2 rfl 6 rfl
      have d2 := HF2.out.cell 2 rfl 6 rfl
      obtain ⟨x0, x1, x2, x3⟩ := HF1.out.im4 0 rfl
      obtain ⟨y0, y1, y2, y3⟩ := HF2.out.im4 0 rfl
      clear HF1 HF2
      obtain ⟨v0, v1, v2⟩ := V0.out
      clear HS2
      go_wp2_with fail
      go_region
      go_wp2_with fail
      exact ⟨⟨1, by omega, rfl, HE.out.drew.sub (List.Sublist.cons _ (List.Sublist.cons _ (List.Sublist.refl _))) (List.Sublist.refl _)⟩, by simp [intOf]⟩
    · have HS1 := hide (HS.out.box [.int .i64 0, .int .i64 0, .int .i64 2, .int .i64 0] 28)
      obtain ⟨i0, i1, i2, i3⟩ := HS1.out.im4 3 rfl
      obtain ⟨j0, j1, j2, j3⟩ := HS1.out.im4 0 rfl
      have hlt : decide (((1 : Nat) : Int) < 3) = true := by simp
      have hix : ∀ w', (Instr.index 80 (.agg #[.int .i64 0, .int .i64 2, .int .i64 0, .int .i64 0, .int .i64 0, .int .i64 0, .int .i64 2, .int .i64 0, .int .i64 0, .int .i64 0, .int .i64 0, .int .i64 2]) (.int .i64 1)).run Tryd.prog w' = .ok (.agg #[.int .i64 0, .int .i64 0, .int .i64 2, .int .i64 0]) w' := fun _ => rfl
      have cG := G1.out
      go_wp2_with fail
      refine (cG _).mono ?_
      rintro e w2 ⟨rfl, hb⟩
      have HS2 := hide ((HS1.out.next hb).box [.int .i64 s10, .int .i64 s11, .int .i64 s12, .int .i64 s13] 28)
      clear hb cG HS1 i0 i1 i2 i3 j0 j1 j2 j3
      generalize hA : w2.alloc (.cells [.int .i64 s10, .int .i64 s11, .int .i64 s12, .int .i64 s13].toArray 28) = w3 at HS2
      have hA' : w2.alloc (.cells #[.int .i64 s10, .int .i64 s11, .int .i64 s12, .int .i64 s13] 28) = w3 := hA
      clear hA
      obtain ⟨i0, i1, i2, i3⟩ := HS2.out.im4 0 rfl
      have HF1 := hide (St.fill (L1 := [_, _]) HS2.out 1 (.int .i64 (m 1)))
      have HF2 := hide (St.fill (L1 := [_, _]) HF1.out 4 (.int .i64 (m 4)))
      have HE := hide (St.fill (L1 := [_, _]) HF2.out 7 (.int .i64 (m 7)))
      have f0 := HS2.out.free 2 rfl 1 rfl
      have d0 := HS2.out.cell 2 rfl 1 rfl
      have f1 := HF1.out.free 2 rfl 4 rfl
      have d1 := HF1.out.cell 2 rfl 4 rfl
      have f2 := HF2.out.free 2 rfl 7 rfl
      have d2 := HF2.out.cell 2 rfl 7 rfl
      obtain ⟨x0, x1, x2, x3⟩ := HF1.out.im4 0 rfl
      obtain ⟨y0, y1, y2, y3⟩ := HF2.out.im4 0 rfl
      clear HF1 HF2
      obtain ⟨v0, v1, v2⟩ := V1.out
      clear HS2
      go_wp2_with fail
      go_region
      go_wp2_with fail
      exact ⟨⟨2, by omega, rfl, HE.out.drew.sub (List.Sublist.cons _ (List.Sublist.cons _ (List.Sublist.refl _))) (List.Sublist.refl _)⟩, by simp [intOf]⟩
    · have HS1 := hide (HS.out.box [.int .i64 0, .int .i64 0, .int .i64 0, .int .i64 2] 28)
      obtain ⟨i0, i1, i2, i3⟩ := HS1.out.im4 3 rfl
      obtain ⟨j0, j1, j2, j3⟩ := HS1.out.im4 0 rfl
      have hlt : decide (((2 : Nat) : Int) < 3) = true := by simp
      have hix : ∀ w', (Instr.index 80 (.agg #[.int .i64 0, .int .i64 2, .int .i64 0, .int .i64 0, .int .i64 0, .int .i64 0, .int .i64 2, .int .i64 0, .int .i64 0, .int .i64 0, .int .i64 0, .int .i64 2]) (.int .i64 2)).run Tryd.prog w' = .ok (.agg #[.int .i64 0, .int .i64 0, .int .i64 0, .int .i64 2]) w' := fun _ => rfl
      have cG := G2.out
      go_wp2_with fail
      refine (cG _).mono ?_
      rintro e w2 ⟨rfl, hb⟩
      have HS2 := hide ((HS1.out.next hb).box [.int .i64 s20, .int .i64 s21, .int .i64 s22, .int .i64 s23] 28)
      clear hb cG HS1 i0 i1 i2 i3 j0 j1 j2 j3
      generalize hA : w2.alloc (.cells [.int .i64 s20, .int .i64 s21, .int .i64 s22, .int .i64 s23].toArray 28) = w3 at HS2
      have hA' : w2.alloc (.cells #[.int .i64 s20, .int .i64 s21, .int .i64 s22, .int .i64 s23] 28) = w3 := hA
      clear hA
      obtain ⟨i0, i1, i2, i3⟩ := HS2.out.im4 0 rfl
      have HF1 := hide (St.fill (L1 := [_, _]) HS2.out 2 (.int .i64 (m 2)))
      have HF2 := hide (St.fill (L1 := [_, _]) HF1.out 5 (.int .i64 (m 5)))
      have HE := hide (St.fill (L1 := [_, _]) HF2.out 8 (.int .i64 (m 8)))
      have f0 := HS2.out.free 2 rfl 2 rfl
      have d0 := HS2.out.cell 2 rfl 2 rfl
      have f1 := HF1.out.free 2 rfl 5 rfl
      have d1 := HF1.out.cell 2 rfl 5 rfl
      have f2 := HF2.out.free 2 rfl 8 rfl
      have d2 := HF2.out.cell 2 rfl 8 rfl
      obtain ⟨x0, x1, x2, x3⟩ := HF1.out.im4 0 rfl
      obtain ⟨y0, y1, y2, y3⟩ := HF2.out.im4 0 rfl
      clear HF1 HF2
      obtain ⟨v0, v1, v2⟩ := V2.out
      clear HS2
      go_wp2_with fail
      go_region
      go_wp2_with fail
      exact ⟨⟨3, by omega, rfl, HE.out.drew.sub (List.Sublist.cons _ (List.Sublist.cons _ (List.Sublist.refl _))) (List.Sublist.refl _)⟩, by simp [intOf]⟩
    · obtain ⟨i0, i1, i2, i3⟩ := HS.out.im4 2 rfl
      have m0 := HS.out.cell 0 rfl 0 rfl
      have m1 := HS.out.cell 0 rfl 1 rfl
      have m2 := HS.out.cell 0 rfl 2 rfl
      have m3 := HS.out.cell 0 rfl 3 rfl
      have m4 := HS.out.cell 0 rfl 4 rfl
      have m5 := HS.out.cell 0 rfl 5 rfl
      have m6 := HS.out.cell 0 rfl 6 rfl
      have m7 := HS.out.cell 0 rfl 7 rfl
      have m8 := HS.out.cell 0 rfl 8 rfl
      have f0 := HS.out.free 1 rfl 0 rfl
      have f1 := HS.out.free 1 rfl 1 rfl
      have f2 := HS.out.free 1 rfl 2 rfl
      have f3 := HS.out.free 1 rfl 3 rfl
      have f4 := HS.out.free 1 rfl 4 rfl
      have f5 := HS.out.free 1 rfl 5 rfl
      have f6 := HS.out.free 1 rfl 6 rfl
      have f7 := HS.out.free 1 rfl 7 rfl
      have f8 := HS.out.free 1 rfl 8 rfl
      have z0 := HS.out.cell 1 rfl 0 rfl
      have z1 := HS.out.cell 1 rfl 1 rfl
      have z2 := HS.out.cell 1 rfl 2 rfl
      have z3 := HS.out.cell 1 rfl 3 rfl
      have z4 := HS.out.cell 1 rfl 4 rfl
      have z5 := HS.out.cell 1 rfl 5 rfl
      have z6 := HS.out.cell 1 rfl 6 rfl
      have z7 := HS.out.cell 1 rfl 7 rfl
      have z8 := HS.out.cell 1 rfl 8 rfl
      have hlt : decide (((3 : Nat) : Int) < 3) = false := by simp
      simp only [mcI] at m0 m1 m2 m3 m4 m5 m6 m7 m8
      simp at m0 m1 m2 m3 m4 m5 m6 m7 m8
      have HE := hide (St.fill (L1 := [_]) (St.fill (L1 := [_]) (St.fill (L1 := [_]) (St.fill (L1 := [_]) (St.fill (L1 := [_]) (St.fill (L1 := [_]) (St.fill (L1 := [_]) (St.fill (L1 := [_]) (St.fill (L1 := [_]) HS.out 0 (.int .i64 (m 0))) 1 (.int .i64 (m 1))) 2 (.int .i64 (m 2))) 3 (.int .i64 (m 3))) 4 (.int .i64 (m 4))) 5 (.int .i64 (m 5))) 6 (.int .i64 (m 6))) 7 (.int .i64 (m 7))) 8 (.int .i64 (m 8)))
      go_wp2_with fail
      exact bodyPost_ret (v := mat9 m) (by simp [results, Tryd.results25, go_sem, z0, z1, z2, z3, z4, z5, z6, z7, z8]) rfl ⟨rfl, HE.out.below⟩

end Go.Proofs.YtkgkdhocmglklaaDoor

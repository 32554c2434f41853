/- Is a frame, as one value, right. -/
import Derived.Test.YtpbeogepgjbacaaMap
import Derived.Test.YtpbeogepgjbacaaDt7
namespace Go.Proofs.Ytpbeogepgjbacaa
open Go.RowKit Go.Lib

def rightB (M T : Nat → Int) (D : Int) : Bool := limB M T D && (((mdiv M T D : Nat) : Int) == 1 && (sgn (det9 M) != 0))
theorem limB_parts {M T : Nat → Int} {D : Int} (h : limB M T D = true) : (∀ k, k < 9 → -1000000 ≤ M k ∧ M k ≤ 1000000) ∧ (∀ k, k < 3 → -1000000 ≤ T k ∧ T k ≤ 1000000) ∧ 1 ≤ D ∧ D ≤ 1000000 := by
  unfold limB at h
  simp only [Bool.and_eq_true] at h
  refine ⟨fun k hk => ?_, fun k hk => ?_, ?_⟩
  · have := alW_at h.1 hk
    unfold inB at this
    simpa using this
  · have := alW_at h.2.1 hk
    unfold inB at this
    simpa using this
  · have := h.2.2
    unfold inB at this
    simpa using this

set_option maxRecDepth 100000 in
set_option maxHeartbeats 4000000 in
theorem isRight_any (M T : Nat → Int) (D : Int) (w : World) :
    Calls Try.prog 43 #[mapV M T D] w fun e w' => e = .returned (.bool (rightB M T D)) ∧ Below w.heap.size w w' := by
  have HS0 := hide ((St.start w).box (c13 M T D) 60)
  have cL := isInLimits_any M T D
  unfold rightB
  unfold c13 at HS0
  cases hL : limB M T D
  · rw [hL] at cL
    clear hL
    unfold mapV at cL ⊢
    go_enter Try.func43, Try.ntmps43
    go_wp2_with fail
    refine (cL _).mono ?_
    rintro e w1 ⟨rfl, hb⟩
    have HB := hide (HS0.out.next hb).below
    clear hb cL HS0
    go_wp2_with fail
    go_ret
    exact ⟨rfl, HB.out⟩
  rw [hL] at cL
  obtain ⟨bM, bT, bD⟩ := limB_parts hL
  have cV := divisor_any M T D (fun k hk => by have := bM k hk; omega) (fun k hk => by have := bT k hk; omega) (by omega)
  have cD := determinant_any M bM
  have cS := wideSign_any (det9 M) (det9_bd bM)
  unfold mapV at cL cV ⊢
  unfold wd at cD cS
  unfold mat9 at cD
  clear bM bT bD hL
  generalize mdiv M T D = dv at *
  generalize det9 M / 18446744073709551616 = G at *
  generalize det9 M % 18446744073709551616 = L at *
  by_cases h1 : (dv : Int) = 1
  · have q1 : ((dv : Int) == 1) = true := beq_iff_eq.2 h1
    rw [q1]
    clear h1
    generalize sgn (det9 M) = sg at *
    go_enter Try.func43, Try.ntmps43
    go_wp2_with fail
    refine (cL _).mono ?_
    rintro e w1 ⟨rfl, hb⟩
    have HS1 := hide (HS0.out.next hb)
    clear hb cL HS0
    have v0 := HS1.out.cell 0 rfl 0 rfl
    have v1 := HS1.out.cell 0 rfl 1 rfl
    have v2 := HS1.out.cell 0 rfl 2 rfl
    have v3 := HS1.out.cell 0 rfl 3 rfl
    have v4 := HS1.out.cell 0 rfl 4 rfl
    have v5 := HS1.out.cell 0 rfl 5 rfl
    have v6 := HS1.out.cell 0 rfl 6 rfl
    have v7 := HS1.out.cell 0 rfl 7 rfl
    have v8 := HS1.out.cell 0 rfl 8 rfl
    have v9 := HS1.out.cell 0 rfl 9 rfl
    have v10 := HS1.out.cell 0 rfl 10 rfl
    have v11 := HS1.out.cell 0 rfl 11 rfl
    have v12 := HS1.out.cell 0 rfl 12 rfl
    go_wp2_with fail
    refine (cV _).mono ?_
    rintro e w2 ⟨rfl, hb⟩
    have HS2 := hide (HS1.out.next hb)
    clear hb cV HS1 v0 v1 v2 v3 v4 v5 v6 v7 v8 v9 v10 v11 v12
    have v0 := HS2.out.cell 0 rfl 0 rfl
    have v1 := HS2.out.cell 0 rfl 1 rfl
    have v2 := HS2.out.cell 0 rfl 2 rfl
    have v3 := HS2.out.cell 0 rfl 3 rfl
    have v4 := HS2.out.cell 0 rfl 4 rfl
    have v5 := HS2.out.cell 0 rfl 5 rfl
    have v6 := HS2.out.cell 0 rfl 6 rfl
    have v7 := HS2.out.cell 0 rfl 7 rfl
    have v8 := HS2.out.cell 0 rfl 8 rfl
    have v9 := HS2.out.cell 0 rfl 9 rfl
    have v10 := HS2.out.cell 0 rfl 10 rfl
    have v11 := HS2.out.cell 0 rfl 11 rfl
    have v12 := HS2.out.cell 0 rfl 12 rfl
    go_wp2_with fail
    refine (cD _).mono ?_
    rintro e w3 ⟨rfl, hb⟩
    have HS3 := hide (HS2.out.next hb)
    clear hb cD HS2 v0 v1 v2 v3 v4 v5 v6 v7 v8 v9 v10 v11 v12
    go_wp2_with fail
    refine (cS _).mono ?_
    rintro e w4 ⟨rfl, hb⟩
    have HB := hide (HS3.out.next hb).below
    clear hb cS HS3
    go_wp2_with fail
    go_ret
    exact ⟨by simp, HB.out⟩
  · have q1 : ((dv : Int) == 1) = false := beq_eq_false_iff_ne.2 h1
    rw [q1]
    clear h1 cD cS
    go_enter Try.func43, Try.ntmps43
    go_wp2_with fail
    refine (cL _).mono ?_
    rintro e w1 ⟨rfl, hb⟩
    have HS1 := hide (HS0.out.next hb)
    clear hb cL HS0
    have v0 := HS1.out.cell 0 rfl 0 rfl
    have v1 := HS1.out.cell 0 rfl 1 rfl
    have v2 := HS1.out.cell 0 rfl 2 rfl
    have v3 := HS1.out.cell 0 rfl 3 rfl
    have v4 := HS1.out.cell 0 rfl 4 rfl
    have v5 := HS1.out.cell 0 rfl 5 rfl
    have v6 := HS1.out.cell 0 rfl 6 rfl
    have v7 := HS1.out.cell 0 rfl 7 rfl
    have v8 := HS1.out.cell 0 rfl 8 rfl
    have v9 := HS1.out.cell 0 rfl 9 rfl
    have v10 := HS1.out.cell 0 rfl 10 rfl
    have v11 := HS1.out.cell 0 rfl 11 rfl
    have v12 := HS1.out.cell 0 rfl 12 rfl
    go_wp2_with fail
    refine (cV _).mono ?_
    rintro e w2 ⟨rfl, hb⟩
    have HB := hide (HS1.out.next hb).below
    clear hb cV HS1 v0 v1 v2 v3 v4 v5 v6 v7 v8 v9 v10 v11 v12
    go_wp2_with fail
    go_ret
    exact ⟨rfl, HB.out⟩

end Go.Proofs.Ytpbeogepgjbacaa

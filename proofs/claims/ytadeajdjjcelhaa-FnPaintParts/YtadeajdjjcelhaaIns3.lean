/- Which points a band has: the specification. -/
import Derived.Test.YtadeajdjjcelhaaIns2
namespace Go.Proofs.Ytadeajdjjcelhaa
open Go.RowKit

set_option maxHeartbeats 400000 in
theorem specIns3 (X Y A B C V x y : Int) (hS : shapeB 3 X Y A B C V = true) (hx : inB x (-100000) 100000 = true) (hy : inB y (-100000) 100000 = true) (w : World) :
    Calls Try.prog 18 #[sh 3 X Y A B C V, .int .i64 x, .int .i64 y] w fun e w' => e = .returned (.bool (insB 3 A B C (x - X) (y - Y))) ∧ Below w.heap.size w w' := by
  have cS := specShape_any 3 X Y A B C V
  have cx := l1In_any x (-100000) 100000
  have cy := l1In_any y (-100000) 100000
  obtain ⟨bX, bY, bA, bB, bC, _, c0, bAB⟩ := shape_bounds hS
  have bd := point_bounds hx bX
  have be := point_bounds hy bY
  rw [hS] at cS
  rw [hx] at cx
  rw [hy] at cy
  have wd : IntKind.i64.wrap (x - X) = x - X := wrapn bd (by omega)
  have we : IntKind.i64.wrap (y - Y) = y - Y := wrapn be (by omega)
  have HB0 : Hid (Below w.heap.size w (w.alloc (shCells 3 X Y A B C V 33))) := bnew _ _
  have HN0 : Hid (ShB w.heap.size 3 X Y A B C V (w.alloc (shCells 3 X Y A B C V 33))) := ShB.new _ _ _ _ _ _ _ _ _
  clear hS hx hy bX bY
  have m1 := natb bA bd
  have m2 := natb bB be
  have m3 := nata m1 m2
  have v1 := wrapn m1 (by omega)
  have v2 := wrapn m2 (by omega)
  have v3 := wrapn m3 (by omega)
  have ca := l1Abs_any (x - X) (by omega)
  have cb := l1Abs_any (y - Y) (by omega)
  have cc : ∀ z : Int, z = A * (x - X) + B * (y - Y) → ∀ w, Calls Try.prog 50 #[.int .i64 z] w fun e w' => e = .returned (.int .i64 (ab (A * (x - X) + B * (y - Y)))) ∧ w' = w := fun z hz => by
    subst hz; exact l1Abs_any _ (by omega)
  have hr : insB 3 A B C (x - X) (y - Y) = decide (ab (A * (x - X) + B * (y - Y)) ≤ C) := by rw [ab_le]; rfl
  rw [hr]
  have HV : Hid (IntKind.i64.wrap (IntKind.i64.wrap (A * IntKind.i64.wrap (x - X)) + IntKind.i64.wrap (B * IntKind.i64.wrap (y - Y))) = A * (x - X) + B * (y - Y)) := by
    show _ = _
    rw [wd, we, v1, v2, v3]
  clear hr bA bB bC c0 bAB bd be m1 m2 m3 v1 v2 v3
  generalize hP : ab (A * (x - X) + B * (y - Y)) = p at *
  go_enter Try.func18, Try.ntmps18
  go_wp2_with fail
  refine (cS _).mono ?_
  rintro e w1 ⟨rfl, hb⟩
  have HB1 : Hid (Below w.heap.size w w1) := bnext HB0.out (Nat.le_refl _) hb
  obtain ⟨s0, s1, s2, s3, s4, s5, s6⟩ := HN0.out.below hb
  clear hb cS HB0 HN0
  go_wp2_with fail
  refine (cx _).mono ?_
  rintro e w2 ⟨rfl, rfl⟩
  go_wp2_with fail
  refine (cy _).mono ?_
  rintro e w3 ⟨rfl, rfl⟩
  clear cx cy
  go_wp2_with fail
  refine (ca _).mono ?_
  rintro e w4 ⟨rfl, rfl⟩
  go_wp2_with fail
  refine (cb _).mono ?_
  rintro e w5 ⟨rfl, rfl⟩
  clear ca cb wd we
  go_upto_region 11 with fail
  go_quiet (first | (go_at_call 50; refine Calls.quiet_of_same (cc _ (by exact HV.out) _)))
  go_wp2_with fail
  go_ret
  exact ⟨rfl, below_drewN HB1.out _⟩

theorem kind_of {K X Y A B C V : Int} (h : shapeB K X Y A B C V = true) : K = 1 ∨ K = 2 ∨ K = 3 ∨ K = 4 := by
  unfold shapeB at h
  simp only [Bool.and_eq_true] at h
  obtain ⟨-, -, -, -, -, -, h⟩ := h
  unfold kindB at h
  split at h <;> first | omega | skip
  split at h <;> first | omega | skip
  split at h <;> first | omega | skip
  split at h <;> first | omega | skip
  cases h

/-- what the specification's Inside answers -/
theorem specIns_any (K X Y A B C V x y : Int) (w : World) :
    Calls Try.prog 18 #[sh K X Y A B C V, .int .i64 x, .int .i64 y] w fun e w' => e = .returned (.bool (insideB K X Y A B C V x y)) ∧ Below w.heap.size w w' := by
  cases h : (shapeB K X Y A B C V && (inB x (-100000) 100000 && inB y (-100000) 100000))
  · have e : insideB K X Y A B C V x y = false := by
      unfold insideB
      revert h
      generalize shapeB K X Y A B C V = p
      generalize inB x (-100000) 100000 = q
      generalize inB y (-100000) 100000 = r
      cases p <;> cases q <;> cases r <;> simp
    rw [e]
    exact specIns_no K X Y A B C V x y h w
  · simp only [Bool.and_eq_true] at h
    obtain ⟨hS, hx, hy⟩ := h
    have e : insideB K X Y A B C V x y = insB K A B C (x - X) (y - Y) := by
      unfold insideB; rw [hS, hx, hy]; simp
    rw [e]
    have hK := kind_of hS
    rcases hK with rfl | rfl | rfl | rfl
    · exact specIns1 X Y A B C V x y hS hx hy w
    · exact specIns2 X Y A B C V x y hS hx hy w
    · exact specIns3 X Y A B C V x y hS hx hy w
    · exact specIns4 X Y A B C V x y hS hx hy w

end Go.Proofs.Ytadeajdjjcelhaa

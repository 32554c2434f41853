/- Which points a band has: the specification. -/
import Derived.Test.YtedjnemijeaeoaaShape1
import Derived.Deep.DeepCutAuto
import Derived.Deep.RegionHeld
namespace Go.Proofs.Ytedjnemijeaeoaa
open Go.RowKit

/-- has the shape the point that lies so far from its place -/
def insB (K A B C d e : Int) : Bool :=
  if K = 1 then inB d (-A) A && inB e (-B) B else if K = 2 then decide (B * B * (d * d) + A * A * (e * e) ≤ A * A * (B * B)) else if K = 3 then inB (A * d + B * e) (-C) C else inB (d * d + e * e) (A * A) (B * B)

/-- what Inside answers -/
def insideB (K X Y A B C V x y : Int) : Bool := shapeB K X Y A B C V && (inB x (-100000) 100000 && (inB y (-100000) 100000 && insB K A B C (x - X) (y - Y)))

def ab (d : Int) : Int := if d < 0 then -d else d
theorem ab_natAbs (d : Int) : (ab d).natAbs = d.natAbs := by unfold ab; split <;> omega
theorem ab_nonneg (d : Int) : 0 ≤ ab d := by unfold ab; split <;> omega
theorem ab_mul (d : Int) : ab d * ab d = d * d := by
  unfold ab; split
  · rw [Int.neg_mul_neg]
  · rfl
theorem ab_le (d A : Int) : decide (ab d ≤ A) = inB d (-A) A := by
  unfold inB ab
  rw [Bool.eq_iff_iff]
  simp only [decide_eq_true_eq, Bool.and_eq_true]
  split <;> omega

theorem l1Abs_any (d : Int) (h : d.natAbs ≤ 4611686018427387904) (w : World) : Calls Try.prog 50 #[.int .i64 d] w fun e w' => e = .returned (.int .i64 (ab d)) ∧ w' = w := by
  by_cases hd : d < 0
  · have e : ab d = -d := if_pos hd
    rw [e]
    have hn : IntKind.i64.wrap (-d) = -d := wrapn (P := 4611686018427387904) (by omega) (by omega)
    go_enter Try.func50, Try.ntmps50
    go_wp2
    go_ret
    exact ⟨rfl, rfl⟩
  · have e : ab d = d := if_neg hd
    rw [e]
    go_enter Try.func50, Try.ntmps50
    go_wp2
    go_ret
    exact ⟨rfl, rfl⟩

theorem shape_bounds {K X Y A B C V : Int} (h : shapeB K X Y A B C V = true) : X.natAbs ≤ 1000 ∧ Y.natAbs ≤ 1000 ∧ A.natAbs ≤ 1000 ∧ B.natAbs ≤ 1000 ∧ C.natAbs ≤ 1000 ∧ V.natAbs ≤ 1000 ∧ 0 ≤ C ∧ (K ≠ 3 → 0 ≤ A ∧ 0 ≤ B) := by
  unfold shapeB inB low at h
  simp only [Bool.and_eq_true, decide_eq_true_eq] at h
  obtain ⟨h1, h2, h3, h4, h5, h6, _⟩ := h
  refine ⟨by omega, by omega, ?_, ?_, by omega, by omega, by omega, ?_⟩
  · split at h4 <;> omega
  · split at h5 <;> omega
  · intro hk
    rw [if_neg hk] at h4 h5
    omega

theorem point_bounds {x X : Int} (h : inB x (-100000) 100000 = true) (hX : X.natAbs ≤ 1000) : (x - X).natAbs ≤ 101000 := by
  unfold inB at h
  simp only [Bool.and_eq_true, decide_eq_true_eq] at h
  omega

end Go.Proofs.Ytedjnemijeaeoaa

namespace Go.Proofs.Ytedjnemijeaeoaa
open Go.RowKit

/-- a shape lies in the seven cells of a block -/
def ShB (b : Nat) (K X Y A B C V : Int) (w : World) : Prop :=
  w.cell? ⟨b, 0, none⟩ = some (.int .i64 K) ∧ w.cell? ⟨b, 1, none⟩ = some (.int .i64 X) ∧ w.cell? ⟨b, 2, none⟩ = some (.int .i64 Y) ∧ w.cell? ⟨b, 3, none⟩ = some (.int .i64 A) ∧ w.cell? ⟨b, 4, none⟩ = some (.int .i64 B) ∧ w.cell? ⟨b, 5, none⟩ = some (.int .i64 C) ∧ w.cell? ⟨b, 6, none⟩ = some (.int .i64 V)

theorem ShB.below {b : Nat} {K X Y A B C V : Int} {w w' : World} (h : ShB b K X Y A B C V w) (hb : Below w.heap.size w w') : ShB b K X Y A B C V w' := by
  have hl : b < w.heap.size := World.block_lt_of_cell? w _ h.1
  obtain ⟨h0, h1, h2, h3, h4, h5, h6⟩ := h
  exact ⟨(hb.cell (p := ⟨b, 0, none⟩) hl).trans h0, (hb.cell (p := ⟨b, 1, none⟩) hl).trans h1, (hb.cell (p := ⟨b, 2, none⟩) hl).trans h2, (hb.cell (p := ⟨b, 3, none⟩) hl).trans h3, (hb.cell (p := ⟨b, 4, none⟩) hl).trans h4, (hb.cell (p := ⟨b, 5, none⟩) hl).trans h5, (hb.cell (p := ⟨b, 6, none⟩) hl).trans h6⟩
theorem ShB.new (K X Y A B C V : Int) (t : TypeId) (w : World) : ShB w.heap.size K X Y A B C V (w.alloc (shCells K X Y A B C V t)) := by
  refine ⟨?_, ?_, ?_, ?_, ?_, ?_, ?_⟩ <;> simp [go_sem]
set_option maxHeartbeats 1000000 in
theorem specIns_no (K X Y A B C V x y : Int) (h : (shapeB K X Y A B C V && (inB x (-100000) 100000 && inB y (-100000) 100000)) = false) (w : World) :
    Calls Try.prog 27 #[sh K X Y A B C V, .int .i64 x, .int .i64 y] w fun e w' => e = .returned (.bool false) ∧ Below w.heap.size w w' := by
  have cS := specShape_any K X Y A B C V
  have cx := l1In_any x (-100000) 100000
  have cy := l1In_any y (-100000) 100000
  have HB0 : Hid (Below w.heap.size w (w.alloc (shCells K X Y A B C V 28))) := bnew _ _
  cases hS : shapeB K X Y A B C V
  · rw [hS] at cS
    clear h hS cx cy
    go_enter Try.func27, Try.ntmps27
    go_wp2_with fail
    refine (cS _).mono ?_
    rintro e w1 ⟨rfl, hb⟩
    have HB1 : Hid (Below w.heap.size w w1) := bnext HB0.out (Nat.le_refl _) hb
    clear hb cS
    go_wp2_with fail
    go_ret
    exact ⟨rfl, HB1.out⟩
  rw [hS] at cS h
  cases hx : inB x (-100000) 100000
  · rw [hx] at cx
    clear h hS cy hx
    go_enter Try.func27, Try.ntmps27
    go_wp2_with fail
    refine (cS _).mono ?_
    rintro e w1 ⟨rfl, hb⟩
    have HB1 : Hid (Below w.heap.size w w1) := bnext HB0.out (Nat.le_refl _) hb
    clear hb cS
    go_wp2_with fail
    refine (cx _).mono ?_
    rintro e w2 ⟨rfl, rfl⟩
    go_wp2_with fail
    go_ret
    exact ⟨rfl, HB1.out⟩
  rw [hx] at cx h
  have hy : inB y (-100000) 100000 = false := by simpa using h
  rw [hy] at cy
  clear h hS hx hy
  go_enter Try.func27, Try.ntmps27
  go_wp2_with fail
  refine (cS _).mono ?_
  rintro e w1 ⟨rfl, hb⟩
  have HB1 : Hid (Below w.heap.size w w1) := bnext HB0.out (Nat.le_refl _) hb
  clear hb cS
  go_wp2_with fail
  refine (cx _).mono ?_
  rintro e w2 ⟨rfl, rfl⟩
  go_wp2_with fail
  refine (cy _).mono ?_
  rintro e w3 ⟨rfl, rfl⟩
  go_wp2_with fail
  go_ret
  exact ⟨rfl, HB1.out⟩

set_option maxHeartbeats 2000000 in
theorem specIns1 (X Y A B C V x y : Int) (hS : shapeB 1 X Y A B C V = true) (hx : inB x (-100000) 100000 = true) (hy : inB y (-100000) 100000 = true) (w : World) :
    Calls Try.prog 27 #[sh 1 X Y A B C V, .int .i64 x, .int .i64 y] w fun e w' => e = .returned (.bool (insB 1 A B C (x - X) (y - Y))) ∧ Below w.heap.size w w' := by
  have cS := specShape_any 1 X Y A B C V
  have cx := l1In_any x (-100000) 100000
  have cy := l1In_any y (-100000) 100000
  obtain ⟨bX, bY, bA, bB, bC, _, c0, bAB⟩ := shape_bounds hS
  have bd := point_bounds hx bX
  have be := point_bounds hy bY
  rw [hS] at cS
  rw [hx] at cx
  rw [hy] at cy
  have wd : IntKind.i64.wrap (x - X) = x - X := wrapn bd (by omega)
  have we : IntKind.i64.wrap (y - Y) = y - Y := wrapn be (by omega)
  have HB0 : Hid (Below w.heap.size w (w.alloc (shCells 1 X Y A B C V 28))) := bnew _ _
  have HN0 : Hid (ShB w.heap.size 1 X Y A B C V (w.alloc (shCells 1 X Y A B C V 28))) := ShB.new _ _ _ _ _ _ _ _ _
  clear hS hx hy bX bY
  generalize hd : x - X = d at *
  generalize he : y - Y = f at *
  have ca := l1Abs_any d (by omega)
  have cb := l1Abs_any f (by omega)
  have hr : insB 1 A B C d f = (decide (ab d ≤ A) && decide (ab f ≤ B)) := by rw [ab_le, ab_le]; rfl
  rw [hr]
  clear hr bA bB bC c0 bAB bd be
  generalize ab d = p at *
  generalize ab f = q at *
  go_enter Try.func27, Try.ntmps27
  go_wp2_with fail
  refine (cS _).mono ?_
  rintro e w1 ⟨rfl, hb⟩
  have HB1 : Hid (Below w.heap.size w w1) := bnext HB0.out (Nat.le_refl _) hb
  obtain ⟨s0, s1, s2, s3, s4, s5, s6⟩ := HN0.out.below hb
  clear hb cS HB0 HN0
  go_wp2_with fail
  refine (cx _).mono ?_
  rintro e w2 ⟨rfl, rfl⟩
  go_wp2_with fail
  refine (cy _).mono ?_
  rintro e w3 ⟨rfl, rfl⟩
  clear cx cy
  go_wp2_with fail
  refine (ca _).mono ?_
  rintro e w4 ⟨rfl, rfl⟩
  go_wp2_with fail
  refine (cb _).mono ?_
  rintro e w5 ⟨rfl, rfl⟩
  clear ca cb
  by_cases g : p ≤ A
  · go_wp2_with fail
    go_ret
    exact ⟨by simp [g], HB1.out⟩
  · have HG : Hid (decide (p ≤ A) = false) := decide_eq_false g
    go_wp2_with fail
    go_ret
    exact ⟨by rw [HG.out]; rfl, HB1.out⟩

set_option maxHeartbeats 2000000 in
theorem specIns4 (X Y A B C V x y : Int) (hS : shapeB 4 X Y A B C V = true) (hx : inB x (-100000) 100000 = true) (hy : inB y (-100000) 100000 = true) (w : World) :
    Calls Try.prog 27 #[sh 4 X Y A B C V, .int .i64 x, .int .i64 y] w fun e w' => e = .returned (.bool (insB 4 A B C (x - X) (y - Y))) ∧ Below w.heap.size w w' := by
  have cS := specShape_any 4 X Y A B C V
  have cx := l1In_any x (-100000) 100000
  have cy := l1In_any y (-100000) 100000
  obtain ⟨bX, bY, bA, bB, bC, _, c0, bAB⟩ := shape_bounds hS
  have bd := point_bounds hx bX
  have be := point_bounds hy bY
  rw [hS] at cS
  rw [hx] at cx
  rw [hy] at cy
  have wd : IntKind.i64.wrap (x - X) = x - X := wrapn bd (by omega)
  have we : IntKind.i64.wrap (y - Y) = y - Y := wrapn be (by omega)
  have HB0 : Hid (Below w.heap.size w (w.alloc (shCells 4 X Y A B C V 28))) := bnew _ _
  have HN0 : Hid (ShB w.heap.size 4 X Y A B C V (w.alloc (shCells 4 X Y A B C V 28))) := ShB.new _ _ _ _ _ _ _ _ _
  clear hS hx hy bX bY
  generalize hd : x - X = d at *
  generalize he : y - Y = f at *
  have ca := l1Abs_any d (by omega)
  have cb := l1Abs_any f (by omega)
  have hr : insB 4 A B C d f = inB (ab d * ab d + ab f * ab f) (A * A) (B * B) := by rw [ab_mul, ab_mul]; rfl
  rw [hr]
  have bp : (ab d).natAbs ≤ 101000 := by rw [ab_natAbs]; exact bd
  have bq : (ab f).natAbs ≤ 101000 := by rw [ab_natAbs]; exact be
  generalize ab d = p at *
  generalize ab f = q at *
  have w1 : IntKind.i64.wrap (p * p) = p * p := wrapn (natb bp bp) (by omega)
  have w2 : IntKind.i64.wrap (q * q) = q * q := wrapn (natb bq bq) (by omega)
  have w3 : IntKind.i64.wrap (p * p + q * q) = p * p + q * q := wrapn (nata (natb bp bp) (natb bq bq)) (by omega)
  have w4 : IntKind.i64.wrap (A * A) = A * A := wrapn (natb bA bA) (by omega)
  have w5 : IntKind.i64.wrap (B * B) = B * B := wrapn (natb bB bB) (by omega)
  clear hr bA bB bC c0 bAB bd be bp bq
  go_enter Try.func27, Try.ntmps27
  go_wp2_with fail
  refine (cS _).mono ?_
  rintro e w1 ⟨rfl, hb⟩
  have HB1 : Hid (Below w.heap.size w w1) := bnext HB0.out (Nat.le_refl _) hb
  obtain ⟨s0, s1, s2, s3, s4, s5, s6⟩ := HN0.out.below hb
  clear hb cS HB0 HN0
  go_wp2_with fail
  refine (cx _).mono ?_
  rintro e w2 ⟨rfl, rfl⟩
  go_wp2_with fail
  refine (cy _).mono ?_
  rintro e w3 ⟨rfl, rfl⟩
  clear cx cy
  go_wp2_with fail
  refine (ca _).mono ?_
  rintro e w4 ⟨rfl, rfl⟩
  go_wp2_with fail
  refine (cb _).mono ?_
  rintro e w5 ⟨rfl, rfl⟩
  clear ca cb
  by_cases g : A * A ≤ p * p + q * q
  · go_wp2_with fail
    go_ret
    exact ⟨by simp [inB, g], HB1.out⟩
  · have HG : Hid (inB (p * p + q * q) (A * A) (B * B) = false) := by show _ = _; unfold inB; rw [decide_eq_false g]; rfl
    go_wp2_with fail
    go_ret
    exact ⟨by rw [HG.out]; rfl, HB1.out⟩

set_option maxHeartbeats 2000000 in
theorem specIns2 (X Y A B C V x y : Int) (hS : shapeB 2 X Y A B C V = true) (hx : inB x (-100000) 100000 = true) (hy : inB y (-100000) 100000 = true) (w : World) :
    Calls Try.prog 27 #[sh 2 X Y A B C V, .int .i64 x, .int .i64 y] w fun e w' => e = .returned (.bool (insB 2 A B C (x - X) (y - Y))) ∧ Below w.heap.size w w' := by
  have cS := specShape_any 2 X Y A B C V
  have cx := l1In_any x (-100000) 100000
  have cy := l1In_any y (-100000) 100000
  obtain ⟨bX, bY, bA, bB, bC, _, c0, bAB⟩ := shape_bounds hS
  have bd := point_bounds hx bX
  have be := point_bounds hy bY
  rw [hS] at cS
  rw [hx] at cx
  rw [hy] at cy
  have wd : IntKind.i64.wrap (x - X) = x - X := wrapn bd (by omega)
  have we : IntKind.i64.wrap (y - Y) = y - Y := wrapn be (by omega)
  have HB0 : Hid (Below w.heap.size w (w.alloc (shCells 2 X Y A B C V 28))) := bnew _ _
  have HN0 : Hid (ShB w.heap.size 2 X Y A B C V (w.alloc (shCells 2 X Y A B C V 28))) := ShB.new _ _ _ _ _ _ _ _ _
  clear hS hx hy bX bY
  generalize hd : x - X = d at *
  generalize he : y - Y = f at *
  have ca := l1Abs_any d (by omega)
  have cb := l1Abs_any f (by omega)
  have hr : insB 2 A B C d f = decide (B * ab d * B * ab d + A * ab f * A * ab f ≤ A * B * A * B) := by
    have e1 : B * ab d * B * ab d = B * B * (d * d) := by rw [← ab_mul d]; ac_rfl
    have e2 : A * ab f * A * ab f = A * A * (f * f) := by rw [← ab_mul f]; ac_rfl
    have e3 : A * B * A * B = A * A * (B * B) := by ac_rfl
    rw [e1, e2, e3]; rfl
  rw [hr]
  have bp : (ab d).natAbs ≤ 101000 := by rw [ab_natAbs]; exact bd
  have bq : (ab f).natAbs ≤ 101000 := by rw [ab_natAbs]; exact be
  generalize ab d = p at *
  generalize ab f = q at *
  have m1 := natb bB bp
  have m2 := natb m1 bB
  have m3 := natb m2 bp
  have m4 := natb bA bq
  have m5 := natb m4 bA
  have m6 := natb m5 bq
  have m7 := nata m3 m6
  have m8 := natb bA bB
  have m9 := natb m8 bA
  have m10 := natb m9 bB
  have v1 := wrapn m1 (by omega)
  have v2 := wrapn m2 (by omega)
  have v3 := wrapn m3 (by omega)
  have v4 := wrapn m4 (by omega)
  have v5 := wrapn m5 (by omega)
  have v6 := wrapn m6 (by omega)
  have v7 := wrapn m7 (by omega)
  have v8 := wrapn m8 (by omega)
  have v9 := wrapn m9 (by omega)
  have v10 := wrapn m10 (by omega)
  clear hr bA bB bC c0 bAB bd be bp bq m1 m2 m3 m4 m5 m6 m7 m8 m9 m10
  go_enter Try.func27, Try.ntmps27
  go_wp2_with fail
  refine (cS _).mono ?_
  rintro e w1 ⟨rfl, hb⟩
  have HB1 : Hid (Below w.heap.size w w1) := bnext HB0.out (Nat.le_refl _) hb
  obtain ⟨s0, s1, s2, s3, s4, s5, s6⟩ := HN0.out.below hb
  clear hb cS HB0 HN0
  go_wp2_with fail
  refine (cx _).mono ?_
  rintro e w2 ⟨rfl, rfl⟩
  go_wp2_with fail
  refine (cy _).mono ?_
  rintro e w3 ⟨rfl, rfl⟩
  clear cx cy
  go_wp2_with fail
  refine (ca _).mono ?_
  rintro e w4 ⟨rfl, rfl⟩
  go_wp2_with fail
  refine (cb _).mono ?_
  rintro e w5 ⟨rfl, rfl⟩
  clear ca cb
  go_wp2_with fail
  go_ret
  exact ⟨rfl, HB1.out⟩

end Go.Proofs.Ytedjnemijeaeoaa

namespace Go.Proofs.Ytedjnemijeaeoaa
open Go.RowKit

set_option maxHeartbeats 400000 in
theorem specIns3 (X Y A B C V x y : Int) (hS : shapeB 3 X Y A B C V = true) (hx : inB x (-100000) 100000 = true) (hy : inB y (-100000) 100000 = true) (w : World) :
    Calls Try.prog 27 #[sh 3 X Y A B C V, .int .i64 x, .int .i64 y] w fun e w' => e = .returned (.bool (insB 3 A B C (x - X) (y - Y))) ∧ Below w.heap.size w w' := by
  have cS := specShape_any 3 X Y A B C V
  have cx := l1In_any x (-100000) 100000
  have cy := l1In_any y (-100000) 100000
  obtain ⟨bX, bY, bA, bB, bC, _, c0, bAB⟩ := shape_bounds hS
  have bd := point_bounds hx bX
  have be := point_bounds hy bY
  rw [hS] at cS
  rw [hx] at cx
  rw [hy] at cy
  have wd : IntKind.i64.wrap (x - X) = x - X := wrapn bd (by omega)
  have we : IntKind.i64.wrap (y - Y) = y - Y := wrapn be (by omega)
  have HB0 : Hid (Below w.heap.size w (w.alloc (shCells 3 X Y A B C V 28))) := bnew _ _
  have HN0 : Hid (ShB w.heap.size 3 X Y A B C V (w.alloc (shCells 3 X Y A B C V 28))) := ShB.new _ _ _ _ _ _ _ _ _
  clear hS hx hy bX bY
  have m1 := natb bA bd
  have m2 := natb bB be
  have m3 := nata m1 m2
  have v1 := wrapn m1 (by omega)
  have v2 := wrapn m2 (by omega)
  have v3 := wrapn m3 (by omega)
  have ca := l1Abs_any (x - X) (by omega)
  have cb := l1Abs_any (y - Y) (by omega)
  have cc : ∀ z : Int, z = A * (x - X) + B * (y - Y) → ∀ w, Calls Try.prog 50 #[.int .i64 z] w fun e w' => e = .returned (.int .i64 (ab (A * (x - X) + B * (y - Y)))) ∧ w' = w := fun z hz => by
    subst hz; exact l1Abs_any _ (by omega)
  have hr : insB 3 A B C (x - X) (y - Y) = decide (ab (A * (x - X) + B * (y - Y)) ≤ C) := by rw [ab_le]; rfl
  rw [hr]
  have HV : Hid (IntKind.i64.wrap (IntKind.i64.wrap (A * IntKind.i64.wrap (x - X)) + IntKind.i64.wrap (B * IntKind.i64.wrap (y - Y))) = A * (x - X) + B * (y - Y)) := by
    show _ = _
    rw [wd, we, v1, v2, v3]
  clear hr bA bB bC c0 bAB bd be m1 m2 m3 v1 v2 v3
  generalize hP : ab (A * (x - X) + B * (y - Y)) = p at *
  go_enter Try.func27, Try.ntmps27
  go_wp2_with fail
  refine (cS _).mono ?_
  rintro e w1 ⟨rfl, hb⟩
  have HB1 : Hid (Below w.heap.size w w1) := bnext HB0.out (Nat.le_refl _) hb
  obtain ⟨s0, s1, s2, s3, s4, s5, s6⟩ := HN0.out.below hb
  clear hb cS HB0 HN0
  go_wp2_with fail
  refine (cx _).mono ?_
  rintro e w2 ⟨rfl, rfl⟩
  go_wp2_with fail
  refine (cy _).mono ?_
  rintro e w3 ⟨rfl, rfl⟩
  clear cx cy
  go_wp2_with fail
  refine (ca _).mono ?_
  rintro e w4 ⟨rfl, rfl⟩
  go_wp2_with fail
  refine (cb _).mono ?_
  rintro e w5 ⟨rfl, rfl⟩
  clear ca cb wd we
  go_upto_region 11 with fail
  go_quiet (first | (go_at_call 50; refine Calls.quiet_of_same (cc _ (by exact HV.out) _)))
  go_wp2_with fail
  go_ret
  exact ⟨rfl, below_drewN HB1.out _⟩

theorem kind_of {K X Y A B C V : Int} (h : shapeB K X Y A B C V = true) : K = 1 ∨ K = 2 ∨ K = 3 ∨ K = 4 := by
  unfold shapeB at h
  simp only [Bool.and_eq_true] at h
  obtain ⟨-, -, -, -, -, -, h⟩ := h
  unfold kindB at h
  split at h <;> first | omega | skip
  split at h <;> first | omega | skip
  split at h <;> first | omega | skip
  split at h <;> first | omega | skip
  cases h

/-- what the specification's Inside answers -/
theorem specIns_any (K X Y A B C V x y : Int) (w : World) :
    Calls Try.prog 27 #[sh K X Y A B C V, .int .i64 x, .int .i64 y] w fun e w' => e = .returned (.bool (insideB K X Y A B C V x y)) ∧ Below w.heap.size w w' := by
  cases h : (shapeB K X Y A B C V && (inB x (-100000) 100000 && inB y (-100000) 100000))
  · have e : insideB K X Y A B C V x y = false := by
      unfold insideB
      revert h
      generalize shapeB K X Y A B C V = p
      generalize inB x (-100000) 100000 = q
      generalize inB y (-100000) 100000 = r
      cases p <;> cases q <;> cases r <;> simp
    rw [e]
    exact specIns_no K X Y A B C V x y h w
  · simp only [Bool.and_eq_true] at h
    obtain ⟨hS, hx, hy⟩ := h
    have e : insideB K X Y A B C V x y = insB K A B C (x - X) (y - Y) := by
      unfold insideB; rw [hS, hx, hy]; simp
    rw [e]
    have hK := kind_of hS
    rcases hK with rfl | rfl | rfl | rfl
    · exact specIns1 X Y A B C V x y hS hx hy w
    · exact specIns2 X Y A B C V x y hS hx hy w
    · exact specIns3 X Y A B C V x y hS hx hy w
    · exact specIns4 X Y A B C V x y hS hx hy w

end Go.Proofs.Ytedjnemijeaeoaa

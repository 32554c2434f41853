/- The law on Inside, walked. -/
import Derived.Test.YtadeajdjjcelhaaImpI
namespace Go.Proofs.Ytadeajdjjcelhaa
open Go.RowKit
set_option maxRecDepth 100000
set_option maxHeartbeats 2000000

set_option maxHeartbeats 8000000 in
theorem toShape_any (K X Y A B C V : Int) (w : World) :
    Calls Try.prog 19 #[sh K X Y A B C V] w fun e w' => e = .returned (sh K X Y A B C V) ∧ Below w.heap.size w w' := by
  go_enter Try.func19, Try.ntmps19
  go_wp2_with fail
  refine bodyPost_ret (v := sh K X Y A B C V) (by simp [results, Try.results19, go_sem]) rfl ⟨rfl, ?_⟩
  first | exact ((bnew _ _).alloc (by simp) _).alloc (by simp; omega) _ | skip

set_option maxHeartbeats 8000000 in
theorem fnExactInside_walk (K X Y A B C V x y : Int) (w : World) :
    Calls Try.prog 4 #[sh K X Y A B C V, .int .i64 x, .int .i64 y] w fun e w' => e = .returned (.bool true) ∧ Below w.heap.size w w' := by
  have cT := toShape_any K X Y A B C V
  have cS := specIns_any K X Y A B C V x y
  have cI := implIns_any K X Y A B C V x y
  generalize insideB K X Y A B C V x y = r at *
  have HB0 : Hid (Below w.heap.size w (w.alloc (shCells K X Y A B C V 39))) := bnew _ _
  have HN0 : Hid (ShB w.heap.size K X Y A B C V (w.alloc (shCells K X Y A B C V 39))) := ShB.new _ _ _ _ _ _ _ _ _
  go_enter Try.func4, Try.ntmps4
  go_wp2_with fail
  refine (cT _).mono ?_
  rintro e w1 ⟨rfl, hb⟩
  have HB1 : Hid (Below w.heap.size w w1) := bnext HB0.out (Nat.le_refl _) hb
  have HN1 : Hid (ShB w.heap.size K X Y A B C V w1) := HN0.out.below hb
  clear hb HB0 HN0
  go_wp2_with fail
  refine (cS _).mono ?_
  rintro e w2 ⟨rfl, hb⟩
  have HB2 : Hid (Below w.heap.size w w2) := bnext HB1.out (Nat.le_refl _) hb
  obtain ⟨s0, s1, s2, s3, s4, s5, s6⟩ := HN1.out.below hb
  clear hb HB1 HN1 cS
  go_wp2_with fail
  refine (cT _).mono ?_
  rintro e w3 ⟨rfl, hb⟩
  have HB3 : Hid (Below w.heap.size w w3) := bnext HB2.out (Nat.le_refl _) hb
  clear hb HB2 s0 s1 s2 s3 s4 s5 s6 cT
  go_wp2_with fail
  refine (cI _).mono ?_
  rintro e w4 ⟨rfl, hb⟩
  have HB4 : Hid (Below w.heap.size w w4) := bnext HB3.out (Nat.le_refl _) hb
  clear hb HB3 cI
  cases r
  · go_wp2_with fail
    go_ret
    exact ⟨rfl, HB4.out⟩
  · go_wp2_with fail
    go_ret
    exact ⟨rfl, HB4.out⟩

end Go.Proofs.Ytadeajdjjcelhaa

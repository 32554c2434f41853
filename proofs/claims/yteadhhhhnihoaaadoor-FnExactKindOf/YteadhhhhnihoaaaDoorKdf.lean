/- What the dictionary says of a tag: the table, and both sides. -/
import Derived.Test.YteadhhhhnihoaaaDoorIdf
import Derived.Test.YteadhhhhnihoaaaDoorRows
import Derived.LaidMore
import Derived.Stop.Joined
import Derived.ChangeVars
import Derived.MakeChecks
import Derived.WalkKit
import Derived.ProofKit
import Derived.OpenShut
import Derived.ChangeOld
import Derived.Below
import Derived.Lib.SmallJoins
namespace Go.Proofs.YteadhhhhnihoaaaDoor
open Go.ChangeShapes Go.WideShapes Go.ChangeAt Go.RowKit Go.Joins

theorem own : ownKnob Tryd.prog.godebug = none := by kernel_rfl
theorem laidOut : laidOutB Tryd.prog = true := by kernel_rfl
theorem Tryd.cells2 : Tryd.prog.cellsOf 2 = 1 := by kernel_rfl
theorem gKinds : Tryd.prog.globalNamed "loop.example/g00050/impl.kindsByNum" = some 0 := by kernel_rfl
theorem tKinds : (Tryd.prog.globals[0]?).map (·.type) = some 101 := by kernel_rfl

/-- the kind of a remainder -/
def kd5 : Nat → Int
  | 0 => 1 | 1 => 3 | 2 => 4 | 3 => 5 | 4 => 2 | _ => 0
/-- the table lies at the first variable's block -/
def Knd (w : World) : Prop := ∀ j, j < 5 → w.cell? ⟨0, j, none⟩ = some (.int .i64 (kd5 j))
theorem Knd.below {w w' : World} (h : Knd w) (hb : Below w.heap.size w w') : Knd w' := fun j hj =>
  (hb.cell (p := ⟨0, j, none⟩) (World.block_lt_of_cell? w _ (h j hj))).trans (h j hj)

set_option maxRecDepth 100000 in
theorem knd_of {H : Type} {enc : TypeId × Value → H} {W : World} {base : Nat} {spare : Nat → Bool} {held : Bool} {n : Nat} {cs : Array Value} {p : List MemPlace} (hv : W.var? Tryd.prog "loop.example/g00050/impl.kindsByNum" = some cs)
    (h : DataW.trod enc Tryd.prog W base spare held n 101 cs.toList = some (Rows.laid_loop_example_g00050_impl_kindsByNum, p)) : Knd W := by
  obtain ⟨xs, m, _, hx, hl, hn, hel⟩ := DataW.trod_array Tryd.underlying101 h
  rw [Tryd.cells2] at hel
  simp only [Prod.mk.injEq, Rows.laid_loop_example_g00050_impl_kindsByNum, DataW.agg.injEq] at hx
  have hcell := fun i => World.var?_cell gKinds hv i
  match xs, hn, hx.1, hel with
  | [x0, x1, x2, x3, x4], _, hx, hel =>
    simp only [List.map_cons, List.map_nil, List.cons.injEq] at hx
    obtain ⟨e0, e1, e2, e3, e4, _⟩ := hx
    have one : ∀ k (y : DataW H × List MemPlace) (z : Int), DataW.trod enc Tryd.prog W base spare held m 2 ((cs.toList.drop (k * 1)).take 1) = some y → y.1 = .lit (.int .i64 z) → cs.toList[k]? = some (.int .i64 z) := by
      intro k y z h1 h2
      rw [Nat.mul_one] at h1
      obtain ⟨b, hb, hy, _⟩ := DataW.trod_int Tryd.underlying2 h1
      have hq : ((cs.toList.drop k).take 1)[0]? = some (.int .i64 b) := by rw [hb]; rfl
      rw [List.getElem?_take_of_lt (by omega), List.getElem?_drop] at hq
      rw [hy] at h2
      simp only [DataW.lit.injEq, Lit.int.injEq, true_and] at h2
      rw [← h2]
      simpa using hq
    intro j hj
    rw [hcell, ← Array.getElem?_toList]
    match j, hj with
    | 0, _ => exact one 0 x0 _ (hel 0 (by omega)) e0.symm
    | 1, _ => exact one 1 x1 _ (hel 1 (by omega)) e1.symm
    | 2, _ => exact one 2 x2 _ (hel 2 (by omega)) e2.symm
    | 3, _ => exact one 3 x3 _ (hel 3 (by omega)) e3.symm
    | 4, _ => exact one 4 x4 _ (hel 4 (by omega)) e4.symm

theorem knd_of_laid {W : World} (h : laidMetH Tryd.prog [("loop.example/g00050/impl.kindsByNum", Rows.laid_loop_example_g00050_impl_kindsByNum)] W) : Knd W := by
  rw [MakeChecks.laidMetH_plain _ _ _ (by kernel_rfl)] at h
  obtain ⟨ps, ⟨g0, t0, cs0, f0, p0, q0, hg0, ht0, hv0, hd0, _, _⟩, _, _⟩ := h
  obtain rfl := Option.some.inj (gKinds.symm.trans hg0)
  obtain rfl := Option.some.inj (tKinds.symm.trans ht0)
  exact knd_of hv0 hd0

/-- the kind of a tag -/
def kdN (g n : Int) : Int := if tagB g n = true then (if g % 2 = 1 then 2 else kd5 (n % 5).toNat) else 0

set_option maxRecDepth 100000 in
theorem implKindOf_any (g n : Int) (w : World) (h : Knd w) :
    Calls Tryd.prog 26 #[.int .i64 g, .int .i64 n] w fun e w' => e = .returned (.int .i64 (kdN g n)) ∧ w' = w := by
  have c1 := fun w' => isTag_any g n w'
  unfold kdN
  by_cases ht : tagB g n = true
  · have hg := (tagB_iff g n).1 ht
    rw [ht] at c1
    rw [if_pos ht]
    have e2 := tmod2 hg.1.1
    have e5 : n.tmod 5 = n % 5 := Int.tmod_eq_emod_of_nonneg hg.2.1
    obtain ⟨J, hJ⟩ : ∃ J : Nat, n % 5 = (J : Int) := ⟨(n % 5).toNat, by omega⟩
    have hJ5 : J < 5 := by omega
    have hz := h J hJ5
    rw [hJ] at e5
    have hJi : (J : Int) < 5 := by omega
    clear h hg
    by_cases ho : g % 2 = 1
    · rw [if_pos ho]
      rw [ho] at e2
      go_enter Tryd.func26, Tryd.ntmps26
      go_wp2_with fail
      refine (c1 _).mono ?_
      rintro _ _ ⟨rfl, rfl⟩
      go_wp2_with fail
      go_ret
      exact ⟨rfl, rfl⟩
    · rw [if_neg ho, hJ, Int.toNat_natCast]
      have eo : (g % 2 == 1) = false := beq_false_of_ne ho
      clear hJ
      go_enter Tryd.func26, Tryd.ntmps26
      go_wp2_with fail
      refine (c1 _).mono ?_
      rintro _ _ ⟨rfl, rfl⟩
      go_wp2_with fail
      go_ret
      exact ⟨rfl, rfl⟩
  · rw [if_neg ht]
    rw [Bool.not_eq_true] at ht
    rw [ht] at c1
    clear h
    go_enter Tryd.func26, Tryd.ntmps26
    go_wp2_with fail
    refine (c1 _).mono ?_
    rintro _ _ ⟨rfl, rfl⟩
    go_wp2_with fail
    go_ret
    exact ⟨rfl, rfl⟩

set_option maxRecDepth 100000 in
theorem specKindOf_any (g n : Int) (w : World) :
    Calls Tryd.prog 25 #[.int .i64 g, .int .i64 n] w fun e w' => e = .returned (.int .i64 (kdN g n)) ∧ Below w.heap.size w w' := by
  have c1 := fun w' => l1In_any g 0 65534 w'
  have c2 := fun w' => l1In_any n 0 65535 w'
  have hb : tagB g n = (inB g 0 65534 && inB n 0 65535) := rfl
  unfold kdN
  by_cases h1 : inB g 0 65534 = true
  · by_cases h2 : inB n 0 65535 = true
    · have ht : tagB g n = true := by rw [hb, h1, h2]; rfl
      have hg := (tagB_iff g n).1 ht
      rw [h1] at c1
      rw [h2] at c2
      rw [if_pos ht]
      have e2 := tmod2 hg.1.1
      have e5 : n.tmod 5 = n % 5 := Int.tmod_eq_emod_of_nonneg hg.2.1
      obtain ⟨J, hJ⟩ : ∃ J : Nat, n % 5 = (J : Int) := ⟨(n % 5).toNat, by omega⟩
      have hJ5 : J < 5 := by omega
      rw [hJ] at e5
      clear hb ht h1 h2 hg
      by_cases ho : g % 2 = 1
      · rw [if_pos ho]
        rw [ho] at e2
        go_enter Tryd.func25, Tryd.ntmps25
        go_wp2_with fail
        refine (c1 _).mono ?_
        rintro _ _ ⟨rfl, rfl⟩
        go_wp2_with fail
        refine (c2 _).mono ?_
        rintro _ _ ⟨rfl, rfl⟩
        go_wp2_with fail
        go_ret
        exact ⟨rfl, Below.refl _ _⟩
      · rw [if_neg ho, hJ, Int.toNat_natCast]
        have eo : (g % 2 == 1) = false := beq_false_of_ne ho
        clear hJ
        obtain rfl | rfl | rfl | rfl | rfl : J = 0 ∨ J = 1 ∨ J = 2 ∨ J = 3 ∨ J = 4 := by omega
        all_goals
          go_enter Tryd.func25, Tryd.ntmps25
          go_wp2_with fail
          refine (c1 _).mono ?_
          rintro _ _ ⟨rfl, rfl⟩
          go_wp2_with fail
          refine (c2 _).mono ?_
          rintro _ _ ⟨rfl, rfl⟩
          go_wp2_with fail
          go_ret
          exact ⟨rfl, bnew _ _⟩
    · have ht : ¬ tagB g n = true := by rw [hb, h1]; simpa using h2
      rw [Bool.not_eq_true] at h2
      rw [h1] at c1
      rw [h2] at c2
      rw [if_neg ht]
      go_enter Tryd.func25, Tryd.ntmps25
      go_wp2_with fail
      refine (c1 _).mono ?_
      rintro _ _ ⟨rfl, rfl⟩
      go_wp2_with fail
      refine (c2 _).mono ?_
      rintro _ _ ⟨rfl, rfl⟩
      go_wp2_with fail
      go_ret
      exact ⟨rfl, Below.refl _ _⟩
  · have ht : ¬ tagB g n = true := by rw [hb]; rw [Bool.not_eq_true] at h1; rw [h1]; exact Bool.false_ne_true
    rw [Bool.not_eq_true] at h1
    rw [h1] at c1
    rw [if_neg ht]
    go_enter Tryd.func25, Tryd.ntmps25
    go_wp2_with fail
    refine (c1 _).mono ?_
    rintro _ _ ⟨rfl, rfl⟩
    go_wp2_with fail
    go_ret
    exact ⟨rfl, Below.refl _ _⟩

theorem fnExactKindOf_walk (g n : Int) (w : World) (h : Knd w) :
    Calls Tryd.prog 5 #[.int .i64 g, .int .i64 n] w fun e w' => e = .returned (.bool true) ∧ Below w.heap.size w w' := by
  have cS := fun w' => specKindOf_any g n w'
  have cI := fun w' h' => implKindOf_any g n w' h'
  have HK := hide h
  clear h
  generalize kdN g n = rB at *
  have qb : (rB != rB) = false := by simp
  go_enter Tryd.func5, Tryd.ntmps5
  go_wp2_with fail
  refine (cS _).mono ?_
  rintro _ w1 ⟨rfl, hb⟩
  have HB := hide hb
  have hk := HK.out.below hb
  clear hb
  go_wp2_with fail
  refine (cI _ hk).mono ?_
  rintro _ _ ⟨rfl, rfl⟩
  go_wp2_with fail
  go_ret
  exact ⟨rfl, HB.out⟩

end Go.Proofs.YteadhhhhnihoaaaDoor

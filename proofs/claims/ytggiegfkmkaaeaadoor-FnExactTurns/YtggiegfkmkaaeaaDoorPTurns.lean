/- Turns answers the twelve turns of its model, in their order, each call with memory of its own; there is no argument and no condition. -/
import Derived.Test.YtggiegfkmkaaeaaDoorCards
import Derived.Test.YtggiegfkmkaaeaaDoorTie
import Derived.Test.YtggiegfkmkaaeaaDoorLawTurns
import Derived.Test.YtggiegfkmkaaeaaDoorI64
import Derived.OpenVars
import Derived.SevenTiedAt
import Derived.LaidMore
namespace Go.Proofs.YtggiegfkmkaaeaaDoor
open Go.ChangeShapes Go.WideShapes Go.ChangeAt Go.RowKit
set_option linter.unusedVariables false

theorem fnExactTurns_door (os : Os) (args : Array Value) : laidMetH Tryd.prog Rows.fnExactTurnsRow.laid ((World.doorLaid Tryd.prog 26 os).forCall (fun _ _ => 0) ⟨#[], args, []⟩).memory :=
  laidMetH_of_parts3 (fuel := 8) (laidMet_of_run' 8 (by kernel_rfl) (by kernel_rfl)) (by kernel_rfl) (by kernel_rfl)

set_option maxRecDepth 100000 in
theorem fnExactTurns_lifted (os : Os) (started : os.Started) (H : Type) (enc : TypeId × Value → H) :
    ReturnsInHanded {} Tryd.checked os 3 .any (fun w args => (Rows.fnExactTurnsSpec.pre enc Tryd.prog Tryd.f3 [] false w args ∧ laidMetH Tryd.prog Rows.fnExactTurnsRow.laid w) ∧ sizedMet enc Tryd.prog Tryd.f3 (OpenSpec.ofChange Rows.fnExactTurnsSpec) false w args)
      (Rows.fnExactTurnsSpec.post enc Tryd.prog Tryd.f3 false true false false) := by
  refine returnsInHanded_of_change_and (C := Tryd.checked) (X := fun w _ => laidMetH Tryd.prog Rows.fnExactTurnsRow.laid w) (fun _ _ _ hh h => h.of_heap hh) own started (by kernel_rfl) Tryd.func3
    (ChangeSpec.witness_shaped (enc := enc) (C := Tryd.checked) (os := os) (X := fun w _ => laidMetH Tryd.prog Rows.fnExactTurnsRow.laid w) false (World.doorLaid Tryd.prog 26 os) #[] 8 rfl (World.shaped_of_RefB (by kernel_rfl) (by kernel_rfl)) (by kernel_rfl) (by kernel_rfl) (by kernel_rfl) (fnExactTurns_door os _)) ?_
  intro W base args ds gs before hval0 hW _ _ hL _
  have hval : ∀ (j : Nat) t v, Tryd.f3.params[j]? = some t → args[j]? = some v → Value.okWide Tryd.prog W .any base t v := hval0
  have hW' := hW
  obtain ⟨p, q, hA0, hV0, rfl, hfz, hnd⟩ := hW
  have hA : DataW.TrodAll enc Tryd.prog W 0 (fun _ => true) true Tryd.f3.params.toList args.toList ds p := hA0
  have hV : DataW.TrodVars enc Tryd.prog W (fun _ => true) Rows.fnExactTurnsSpec.vars gs q := hV0
  rw [Tryd.params3] at hA hval
  obtain ⟨hargs, rfl, rfl⟩ := trodAll_nil hA
  obtain rfl : args = #[] := by cases args; simp_all
  clear hA0 hval0 hV0
  have hF := tbl_of_laid hL
  refine (fnExactTurns_walk W hF).mono fun e W' ⟨he, bel⟩ => ?_
  subst he
  match gs, hV, hW' with
  | [gv], hV, hW' =>
    have hV' := Below.trodVars laidOut bel (ns := Rows.fnExactTurnsSpec.vars) (by kernel_rfl) hV
    exact ⟨_, rfl, _, _, _, [], _, q, hW', trodAll_mk1 (shut_bool Tryd.underlying4 _), trodAll_mk0, hV', bel.frame _, fun h => by cases h⟩
  | [], hV, _ => exact hV.elim
  | _ :: _ :: _, hV, _ => obtain ⟨_, _, _, _, _, _, _, _, _, _, h, _⟩ := hV; exact h.elim

theorem fnExactTurns_holds : Rows.FnExactTurnsSaid :=
  OpenClaim.holds_of_wide 3 Tryd.f3 rfl rfl rfl rfl rfl rfl rfl ⟨rfl, rfl, rfl, rfl, rfl⟩ rfl rfl rfl rfl rfl (by kernel_rfl) Tryd.func3 (by kernel_rfl)
    (of_decide_eq_true (by kernel_rfl)) (by unfold Func.isWrapper; first | (rw [if_pos (by decide +kernel)]; kernel_rfl) | (rw [if_neg (by decide +kernel)]; exact ⟨rfl, rfl⟩))
    (fun os started H enc _ => fnExactTurns_lifted os started H enc)

theorem fnExactTurns_card : Rows.FnExactTurnsCardSaid :=
  Claim7.holds_tied_plain_at .later [] [.data] true (true, "a98edb276ed76441fa57cf9cfcf2fd5aaa5f35a4f8b9afe10f447efcb4e08391") false
    fnExactTurns_holds (fun _ h => by cases h) (by kernel_rfl) (fun _ h => by cases h) fnExactTurns_row_tie rfl ⟨rfl, rfl⟩ (by kernel_rfl) rfl
    (fun f fn hf hfn => by
      obtain rfl : f = 3 := Option.some.inj ((show Tryd.prog.funcNamed "loop.example/g00050/laws.FnExactTurns" = some 3 by kernel_rfl).symm.trans hf) |>.symm
      obtain rfl : fn = Tryd.f3 := (Option.some.inj (Tryd.func3.symm.trans hfn)).symm
      refine ⟨by kernel_rfl, fun j t ht => ?_⟩
      rw [Tryd.params3] at ht
      match j, ht with
      | j + 0, ht => simp at ht)
    (by kernel_rfl)
#print axioms fnExactTurns_card
end Go.Proofs.YtggiegfkmkaaeaaDoor

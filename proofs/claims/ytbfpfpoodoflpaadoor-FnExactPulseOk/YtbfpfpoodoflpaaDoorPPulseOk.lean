/- The law FnExactPulseOk holds, as a tied card: of every order the program says as the specification whether its numbers are in range, and the order reads afterwards as it did. Condition: the table orderForms starts as the text of the program lays it, which the card ties to that text. -/
import Derived.Test.YtbfpfpoodoflpaaDoorCards
import Derived.Test.YtbfpfpoodoflpaaDoorTie
import Derived.Test.YtbfpfpoodoflpaaDoorFrm
import Derived.Test.YtbfpfpoodoflpaaDoorPok
import Derived.OpenVars
import Derived.SevenTiedAt
import Derived.LaidMore
namespace Go.Proofs.YtbfpfpoodoflpaaDoor
open Go.ChangeShapes Go.WideShapes Go.ChangeAt Go.RowKit
set_option linter.unusedVariables false

theorem fnExactPulseOk_door (os : Os) (args : Array Value) : laidMetH Tryd.prog Rows.fnExactPulseOkRow.laid ((World.doorLaid Tryd.prog 84 os).forCall (fun _ _ => 0) ⟨#[], args, []⟩).memory :=
  laidMetH_of_parts3 (fuel := 8) (laidMet_of_run' 8 (by kernel_rfl) (by kernel_rfl)) (by kernel_rfl) (by kernel_rfl)

set_option maxRecDepth 100000 in
theorem fnExactPulseOk_lifted (os : Os) (started : os.Started) (H : Type) (enc : TypeId × Value → H) :
    ReturnsInHanded {} Tryd.checked os 5 .any (fun w args => (Rows.fnExactPulseOkSpec.pre enc Tryd.prog Tryd.f5 [] false w args ∧ laidMetH Tryd.prog Rows.fnExactPulseOkRow.laid w) ∧ sizedMet enc Tryd.prog Tryd.f5 (OpenSpec.ofChange Rows.fnExactPulseOkSpec) false w args)
      (Rows.fnExactPulseOkSpec.post enc Tryd.prog Tryd.f5 false true false false) := by
  refine returnsInHanded_of_change_and (C := Tryd.checked) (X := fun w _ => laidMetH Tryd.prog Rows.fnExactPulseOkRow.laid w) (fun _ _ _ hh h => h.of_heap hh) own started (by kernel_rfl) Tryd.func5
    (ChangeSpec.witness_shaped (enc := enc) (C := Tryd.checked) (os := os) (X := fun w _ => laidMetH Tryd.prog Rows.fnExactPulseOkRow.laid w) false (World.doorLaid Tryd.prog 84 os) #[.agg #[.int .i64 0, .int .i64 0, .int .i64 0, .int .i64 0]] 8 rfl (World.shaped_of_RefB (by kernel_rfl) (by kernel_rfl)) (by kernel_rfl) (by kernel_rfl) (by kernel_rfl) (fnExactPulseOk_door os _)) ?_
  intro W base args ds gs before hval0 hW _ _ hL _
  have hval : ∀ (j : Nat) t v, Tryd.f5.params[j]? = some t → args[j]? = some v → Value.okWide Tryd.prog W .any base t v := hval0
  have hW' := hW
  obtain ⟨p, q, hA0, hV0, rfl, hfz, hnd⟩ := hW
  have hA : DataW.TrodAll enc Tryd.prog W 0 (fun _ => true) true Tryd.f5.params.toList args.toList ds p := hA0
  have hV : DataW.TrodVars enc Tryd.prog W (fun _ => true) Rows.fnExactPulseOkSpec.vars gs q := hV0
  rw [Tryd.params5] at hA hval
  obtain ⟨v0, vs0, d0, ds0, p0, q0, hargs, rfl, rfl, h0, r0⟩ := trodAll_cons hA
  obtain ⟨rfl, rfl, rfl⟩ := trodAll_nil r0
  obtain rfl : args = #[v0] := by cases args; simp_all
  have k0 := h0
  have lt0 : ∀ x ∈ p0, x.block < W.heap.size := by obtain ⟨m, hm⟩ := k0; exact DataW.trod_lt m _ _ _ hm
  obtain ⟨x0_0, x0_1, x0_2, x0_3, rfl⟩ := open_st41 (hval 0 41 v0 rfl rfl) h0
  clear hA0 hval0 hV0
  have hF := frm_of_laid hL
  refine (fnExactPulseOk_walk x0_0 x0_1 x0_2 x0_3 W hF).mono fun e W' ⟨he, bel⟩ => ?_
  subst he
  match gs, hV, hW' with
  | [gv], hV, hW' =>
    have hV' := Below.trodVars laidOut bel (ns := Rows.fnExactPulseOkSpec.vars) (by kernel_rfl) hV
    exact ⟨_, rfl, _, _, _, [], _, q, hW', trodAll_mk1 (shut_bool Tryd.underlying4 _), (trodAll_cons_mk (Below.trod laidOut (by kernel_rfl) (of_decide_eq_true (by kernel_rfl)) k0 bel lt0) trodAll_mk0), hV', bel.frame _, fun h => by cases h⟩
  | [], hV, _ => exact hV.elim
  | _ :: _ :: _, hV, _ => obtain ⟨_, _, _, _, _, _, _, _, _, _, h, _⟩ := hV; exact h.elim

theorem fnExactPulseOk_holds : Rows.FnExactPulseOkSaid :=
  OpenClaim.holds_of_wide 5 Tryd.f5 rfl rfl rfl rfl rfl rfl rfl ⟨rfl, rfl, rfl, rfl, rfl⟩ rfl rfl rfl rfl rfl (by kernel_rfl) Tryd.func5 (by kernel_rfl)
    (of_decide_eq_true (by kernel_rfl)) (by unfold Func.isWrapper; first | (rw [if_pos (by decide +kernel)]; kernel_rfl) | (rw [if_neg (by decide +kernel)]; exact ⟨rfl, rfl⟩))
    (fun os started H enc _ => fnExactPulseOk_lifted os started H enc)

theorem fnExactPulseOk_card : Rows.FnExactPulseOkCardSaid :=
  Claim7.holds_tied_plain_at .later [] [.data] true (true, "e94e1b3c5e954d0e2cf84277d22702afffcd856e1e714435ac4ec7d9cdd17368") true
    fnExactPulseOk_holds (fun _ h => by cases h) (by kernel_rfl) (fun _ h => by cases h) fnExactPulseOk_row_tie rfl ⟨rfl, rfl⟩ (by kernel_rfl) rfl
    (fun f fn hf hfn => by
      obtain rfl : f = 5 := Option.some.inj ((show Tryd.prog.funcNamed "loop.example/g00050/laws.FnExactPulseOk" = some 5 by kernel_rfl).symm.trans hf) |>.symm
      obtain rfl : fn = Tryd.f5 := (Option.some.inj (Tryd.func5.symm.trans hfn)).symm
      refine ⟨by kernel_rfl, fun j t ht => ?_⟩
      rw [Tryd.params5] at ht
      match j, ht with
      | 0, ht => cases ht; exact (show Tryd.prog.wantsStandIn 41 = false by kernel_rfl)
      | j + 1, ht => simp at ht)
    (by kernel_rfl)
#print axioms fnExactPulseOk_card
end Go.Proofs.YtbfpfpoodoflpaaDoor

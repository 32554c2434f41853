/- The law FnFindsTurn: a drawn cube of at most 3 that is turned by one of the twelve turns is found again by Match at no cost, and the turn found turns the cube alike; for every list of bytes. -/
import Derived.Test.YtkgkdhocmglklaaDoorCards
import Derived.Test.YtkgkdhocmglklaaDoorTie
import Derived.Test.YtkgkdhocmglklaaDoorLawFt
import Derived.Test.YtkgkdhocmglklaaDoorRwb
import Derived.Test.YtkgkdhocmglklaaDoorI64
import Derived.OpenVars
import Derived.SevenTiedAt
import Derived.LaidMore
namespace Go.Proofs.YtkgkdhocmglklaaDoor
open Go.ChangeShapes Go.WideShapes Go.ChangeAt Go.RowKit
set_option linter.unusedVariables false

theorem fnFindsTurn_door (os : Os) (args : Array Value) : laidMetH Tryd.prog Rows.fnFindsTurnRow.laid ((World.doorLaid Tryd.prog 26 os).forCall (fun _ _ => 0) ⟨#[], args, []⟩).memory :=
  laidMetH_of_parts3 (fuel := 8) (laidMet_of_run' 8 (by kernel_rfl) (by kernel_rfl)) (by kernel_rfl) (by kernel_rfl)

set_option maxRecDepth 100000 in
theorem fnFindsTurn_lifted (os : Os) (started : os.Started) (H : Type) (enc : TypeId × Value → H) :
    ReturnsInHanded {} Tryd.checked os 3 .any (fun w args => (Rows.fnFindsTurnSpec.pre enc Tryd.prog Tryd.f3 [] false w args ∧ laidMetH Tryd.prog Rows.fnFindsTurnRow.laid w) ∧ sizedMet enc Tryd.prog Tryd.f3 (OpenSpec.ofChange Rows.fnFindsTurnSpec) false w args)
      (Rows.fnFindsTurnSpec.post enc Tryd.prog Tryd.f3 false true false false) := by
  refine returnsInHanded_of_change_and (C := Tryd.checked) (X := fun w _ => laidMetH Tryd.prog Rows.fnFindsTurnRow.laid w) (fun _ _ _ hh h => h.of_heap hh) own started (by kernel_rfl) Tryd.func3
    (ChangeSpec.witness_shaped (enc := enc) (C := Tryd.checked) (os := os) (X := fun w _ => laidMetH Tryd.prog Rows.fnFindsTurnRow.laid w) false (World.doorLaid Tryd.prog 26 os) #[.slice none 0 0] 8 rfl (World.shaped_of_RefB (by kernel_rfl) (by kernel_rfl)) (by kernel_rfl) (by kernel_rfl) (by kernel_rfl) (fnFindsTurn_door os _)) ?_
  intro W base args ds gs before hval0 hW _ _ hL _
  have hval : ∀ (j : Nat) t v, Tryd.f3.params[j]? = some t → args[j]? = some v → Value.okWide Tryd.prog W .any base t v := hval0
  have hW' := hW
  obtain ⟨p, q, hA0, hV0, rfl, hfz, hnd⟩ := hW
  have hA : DataW.TrodAll enc Tryd.prog W 0 (fun _ => true) true Tryd.f3.params.toList args.toList ds p := hA0
  have hV : DataW.TrodVars enc Tryd.prog W (fun _ => true) Rows.fnFindsTurnSpec.vars gs q := hV0
  rw [Tryd.params3] at hA hval
  obtain ⟨v0, vs0, d0, ds0, p0, q0, hargs, rfl, rfl, h0, r0⟩ := trodAll_cons hA
  obtain ⟨rfl, rfl, rfl⟩ := trodAll_nil r0
  obtain rfl : args = #[v0] := by cases args; simp_all
  have k0 := h0
  have lt0 : ∀ x ∈ p0, x.block < W.heap.size := by obtain ⟨m, hm⟩ := k0; exact DataW.trod_lt m _ _ _ hm
  obtain ⟨a0, len0, cap0, rfl⟩ := okWide_slice Tryd.underlying22 (hval 0 22 v0 rfl rfl)
  have w0 : Bytes a0 len0 W := bytes_of h0
  clear hA0 hval0 hV0
  have hF := tbl_of_laid hL
  refine (fnFindsTurn_walk a0 len0 cap0 W w0 hF).mono fun e W' ⟨he, bel⟩ => ?_
  subst he
  match gs, hV, hW' with
  | [gv], hV, hW' =>
    have hV' := Below.trodVars laidOut bel (ns := Rows.fnFindsTurnSpec.vars) (by kernel_rfl) hV
    exact ⟨_, rfl, _, _, _, [], _, q, hW', trodAll_mk1 (shut_bool Tryd.underlying4 _), (trodAll_cons_mk (Below.trod laidOut (by kernel_rfl) (of_decide_eq_true (by kernel_rfl)) k0 bel lt0) trodAll_mk0), hV', bel.frame _, fun h => by cases h⟩
  | [], hV, _ => exact hV.elim
  | _ :: _ :: _, hV, _ => obtain ⟨_, _, _, _, _, _, _, _, _, _, h, _⟩ := hV; exact h.elim

theorem fnFindsTurn_holds : Rows.FnFindsTurnSaid :=
  OpenClaim.holds_of_wide 3 Tryd.f3 rfl rfl rfl rfl rfl rfl rfl ⟨rfl, rfl, rfl, rfl, rfl⟩ rfl rfl rfl rfl rfl (by kernel_rfl) Tryd.func3 (by kernel_rfl)
    (of_decide_eq_true (by kernel_rfl)) (by unfold Func.isWrapper; first | (rw [if_pos (by decide +kernel)]; kernel_rfl) | (rw [if_neg (by decide +kernel)]; exact ⟨rfl, rfl⟩))
    (fun os started H enc _ => fnFindsTurn_lifted os started H enc)

theorem fnFindsTurn_card : Rows.FnFindsTurnCardSaid :=
  Claim7.holds_tied_plain_at .later [] [.data] true (true, "84ff0b15083692f5ecc8861d010d925af8063c4248dc41dbda3b9501e97fffb0") false
    fnFindsTurn_holds (fun _ h => by cases h) (by kernel_rfl) (fun _ h => by cases h) fnFindsTurn_row_tie rfl ⟨rfl, rfl⟩ (by kernel_rfl) rfl
    (fun f fn hf hfn => by
      obtain rfl : f = 3 := Option.some.inj ((show Tryd.prog.funcNamed "loop.example/g00050/laws.FnFindsTurn" = some 3 by kernel_rfl).symm.trans hf) |>.symm
      obtain rfl : fn = Tryd.f3 := (Option.some.inj (Tryd.func3.symm.trans hfn)).symm
      refine ⟨by kernel_rfl, fun j t ht => ?_⟩
      rw [Tryd.params3] at ht
      match j, ht with
      | 0, ht => cases ht; exact (show Tryd.prog.wantsStandIn 22 = false by kernel_rfl)
      | j + 1, ht => simp at ht)
    (by kernel_rfl)
#print axioms fnFindsTurn_card
end Go.Proofs.YtkgkdhocmglklaaDoor

/- A region that draws its order within a round (or whatever fence): by what each operation leaves behind it. -/
import Derived.OrdersIn
import Derived.Test.YtcdklkebedpmnaaRgv
namespace Go.Proofs.Ytcdklkebedpmnaa
open Go.RowKit

theorem wpOpIn_stepI {Fc : Fence} {nn : Nat} (hFn : ∀ f, Fc.fn f) {P : Program} {ops : Array Oper} {Q : Exit → Act → World → Prop} {i : Nat} {o : Oper} (ho : ops[i]? = some o) {K : Act → World → Prop} {a : Act} {w : World}
    (h : ∀ K' : Act → World → Prop, (∀ a w, K a w → K' a w) → if Region.wanted o (yielded ops a.tmps) = true then Oper.wpIn Fc nn P o a w K' Q else K' (a.put o.dst undef) w) : wpOpIn Fc nn P ops Q i K a w := by
  have h1 := h K (fun _ _ h => h)
  unfold wpOpIn
  rw [ho]
  simp only
  split
  · rename_i hw; rw [if_pos hw] at h1; exact h1
  · rename_i hw; rw [if_neg hw] at h1; exact ⟨fun f _ => hFn f, h1⟩

/-- the step of one operation -/
def StpFI (Fc : Fence) (nn : Nat) (P : Program) (ops : Array Oper) (Q : Exit → Act → World → Prop) (A : (Nat → Value) → Act) (Fr : (Nat → Value) → World → Prop) (F : Nat → (Nat → Value) → World → Prop) (u0 : Nat → Value) (i : Nat) (o : Oper) : Prop :=
  ∀ (u : Nat → Value) (w : World), (∀ j, j < ops.size → (j = i ∨ opFree ops i j = false) → u j = u0 j) → Fr u w → PreF F u w (opPre o) → ∀ K : Act → World → Prop, Hid (∀ u' w', (∀ j, j ≠ i → u' j = u j) → Fr u' w' → F i u' w' → (∀ j, j ≠ i → opFree ops i j = true → F j u w → F j u' w') → K (A u') w') →
    if Region.wanted o (yielded ops (A u).tmps) = true then Oper.wpIn Fc nn P o (A u) w K Q else K ((A u).put o.dst undef) w
/-- the steps of all -/
def StpsFI (Fc : Fence) (nn : Nat) (P : Program) (ops : Array Oper) (Q : Exit → Act → World → Prop) (A : (Nat → Value) → Act) (Fr : (Nat → Value) → World → Prop) (F : Nat → (Nat → Value) → World → Prop) (u0 : Nat → Value) : Nat → List Oper → Prop
  | _, [] => True
  | k, o :: l => StpFI Fc nn P ops Q A Fr F u0 k o ∧ StpsFI Fc nn P ops Q A Fr F u0 (k + 1) l
theorem stps_atI {Fc : Fence} {nn : Nat} {P : Program} {ops : Array Oper} {Q : Exit → Act → World → Prop} {A : (Nat → Value) → Act} {Fr : (Nat → Value) → World → Prop} {F : Nat → (Nat → Value) → World → Prop} {u0 : Nat → Value} :
    ∀ (l : List Oper) (k i : Nat) (o : Oper), StpsFI Fc nn P ops Q A Fr F u0 k l → l[i]? = some o → StpFI Fc nn P ops Q A Fr F u0 (k + i) o
  | [], _, _, _, _, h => by simp at h
  | x :: l, k, 0, o, h, ho => by
    simp only [List.getElem?_cons_zero, Option.some.injEq] at ho
    subst ho; exact h.1
  | x :: l, k, i + 1, o, h, ho => by
    simp only [List.getElem?_cons_succ] at ho
    have := stps_atI l (k + 1) i o h.2 ho
    rwa [show k + 1 + i = k + (i + 1) by omega] at this
theorem inv_anyI {Fc : Fence} {nn : Nat} (hFn : ∀ f, Fc.fn f) {P : Program} {ops : Array Oper} {Q : Exit → Act → World → Prop} {A : (Nat → Value) → Act} {Fr : (Nat → Value) → World → Prop} {F : Nat → (Nat → Value) → World → Prop} {u0 : Nat → Value}
    (hlow : opLow 0 ops.toList = true) (hstep : StpsFI Fc nn P ops Q A Fr F u0 0 ops.toList) (hend : ∀ u w, Fr u w → (∀ i, i < ops.size → F i u w) → Q .normal (A u) w) :
    ∀ (fuel : Nat) (listed : Array Bool) (u : Nat → Value) (w : World), listed.size = ops.size → unD ops.size listed ≤ fuel → (∀ i j o, ops[j]? = some o → listed.getD j true = true → i ∈ opPre o → listed.getD i true = true) → (∀ i, i < ops.size → listed.getD i true = false → u i = u0 i) → Fr u w → (∀ i, i < ops.size → listed.getD i true = true → F i u w) → wpAnyIn Fc nn P .any ops Q fuel listed (A u) w := by
  have done : ∀ listed : Array Bool, listed.size = ops.size → Region.ready .any ops listed = [] → ∀ i, i < ops.size → listed.getD i true = true := fun listed hs hr i => by
    induction i using Nat.strongRecOn with
    | _ i ih =>
      intro hi
      cases hl : listed.getD i true
      · exfalso
        have hm : i ∈ Region.ready .any ops listed := by
          unfold Region.ready
          refine List.mem_filter.2 ⟨List.mem_range.2 hi, ?_⟩
          obtain ⟨o, ho⟩ : ∃ o, ops[i]? = some o := ⟨_, Array.getElem?_eq_getElem hi⟩
          rw [hl, ho]
          simp only [Bool.not_false, Bool.true_and, Option.map_some, Option.getD_some]
          rw [Array.all_eq_true_iff_forall_mem]
          intro e he
          cases hb : Region.binds .any e
          · rfl
          · have hj : e.on ∈ opPre o := List.mem_map.2 ⟨e, List.mem_filter.2 ⟨Array.mem_toList_iff.2 he, hb⟩, rfl⟩
            have hlt := opLow_at ops.toList 0 i o hlow (by rw [Array.getElem?_toList]; exact ho) e.on hj
            have := ih e.on (by omega) (by omega)
            rw [getD_any (by omega) false true, this]; rfl
        rw [hr] at hm; cases hm
      · rfl
  intro fuel
  induction fuel with
  | zero =>
    intro listed u w hs hf hcl hsl hF hall
    have hl : ∀ i, i < ops.size → listed.getD i true = true := fun i hi => by
      cases h : listed.getD i true
      · exfalso
        have : i ∈ (List.range ops.size).filter fun i => !listed.getD i true := List.mem_filter.2 ⟨List.mem_range.2 hi, by rw [h]; rfl⟩
        have h0 : ((List.range ops.size).filter fun i => !listed.getD i true) = [] := List.length_eq_zero_iff.1 (by unfold unD at hf; omega)
        rw [h0] at this; cases this
      · rfl
    refine ⟨?_, hend u w hF fun i hi => hall i hi (hl i hi)⟩
    unfold Region.ready
    rw [List.filter_eq_nil_iff]
    intro i hi
    rw [hl i (List.mem_range.1 hi)]; simp
  | succ fuel ih =>
    intro listed u w hs hf hcl hsl hF hall
    refine ⟨fun hr => hend u w hF fun i hi => hall i hi (done listed hs hr i hi), fun i hi => ?_⟩
    unfold Region.ready at hi
    obtain ⟨h1, h2⟩ := List.mem_filter.1 hi
    have hil := List.mem_range.1 h1
    obtain ⟨o, ho⟩ : ∃ o, ops[i]? = some o := ⟨_, Array.getElem?_eq_getElem hil⟩
    rw [ho] at h2
    simp only [Option.map_some, Option.getD_some, Bool.and_eq_true, Bool.not_eq_true'] at h2
    obtain ⟨hun, hpre⟩ := h2
    rw [Array.all_eq_true_iff_forall_mem] at hpre
    have late : ∀ j, (j = i ∨ opFree ops i j = false) → listed.getD j true = false := fun j hc => by
      rcases hc with rfl | hc
      · exact hun
      · cases hl : listed.getD j true
        · rfl
        · exfalso
          have ha : opAnc ops i ops.size j = true := by unfold opFree at hc; simpa using hc
          have := anc_done (D := fun q => listed.getD q true = true) (fun q j o ho hj hq => hcl q j o ho hj hq) ops.size j ha hl
          rw [hun] at this; cases this
    have hst := stps_atI ops.toList 0 i o hstep (by rw [Array.getElem?_toList]; exact ho)
    rw [Nat.zero_add] at hst
    refine wpOpIn_stepI hFn ho fun K' hK => hst u w (fun j hj hc => hsl j hj (late j hc)) hF (preF_of fun j hj => ?_) K' fun u' w' hun' hF' hi' hoth => hK _ _ (ih (listed.setIfInBounds i true) u' w' (by rw [Array.size_setIfInBounds]; exact hs) ?_ ?_ ?_ hF' fun j hj hjl => ?_)
    · obtain ⟨e, he, rfl⟩ := List.mem_map.1 hj
      obtain ⟨he1, he2⟩ := List.mem_filter.1 he
      have hlt := opLow_at ops.toList 0 i o hlow (by rw [Array.getElem?_toList]; exact ho) e.on hj
      have := hpre e (Array.mem_toList_iff.1 he1)
      rw [he2] at this
      simp only [Bool.not_true, Bool.false_or] at this
      exact hall e.on (by omega) (by rw [getD_any (by omega) true false]; exact this)
    · have := unD_set hs hil hun
      omega
    · intro q j oj hoj hjl hq
      have hjs : j < ops.size := (Array.getElem?_eq_some_iff.1 hoj).1
      have hqj := opLow_at ops.toList 0 j oj hlow (by rw [Array.getElem?_toList]; exact hoj) q hq
      have up : ∀ x, x < ops.size → x ≠ i → (listed.setIfInBounds i true).getD x true = listed.getD x true := fun x hx e => by
        have hx' : x < listed.size := by omega
        simp [Array.getD, hx', Ne.symm e]
      have us : (listed.setIfInBounds i true).getD i true = true := by
        have hi' : i < listed.size := by omega
        simp [Array.getD, hi']
      by_cases e2 : q = i
      · rw [e2]; exact us
      · rw [up q (by omega) e2]
        by_cases e : j = i
        · subst e
          rw [ho] at hoj
          cases hoj
          obtain ⟨e', he', rfl⟩ := List.mem_map.1 hq
          obtain ⟨he1, he2⟩ := List.mem_filter.1 he'
          have := hpre e' (Array.mem_toList_iff.1 he1)
          rw [he2] at this
          simp only [Bool.not_true, Bool.false_or] at this
          rw [getD_any (by omega) true false]; exact this
        · rw [up j hjs e] at hjl
          exact hcl q j oj hoj hjl hq
    · intro j hj hjl
      have hj' : j < listed.size := by omega
      have e : j ≠ i := fun e => by subst e; simp [Array.getD, hj'] at hjl
      rw [hun' j e]
      refine hsl j hj ?_
      simp [Array.getD, hj', Ne.symm e] at hjl ⊢
      exact hjl
    · by_cases e : j = i
      · subst e; exact hi'
      · have hjl' : listed.getD j true = true := by
          have hj' : j < listed.size := by omega
          simp [Array.getD, hj', Ne.symm e] at hjl ⊢
          exact hjl
        refine hoth j e ?_ (hall j hj hjl')
        unfold opFree
        cases hc : opAnc ops i ops.size j
        · rfl
        · exfalso
          have := anc_done (D := fun q => listed.getD q true = true) (fun q j o ho hj hq => hcl q j o ho hj hq) ops.size j hc hjl'
          rw [hun] at this; cases this
/-- the region, by what each operation leaves -/
theorem region_invI {Fc : Fence} {nn : Nat} (hFn : ∀ f, Fc.fn f) {P : Program} {id : Nat} {ops : Array Oper} {Q : Exit → Act → World → Prop} {w : World} (A : (Nat → Value) → Act) (u0 : Nat → Value) (Fr : (Nat → Value) → World → Prop) (F : Nat → (Nat → Value) → World → Prop)
    (hm : P.follows .mixedOrders = true) (hlow : opLow 0 ops.toList = true) (h0 : Fr u0 w.drew) (hstep : StpsFI Fc nn P ops Q A Fr F u0 0 ops.toList)
    (hend : ∀ u w, Fr u w → (∀ i, i < ops.size → F i u w) → Q .normal (A u) w) : (Code.region id ops true).wpIn Fc nn P Q (A u0) w :=
  wpIn_region_any hm (inv_anyI hFn hlow hstep hend ops.size (Array.replicate ops.size false) u0 w.drew (by simp) (by unfold unD; exact Nat.le_trans (List.length_filter_le ..) (by simp)) (fun i j o hoj hl _ => by
    have hj : j < ops.size := (Array.getElem?_eq_some_iff.1 hoj).1
    simp [Array.getD, hj] at hl) (fun _ _ _ => rfl) h0 fun i hi hl => by
    simp [Array.getD, hi] at hl)
/-- the step of one operation -/
def StpVI (Fc : Fence) (nn : Nat) (P : Program) (a : Act) (ops : Array Oper) (Q : Exit → Act → World → Prop) (Fr : (Nat → Value) → World → Prop) (F : Nat → (Nat → Value) → World → Prop) (i : Nat) (o : Oper) : Prop :=
  ∀ (u : Nat → Value) (w : World) (au : Act), Hid (∀ j d, (ops.toList[j]?.bind (·.dst)) = some d → au.tmps[d]?.getD undef = u j) → Hid (∀ d, ops.toList.all (fun o => o.dst != some d) = true → au.tmps[d]?.getD undef = a.tmps[d]?.getD undef) → Hid (∀ j, j < ops.size → (j = i ∨ opFree ops i j = false) → u j = slotU a ops j) → Fr u w → PreF F u w (opPre o) → ∀ K : Act → World → Prop, Hid (∀ v w', Fr (upU u i v) w' → F i (upU u i v) w' → (∀ j, j ≠ i → opFree ops i j = true → F j u w → F j (upU u i v) w') → K (au.put o.dst v) w') →
    if Region.wanted o (yielded ops au.tmps) = true then Oper.wpIn Fc nn P o au w K Q else K (au.put o.dst undef) w
def StpsVI (Fc : Fence) (nn : Nat) (P : Program) (a : Act) (ops : Array Oper) (Q : Exit → Act → World → Prop) (Fr : (Nat → Value) → World → Prop) (F : Nat → (Nat → Value) → World → Prop) : Nat → List Oper → Prop
  | _, [] => True
  | k, o :: l => StpVI Fc nn P a ops Q Fr F k o ∧ StpsVI Fc nn P a ops Q Fr F (k + 1) l
theorem stpsVI_of {Fc : Fence} {nn : Nat} {P : Program} {a : Act} {ops : Array Oper} {Q : Exit → Act → World → Prop} {Fr : (Nat → Value) → World → Prop} {F : Nat → (Nat → Value) → World → Prop} (hnd : dstNd ops.toList = true) (hsz : ops.toList.all (fun o => match o.dst with | some d => decide (d < a.tmps.size) | none => true) = true) :
    ∀ (l : List Oper) (k : Nat), (∀ i o, l[i]? = some o → ops.toList[k + i]? = some o) → StpsVI Fc nn P a ops Q Fr F k l → StpsFI Fc nn P ops Q (fun u => rgPut a u 0 ops.toList) Fr F (slotU a ops) k l
  | [], _, _, _ => trivial
  | o :: l, k, hl, h => by
    refine ⟨fun u w hu hF hp K hK => h.1 u w _ (fun j d hj => ?_) (fun d hd => ?_) (hide hu) hF hp K fun v w' hF' hi hoth => ?_, stpsVI_of hnd hsz l (k + 1) (fun i o ho => ?_) h.2⟩
    · have hlt : d < a.tmps.size := by
        cases ho : ops.toList[j]? with
        | none => rw [ho] at hj; cases hj
        | some x =>
          rw [ho] at hj
          have hx : x.dst = some d := hj
          have := List.all_eq_true.1 hsz x (List.mem_of_getElem? ho)
          rw [hx] at this
          simpa using this
      rw [rgPut_at u ops.toList 0 a j hnd hj hlt, Nat.zero_add]
      rfl
    · rw [rgPut_else u ops.toList 0 a hd]
    · have e := rgPut_up u v ops.toList 0 k a o hnd (by have := hl 0 o rfl; rwa [Nat.add_zero] at this)
      rw [Nat.zero_add] at e
      rw [e]
      exact hK.out _ w' (fun j hj => upU_other u v hj) hF' hi hoth
    · have := hl (i + 1) o (by simpa using ho)
      rwa [show k + (i + 1) = k + 1 + i by omega] at this
/-- the region, by what each operation leaves -/
theorem region_opsVI {Fc : Fence} {nn : Nat} (hFn : ∀ f, Fc.fn f) {P : Program} {id : Nat} {ops : Array Oper} {Q : Exit → Act → World → Prop} {a : Act} {w : World} (Fr : (Nat → Value) → World → Prop) (F : Nat → (Nat → Value) → World → Prop)
    (hm : P.follows .mixedOrders = true) (hlow : opLow 0 ops.toList = true) (hnd : dstNd ops.toList = true) (hsz : ops.toList.all (fun o => match o.dst with | some d => decide (d < a.tmps.size) | none => true) = true) (h0 : Fr (slotU a ops) w.drew) (hstep : StpsVI Fc nn P a ops Q Fr F 0 ops.toList)
    (hend : ∀ u w, Fr u w → (∀ i, i < ops.size → F i u w) → Q .normal (rgPut a u 0 ops.toList) w) : (Code.region id ops true).wpIn Fc nn P Q a w := by
  have h := region_invI (id := id) (Q := Q) (w := w) hFn (fun u => rgPut a u 0 ops.toList) (slotU a ops) Fr F hm hlow h0 (stpsVI_of hnd hsz ops.toList 0 (fun i o ho => by rwa [Nat.zero_add]) hstep) hend
  have e : rgPut a (slotU a ops) 0 ops.toList = a := rgPut_self ops.toList 0 fun j o ho d hd => by
    unfold slotU
    rw [Nat.zero_add]
    rw [Array.getElem?_toList] at ho
    rw [ho]
    simp only [hd]
  simp only [e] at h
  exact h
theorem step_plainI {Fc : Fence} {nn : Nat} {P : Program} {ops : Array Oper} {o : Oper} {a : Act} {w : World} {K : Act → World → Prop} {Q : Exit → Act → World → Prop} {E : Prop} (hg : o.guard = none) (h : Oper.wpIn Fc nn P o a w K Q) : if Region.wanted o (yielded ops a.tmps) = true then Oper.wpIn Fc nn P o a w K Q else E := by
  rw [if_pos (by simp [Region.wanted, hg])]; exact h

end Go.Proofs.Ytcdklkebedpmnaa

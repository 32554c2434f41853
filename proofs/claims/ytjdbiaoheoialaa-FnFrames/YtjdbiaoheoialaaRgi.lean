/- A region that draws its order, by what each operation leaves behind it: one step an operation, whatever the order. -/
import Derived.RegionTactic
import Derived.Test.YtjdbiaoheoialaaLst
namespace Go.Proofs.Ytjdbiaoheoialaa
open Go.RowKit

/-- the operations that must be done ahead of one -/
def opPre (o : Oper) : List Nat := (o.after.toList.filter fun e => Region.binds .any e).map (·.on)
/-- each comes behind what has a lower number -/
def opLow (k : Nat) : List Oper → Bool
  | [] => true
  | o :: l => (opPre o).all (fun j => decide (j < k)) && opLow (k + 1) l
theorem opLow_at : ∀ (l : List Oper) (k i : Nat) (o : Oper), opLow k l = true → l[i]? = some o → ∀ j ∈ opPre o, j < k + i
  | [], _, _, _, _, h => by simp at h
  | x :: l, k, 0, o, h, ho => fun j hj => by
    simp only [List.getElem?_cons_zero, Option.some.injEq] at ho
    subst ho
    simp only [opLow, Bool.and_eq_true, List.all_eq_true, decide_eq_true_eq] at h
    exact h.1 j hj
  | x :: l, k, i + 1, o, h, ho => fun j hj => by
    simp only [List.getElem?_cons_succ] at ho
    simp only [opLow, Bool.and_eq_true] at h
    have := opLow_at l (k + 1) i o h.2 ho j hj
    omega
/-- what is asked of the operations ahead -/
def PreF (F : Nat → (Nat → Value) → World → Prop) (u : Nat → Value) (w : World) : List Nat → Prop
  | [] => True
  | j :: l => F j u w ∧ PreF F u w l
theorem preF_of {F : Nat → (Nat → Value) → World → Prop} {u : Nat → Value} {w : World} : ∀ {l : List Nat}, (∀ j ∈ l, F j u w) → PreF F u w l
  | [], _ => trivial
  | j :: _, h => ⟨h j (List.mem_cons_self ..), preF_of fun x hx => h x (List.mem_cons_of_mem _ hx)⟩
theorem PreF.get {F : Nat → (Nat → Value) → World → Prop} {u : Nat → Value} {w : World} : ∀ {l : List Nat}, PreF F u w l → ∀ j, l.contains j = true → F j u w
  | [], _, _, h => by simp at h
  | k :: l, hp, j, h => by
    by_cases e : j = k
    · subst e; exact hp.1
    · refine PreF.get hp.2 j ?_
      simp only [List.contains_cons, Bool.or_eq_true, beq_iff_eq] at h
      exact h.resolve_left e
theorem eval_tmp (au : Act) (t : Nat) : au.eval (.tmp t) = au.tmps[t]?.getD undef := by simp [Act.eval]
/-- is the operation i ahead of j, through others -/
def opAnc (ops : Array Oper) (i : Nat) : Nat → Nat → Bool
  | 0, _ => false
  | f + 1, j => match ops[j]? with
    | some o => (opPre o).any fun q => q == i || opAnc ops i f q
    | none => false
/-- is the operation i not ahead of j -/
def opFree (ops : Array Oper) (i j : Nat) : Bool := !opAnc ops i ops.size j
theorem anc_done {ops : Array Oper} {i : Nat} {D : Nat → Prop} (h : ∀ q j o, ops[j]? = some o → D j → q ∈ opPre o → D q) : ∀ (f j : Nat), opAnc ops i f j = true → D j → D i
  | 0, _, h0, _ => by cases h0
  | f + 1, j, h0, hj => by
    unfold opAnc at h0
    cases ho : ops[j]? with
    | none => rw [ho] at h0; cases h0
    | some o =>
      rw [ho] at h0
      simp only [List.any_eq_true, Bool.or_eq_true, beq_iff_eq] at h0
      obtain ⟨q, hq, h1⟩ := h0
      have hd := h q j o ho hj hq
      rcases h1 with rfl | h1
      · exact hd
      · exact anc_done h f q h1 hd
/-- the step of one operation -/
def StpF (P : Program) (ops : Array Oper) (Q : Exit → Act → World → Prop) (A : (Nat → Value) → Act) (Fr : (Nat → Value) → World → Prop) (F : Nat → (Nat → Value) → World → Prop) (u0 : Nat → Value) (i : Nat) (o : Oper) : Prop :=
  ∀ (u : Nat → Value) (w : World), (∀ j, j < ops.size → (j = i ∨ opFree ops i j = false) → u j = u0 j) → Fr u w → PreF F u w (opPre o) → ∀ K : Act → World → Prop, Hid (∀ u' w', (∀ j, j ≠ i → u' j = u j) → Fr u' w' → F i u' w' → (∀ j, j ≠ i → opFree ops i j = true → F j u w → F j u' w') → K (A u') w') →
    if Region.wanted o (yielded ops (A u).tmps) = true then Oper.wp P o (A u) w K Q else K ((A u).put o.dst undef) w
/-- the steps of all -/
def StpsF (P : Program) (ops : Array Oper) (Q : Exit → Act → World → Prop) (A : (Nat → Value) → Act) (Fr : (Nat → Value) → World → Prop) (F : Nat → (Nat → Value) → World → Prop) (u0 : Nat → Value) : Nat → List Oper → Prop
  | _, [] => True
  | k, o :: l => StpF P ops Q A Fr F u0 k o ∧ StpsF P ops Q A Fr F u0 (k + 1) l
theorem stps_at {P : Program} {ops : Array Oper} {Q : Exit → Act → World → Prop} {A : (Nat → Value) → Act} {Fr : (Nat → Value) → World → Prop} {F : Nat → (Nat → Value) → World → Prop} {u0 : Nat → Value} :
    ∀ (l : List Oper) (k i : Nat) (o : Oper), StpsF P ops Q A Fr F u0 k l → l[i]? = some o → StpF P ops Q A Fr F u0 (k + i) o
  | [], _, _, _, _, h => by simp at h
  | x :: l, k, 0, o, h, ho => by
    simp only [List.getElem?_cons_zero, Option.some.injEq] at ho
    subst ho; exact h.1
  | x :: l, k, i + 1, o, h, ho => by
    simp only [List.getElem?_cons_succ] at ho
    have := stps_at l (k + 1) i o h.2 ho
    rwa [show k + 1 + i = k + (i + 1) by omega] at this
/-- how many are not done -/
def unD (n : Nat) (listed : Array Bool) : Nat := ((List.range n).filter fun i => !listed.getD i true).length
theorem getD_any {listed : Array Bool} {i : Nat} (h : i < listed.size) (a b : Bool) : listed.getD i a = listed.getD i b := by simp [Array.getD, h]
theorem unD_set {n : Nat} {listed : Array Bool} {i : Nat} (hs : listed.size = n) (hi : i < n) (hu : listed.getD i true = false) : unD n (listed.setIfInBounds i true) < unD n listed := by
  unfold unD
  have sub : ∀ x, (!(listed.setIfInBounds i true).getD x true) = true → (!listed.getD x true) = true := fun x hx => by
    by_cases e : i = x
    · subst e; simp [Array.getD, hs, hi] at hx
    · by_cases hx' : x < listed.size
      · simp [Array.getD, hx', e] at hx ⊢; exact hx
      · simp [Array.getD, hx'] at hx
  have hsl : ((List.range n).filter fun x => !(listed.setIfInBounds i true).getD x true) = (((List.range n).filter fun x => !listed.getD x true).filter fun x => !(listed.setIfInBounds i true).getD x true) := by
    rw [List.filter_filter]
    congr 1
    funext x
    cases h1 : (!(listed.setIfInBounds i true).getD x true)
    · rfl
    · rw [sub x h1]; rfl
  rw [hsl]
  apply List.length_filter_lt_length_iff_exists.2
  refine ⟨i, List.mem_filter.2 ⟨List.mem_range.2 hi, by rw [hu]; rfl⟩, ?_⟩
  simp [Array.getD, hs, hi]
theorem inv_any {P : Program} {ops : Array Oper} {Q : Exit → Act → World → Prop} {A : (Nat → Value) → Act} {Fr : (Nat → Value) → World → Prop} {F : Nat → (Nat → Value) → World → Prop} {u0 : Nat → Value}
    (hlow : opLow 0 ops.toList = true) (hstep : StpsF P ops Q A Fr F u0 0 ops.toList) (hend : ∀ u w, Fr u w → (∀ i, i < ops.size → F i u w) → Q .normal (A u) w) :
    ∀ (fuel : Nat) (listed : Array Bool) (u : Nat → Value) (w : World), listed.size = ops.size → unD ops.size listed ≤ fuel → (∀ i j o, ops[j]? = some o → listed.getD j true = true → i ∈ opPre o → listed.getD i true = true) → (∀ i, i < ops.size → listed.getD i true = false → u i = u0 i) → Fr u w → (∀ i, i < ops.size → listed.getD i true = true → F i u w) → wpAny P .any ops Q fuel listed (A u) w := by
  have done : ∀ listed : Array Bool, listed.size = ops.size → Region.ready .any ops listed = [] → ∀ i, i < ops.size → listed.getD i true = true := fun listed hs hr i => by
    induction i using Nat.strongRecOn with
    | _ i ih =>
      intro hi
      cases hl : listed.getD i true
      · exfalso
        have hm : i ∈ Region.ready .any ops listed := by
          unfold Region.ready
          refine List.mem_filter.2 ⟨List.mem_range.2 hi, ?_⟩
          obtain ⟨o, ho⟩ : ∃ o, ops[i]? = some o := ⟨_, Array.getElem?_eq_getElem hi⟩
          rw [hl, ho]
          simp only [Bool.not_false, Bool.true_and, Option.map_some, Option.getD_some]
          rw [Array.all_eq_true_iff_forall_mem]
          intro e he
          cases hb : Region.binds .any e
          · rfl
          · have hj : e.on ∈ opPre o := List.mem_map.2 ⟨e, List.mem_filter.2 ⟨Array.mem_toList_iff.2 he, hb⟩, rfl⟩
            have hlt := opLow_at ops.toList 0 i o hlow (by rw [Array.getElem?_toList]; exact ho) e.on hj
            have := ih e.on (by omega) (by omega)
            rw [getD_any (by omega) false true, this]; rfl
        rw [hr] at hm; cases hm
      · rfl
  intro fuel
  induction fuel with
  | zero =>
    intro listed u w hs hf hcl hsl hF hall
    have hl : ∀ i, i < ops.size → listed.getD i true = true := fun i hi => by
      cases h : listed.getD i true
      · exfalso
        have : i ∈ (List.range ops.size).filter fun i => !listed.getD i true := List.mem_filter.2 ⟨List.mem_range.2 hi, by rw [h]; rfl⟩
        have h0 : ((List.range ops.size).filter fun i => !listed.getD i true) = [] := List.length_eq_zero_iff.1 (by unfold unD at hf; omega)
        rw [h0] at this; cases this
      · rfl
    refine ⟨?_, hend u w hF fun i hi => hall i hi (hl i hi)⟩
    unfold Region.ready
    rw [List.filter_eq_nil_iff]
    intro i hi
    rw [hl i (List.mem_range.1 hi)]; simp
  | succ fuel ih =>
    intro listed u w hs hf hcl hsl hF hall
    refine ⟨fun hr => hend u w hF fun i hi => hall i hi (done listed hs hr i hi), fun i hi => ?_⟩
    unfold Region.ready at hi
    obtain ⟨h1, h2⟩ := List.mem_filter.1 hi
    have hil := List.mem_range.1 h1
    obtain ⟨o, ho⟩ : ∃ o, ops[i]? = some o := ⟨_, Array.getElem?_eq_getElem hil⟩
    rw [ho] at h2
    simp only [Option.map_some, Option.getD_some, Bool.and_eq_true, Bool.not_eq_true'] at h2
    obtain ⟨hun, hpre⟩ := h2
    rw [Array.all_eq_true_iff_forall_mem] at hpre
    have late : ∀ j, (j = i ∨ opFree ops i j = false) → listed.getD j true = false := fun j hc => by
      rcases hc with rfl | hc
      · exact hun
      · cases hl : listed.getD j true
        · rfl
        · exfalso
          have ha : opAnc ops i ops.size j = true := by unfold opFree at hc; simpa using hc
          have := anc_done (D := fun q => listed.getD q true = true) (fun q j o ho hj hq => hcl q j o ho hj hq) ops.size j ha hl
          rw [hun] at this; cases this
    have hst := stps_at ops.toList 0 i o hstep (by rw [Array.getElem?_toList]; exact ho)
    rw [Nat.zero_add] at hst
    refine wpOp_step ho fun K' hK => hst u w (fun j hj hc => hsl j hj (late j hc)) hF (preF_of fun j hj => ?_) K' fun u' w' hun' hF' hi' hoth => hK _ _ (ih (listed.setIfInBounds i true) u' w' (by rw [Array.size_setIfInBounds]; exact hs) ?_ ?_ ?_ hF' fun j hj hjl => ?_)
    · obtain ⟨e, he, rfl⟩ := List.mem_map.1 hj
      obtain ⟨he1, he2⟩ := List.mem_filter.1 he
      have hlt := opLow_at ops.toList 0 i o hlow (by rw [Array.getElem?_toList]; exact ho) e.on hj
      have := hpre e (Array.mem_toList_iff.1 he1)
      rw [he2] at this
      simp only [Bool.not_true, Bool.false_or] at this
      exact hall e.on (by omega) (by rw [getD_any (by omega) true false]; exact this)
    · have := unD_set hs hil hun
      omega
    · intro q j oj hoj hjl hq
      have hjs : j < ops.size := (Array.getElem?_eq_some_iff.1 hoj).1
      have hqj := opLow_at ops.toList 0 j oj hlow (by rw [Array.getElem?_toList]; exact hoj) q hq
      have up : ∀ x, x < ops.size → x ≠ i → (listed.setIfInBounds i true).getD x true = listed.getD x true := fun x hx e => by
        have hx' : x < listed.size := by omega
        simp [Array.getD, hx', Ne.symm e]
      have us : (listed.setIfInBounds i true).getD i true = true := by
        have hi' : i < listed.size := by omega
        simp [Array.getD, hi']
      by_cases e2 : q = i
      · rw [e2]; exact us
      · rw [up q (by omega) e2]
        by_cases e : j = i
        · subst e
          rw [ho] at hoj
          cases hoj
          obtain ⟨e', he', rfl⟩ := List.mem_map.1 hq
          obtain ⟨he1, he2⟩ := List.mem_filter.1 he'
          have := hpre e' (Array.mem_toList_iff.1 he1)
          rw [he2] at this
          simp only [Bool.not_true, Bool.false_or] at this
          rw [getD_any (by omega) true false]; exact this
        · rw [up j hjs e] at hjl
          exact hcl q j oj hoj hjl hq
    · intro j hj hjl
      have hj' : j < listed.size := by omega
      have e : j ≠ i := fun e => by subst e; simp [Array.getD, hj'] at hjl
      rw [hun' j e]
      refine hsl j hj ?_
      simp [Array.getD, hj', Ne.symm e] at hjl ⊢
      exact hjl
    · by_cases e : j = i
      · subst e; exact hi'
      · have hjl' : listed.getD j true = true := by
          have hj' : j < listed.size := by omega
          simp [Array.getD, hj', Ne.symm e] at hjl ⊢
          exact hjl
        refine hoth j e ?_ (hall j hj hjl')
        unfold opFree
        cases hc : opAnc ops i ops.size j
        · rfl
        · exfalso
          have := anc_done (D := fun q => listed.getD q true = true) (fun q j o ho hj hq => hcl q j o ho hj hq) ops.size j hc hjl'
          rw [hun] at this; cases this
/-- the region, by what each operation leaves -/
theorem region_inv {P : Program} {id : Nat} {ops : Array Oper} {Q : Exit → Act → World → Prop} {w : World} (A : (Nat → Value) → Act) (u0 : Nat → Value) (Fr : (Nat → Value) → World → Prop) (F : Nat → (Nat → Value) → World → Prop)
    (hm : P.follows .mixedOrders = true) (hlow : opLow 0 ops.toList = true) (h0 : Fr u0 w.drew) (hstep : StpsF P ops Q A Fr F u0 0 ops.toList)
    (hend : ∀ u w, Fr u w → (∀ i, i < ops.size → F i u w) → Q .normal (A u) w) : (Code.region id ops true).wp P Q (A u0) w :=
  wp_region_any hm (inv_any hlow hstep hend ops.size (Array.replicate ops.size false) u0 w.drew (by simp) (by unfold unD; exact Nat.le_trans (List.length_filter_le ..) (by simp)) (fun i j o hoj hl _ => by
    have hj : j < ops.size := (Array.getElem?_eq_some_iff.1 hoj).1
    simp [Array.getD, hj] at hl) (fun _ _ _ => rfl) h0 fun i hi hl => by
    simp [Array.getD, hi] at hl)
/-- one slot anew -/
def upU (u : Nat → Value) (i : Nat) (v : Value) : Nat → Value := fun j => if j = i then v else u j
theorem upU_same (u : Nat → Value) (i : Nat) (v : Value) : upU u i v i = v := if_pos rfl
theorem upU_other (u : Nat → Value) {i j : Nat} (v : Value) (h : j ≠ i) : upU u i v j = u j := if_neg h

/-- the act with each operation's slot anew -/
def rgPut (a : Act) (u : Nat → Value) : Nat → List Oper → Act
  | _, [] => a
  | k, o :: l => rgPut (a.put o.dst (u k)) u (k + 1) l
/-- no two write one slot -/
def dstNd : List Oper → Bool
  | [] => true
  | o :: l => (match o.dst with
    | some d => l.all fun x => x.dst != some d
    | none => true) && dstNd l
theorem rg_comm (a : Act) {d d' : Tmp} (h : d ≠ d') (x y : Value) : (a.put (some d) x).put (some d') y = (a.put (some d') y).put (some d) x := by
  simp only [Act.put]
  rw [Array.setIfInBounds_comm _ _ h]
theorem rg_put (a : Act) (d : Tmp) (x y : Value) : (a.put (some d) x).put (some d) y = a.put (some d) y := by
  simp only [Act.put, Array.setIfInBounds_setIfInBounds]
theorem rgPut_put (u : Nat → Value) (d : Tmp) (x : Value) : ∀ (l : List Oper) (k : Nat) (a : Act), (l.all fun o => o.dst != some d) = true → rgPut (a.put (some d) x) u k l = (rgPut a u k l).put (some d) x
  | [], _, _, _ => rfl
  | o :: l, k, a, h => by
    simp only [List.all_cons, Bool.and_eq_true] at h
    simp only [rgPut]
    cases ho : o.dst with
    | none => exact rgPut_put u d x l (k + 1) a h.2
    | some d' =>
      have hne : d ≠ d' := fun e => by rw [ho, e] at h; simp at h
      rw [rg_comm a hne]
      exact rgPut_put u d x l (k + 1) _ h.2
theorem rgPut_congr {u u' : Nat → Value} : ∀ (l : List Oper) (k : Nat) (a : Act), (∀ j, k ≤ j → u j = u' j) → rgPut a u k l = rgPut a u' k l
  | [], _, _, _ => rfl
  | o :: l, k, a, h => by
    simp only [rgPut]
    rw [h k (Nat.le_refl _)]
    exact rgPut_congr l (k + 1) _ fun j hj => h j (by omega)
theorem rgPut_up (u : Nat → Value) (v : Value) : ∀ (l : List Oper) (k i : Nat) (a : Act) (o : Oper), dstNd l = true → l[i]? = some o → (rgPut a u k l).put o.dst v = rgPut a (upU u (k + i) v) k l
  | [], _, _, _, _, _, h => by simp at h
  | x :: l, k, 0, a, o, hd, ho => by
    simp only [List.getElem?_cons_zero, Option.some.injEq] at ho
    subst ho
    simp only [dstNd, Bool.and_eq_true] at hd
    simp only [rgPut, Nat.add_zero, upU_same]
    have hc : ∀ b, rgPut b u (k + 1) l = rgPut b (upU u k v) (k + 1) l := fun b => rgPut_congr l (k + 1) b fun j hj => (upU_other u v (by omega)).symm
    cases hx : x.dst with
    | none => exact hc a
    | some d =>
      rw [hx] at hd
      rw [rgPut_put u d (u k) l (k + 1) a hd.1, rg_put, rgPut_put (upU u k v) d v l (k + 1) a hd.1, hc a]
  | x :: l, k, i + 1, a, o, hd, ho => by
    simp only [List.getElem?_cons_succ] at ho
    simp only [dstNd, Bool.and_eq_true] at hd
    simp only [rgPut]
    rw [upU_other u v (show k ≠ k + (i + 1) by omega), show k + (i + 1) = k + 1 + i by omega]
    exact rgPut_up u v l (k + 1) i _ o hd.2 ho
theorem rg_self (a : Act) (d : Tmp) : a.put (some d) (a.tmps.getD d undef) = a := by
  cases a with
  | mk t ds =>
    simp only [Act.put]
    congr 1
    apply Array.ext
    · simp
    · intro i h1 h2
      rw [Array.getElem_setIfInBounds]
      split
      · rename_i e; subst e; simp [Array.getD, h2]
      · rfl
theorem rgPut_self {a : Act} {u : Nat → Value} : ∀ (l : List Oper) (k : Nat), (∀ j o, l[j]? = some o → ∀ d, o.dst = some d → u (k + j) = a.tmps.getD d undef) → rgPut a u k l = a
  | [], _, _ => rfl
  | o :: l, k, h => by
    have e : a.put o.dst (u k) = a := by
      cases ho : o.dst with
      | none => rfl
      | some d =>
        have := h 0 o rfl d ho
        rw [Nat.add_zero] at this
        rw [this]; exact rg_self a d
    simp only [rgPut]
    rw [e]
    exact rgPut_self l (k + 1) fun j o ho d hd => by
      have := h (j + 1) o (by simpa using ho) d hd
      rwa [show k + (j + 1) = k + 1 + j by omega] at this
/-- the slots as they stand -/
def slotU (a : Act) (ops : Array Oper) : Nat → Value := fun j => match ops[j]? with
  | some o => (match o.dst with
    | some d => a.tmps.getD d undef
    | none => undef)
  | none => undef
/-- the step of one operation, its answer put into its slot -/
def StpO (P : Program) (a : Act) (ops : Array Oper) (Q : Exit → Act → World → Prop) (Fr : World → Prop) (F : Nat → (Nat → Value) → World → Prop) (i : Nat) (o : Oper) : Prop :=
  ∀ (u : Nat → Value) (w : World) (au : Act), Hid (au = rgPut a u 0 ops.toList) → Hid (∀ j, j < ops.size → (j = i ∨ opFree ops i j = false) → u j = slotU a ops j) → Fr w → PreF F u w (opPre o) → ∀ K : Act → World → Prop, Hid (∀ v w', Fr w' → F i (upU u i v) w' → (∀ j, j ≠ i → opFree ops i j = true → F j u w → F j (upU u i v) w') → K (au.put o.dst v) w') →
    if Region.wanted o (yielded ops au.tmps) = true then Oper.wp P o au w K Q else K (au.put o.dst undef) w
def StpsO (P : Program) (a : Act) (ops : Array Oper) (Q : Exit → Act → World → Prop) (Fr : World → Prop) (F : Nat → (Nat → Value) → World → Prop) : Nat → List Oper → Prop
  | _, [] => True
  | k, o :: l => StpO P a ops Q Fr F k o ∧ StpsO P a ops Q Fr F (k + 1) l
theorem stps_of {P : Program} {a : Act} {ops : Array Oper} {Q : Exit → Act → World → Prop} {Fr : World → Prop} {F : Nat → (Nat → Value) → World → Prop} (hnd : dstNd ops.toList = true) :
    ∀ (l : List Oper) (k : Nat), (∀ i o, l[i]? = some o → ops.toList[k + i]? = some o) → StpsO P a ops Q Fr F k l → StpsF P ops Q (fun u => rgPut a u 0 ops.toList) (fun _ w => Fr w) F (slotU a ops) k l
  | [], _, _, _ => trivial
  | o :: l, k, hl, h => by
    refine ⟨fun u w hu hF hp K hK => h.1 u w _ (hide rfl) (hide hu) hF hp K fun v w' hF' hi hoth => ?_, stps_of hnd l (k + 1) (fun i o ho => ?_) h.2⟩
    · have e := rgPut_up u v ops.toList 0 k a o hnd (by have := hl 0 o rfl; rwa [Nat.add_zero] at this)
      rw [Nat.zero_add] at e
      rw [e]
      exact hK.out _ w' (fun j hj => upU_other u v hj) hF' hi hoth
    · have := hl (i + 1) o (by simpa using ho)
      rwa [show k + (i + 1) = k + 1 + i by omega] at this
theorem step_plain {P : Program} {ops : Array Oper} {o : Oper} {a : Act} {w : World} {K : Act → World → Prop} {Q : Exit → Act → World → Prop} {E : Prop} (hg : o.guard = none) (h : Oper.wp P o a w K Q) : if Region.wanted o (yielded ops a.tmps) = true then Oper.wp P o a w K Q else E := by
  rw [if_pos (by simp [Region.wanted, hg])]; exact h
/-- the region, by what each operation leaves: the form for use -/
theorem region_ops {P : Program} {id : Nat} {ops : Array Oper} {Q : Exit → Act → World → Prop} {a : Act} {w : World} (Fr : World → Prop) (F : Nat → (Nat → Value) → World → Prop)
    (hm : P.follows .mixedOrders = true) (hlow : opLow 0 ops.toList = true) (hnd : dstNd ops.toList = true) (h0 : Fr w.drew) (hstep : StpsO P a ops Q Fr F 0 ops.toList)
    (hend : ∀ u w, Fr w → (∀ i, i < ops.size → F i u w) → Q .normal (rgPut a u 0 ops.toList) w) : (Code.region id ops true).wp P Q a w := by
  have h := region_inv (id := id) (Q := Q) (w := w) (fun u => rgPut a u 0 ops.toList) (slotU a ops) (fun _ w => Fr w) F hm hlow h0 (stps_of hnd ops.toList 0 (fun i o ho => by rwa [Nat.zero_add]) hstep) hend
  have e : rgPut a (slotU a ops) 0 ops.toList = a := rgPut_self ops.toList 0 fun j o ho d hd => by
    unfold slotU
    rw [Nat.zero_add]
    rw [Array.getElem?_toList] at ho
    rw [ho]
    simp only [hd]
  simp only [e] at h
  exact h

end Go.Proofs.Ytjdbiaoheoialaa

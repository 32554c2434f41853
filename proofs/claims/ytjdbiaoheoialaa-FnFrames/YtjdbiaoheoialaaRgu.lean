/- A region that draws its order, by what each operation leaves: what stays may speak of the slots; guarded operations. -/
import Derived.Test.YtjdbiaoheoialaaRgi
namespace Go.Proofs.Ytjdbiaoheoialaa
open Go.RowKit

/-- the step of one operation, its answer put into its slot -/
def StpU (P : Program) (a : Act) (ops : Array Oper) (Q : Exit → Act → World → Prop) (Fr : (Nat → Value) → World → Prop) (F : Nat → (Nat → Value) → World → Prop) (i : Nat) (o : Oper) : Prop :=
  ∀ (u : Nat → Value) (w : World) (au : Act), Hid (au = rgPut a u 0 ops.toList) → Hid (∀ j, j < ops.size → (j = i ∨ opFree ops i j = false) → u j = slotU a ops j) → Fr u w → PreF F u w (opPre o) → ∀ K : Act → World → Prop, Hid (∀ v w', Fr (upU u i v) w' → F i (upU u i v) w' → (∀ j, j ≠ i → opFree ops i j = true → F j u w → F j (upU u i v) w') → K (au.put o.dst v) w') →
    if Region.wanted o (yielded ops au.tmps) = true then Oper.wp P o au w K Q else K (au.put o.dst undef) w
def StpsU (P : Program) (a : Act) (ops : Array Oper) (Q : Exit → Act → World → Prop) (Fr : (Nat → Value) → World → Prop) (F : Nat → (Nat → Value) → World → Prop) : Nat → List Oper → Prop
  | _, [] => True
  | k, o :: l => StpU P a ops Q Fr F k o ∧ StpsU P a ops Q Fr F (k + 1) l
theorem stpsU_of {P : Program} {a : Act} {ops : Array Oper} {Q : Exit → Act → World → Prop} {Fr : (Nat → Value) → World → Prop} {F : Nat → (Nat → Value) → World → Prop} (hnd : dstNd ops.toList = true) :
    ∀ (l : List Oper) (k : Nat), (∀ i o, l[i]? = some o → ops.toList[k + i]? = some o) → StpsU P a ops Q Fr F k l → StpsF P ops Q (fun u => rgPut a u 0 ops.toList) Fr F (slotU a ops) k l
  | [], _, _, _ => trivial
  | o :: l, k, hl, h => by
    refine ⟨fun u w hu hF hp K hK => h.1 u w _ (hide rfl) (hide hu) hF hp K fun v w' hF' hi hoth => ?_, stpsU_of hnd l (k + 1) (fun i o ho => ?_) h.2⟩
    · have e := rgPut_up u v ops.toList 0 k a o hnd (by have := hl 0 o rfl; rwa [Nat.add_zero] at this)
      rw [Nat.zero_add] at e
      rw [e]
      exact hK.out _ w' (fun j hj => upU_other u v hj) hF' hi hoth
    · have := hl (i + 1) o (by simpa using ho)
      rwa [show k + (i + 1) = k + 1 + i by omega] at this
/-- the region, by what each operation leaves: the form for use -/
theorem region_opsU {P : Program} {id : Nat} {ops : Array Oper} {Q : Exit → Act → World → Prop} {a : Act} {w : World} (Fr : (Nat → Value) → World → Prop) (F : Nat → (Nat → Value) → World → Prop)
    (hm : P.follows .mixedOrders = true) (hlow : opLow 0 ops.toList = true) (hnd : dstNd ops.toList = true) (h0 : Fr (slotU a ops) w.drew) (hstep : StpsU P a ops Q Fr F 0 ops.toList)
    (hend : ∀ u w, Fr u w → (∀ i, i < ops.size → F i u w) → Q .normal (rgPut a u 0 ops.toList) w) : (Code.region id ops true).wp P Q a w := by
  have h := region_inv (id := id) (Q := Q) (w := w) (fun u => rgPut a u 0 ops.toList) (slotU a ops) Fr F hm hlow h0 (stpsU_of hnd ops.toList 0 (fun i o ho => by rwa [Nat.zero_add]) hstep) hend
  have e : rgPut a (slotU a ops) 0 ops.toList = a := rgPut_self ops.toList 0 fun j o ho d hd => by
    unfold slotU
    rw [Nat.zero_add]
    rw [Array.getElem?_toList] at ho
    rw [ho]
    simp only [hd]
  simp only [e] at h
  exact h

theorem step_guard {P : Program} {ops : Array Oper} {o : Oper} {a : Act} {w : World} {K : Act → World → Prop} {Q : Exit → Act → World → Prop} {E : Prop} {j : Nat} {b : Bool} {d : Tmp} {o' : Oper} (hg : o.guard = some (j, b)) (ho : ops[j]? = some o') (hd : o'.dst = some d) (hs : d < a.tmps.size) (hv : a.tmps[d]?.getD undef = .bool b) (h : Oper.wp P o a w K Q) : if Region.wanted o (yielded ops a.tmps) = true then Oper.wp P o a w K Q else E := by
  have hy : yielded ops a.tmps j = some b := by
    unfold yielded
    rw [ho]
    simp only [Option.bind_some, hd]
    rw [Array.getElem?_eq_getElem hs] at hv ⊢
    simp only [Option.getD_some] at hv
    rw [hv]
  rw [if_pos (by simp [Region.wanted, hg, hy])]; exact h

end Go.Proofs.Ytjdbiaoheoialaa

/- A region that draws its order, by what each operation leaves: its slots are read off by a law, not reckoned. -/
import Derived.Test.YtjdbiaoheoialaaRgu
namespace Go.Proofs.Ytjdbiaoheoialaa
open Go.RowKit

theorem put_size (a : Act) (d : Option Tmp) (v : Value) : (a.put d v).tmps.size = a.tmps.size := by
  cases d <;> simp [Act.put]
theorem put_other (a : Act) {d : Option Tmp} {t : Nat} (h : d ≠ some t) (v : Value) : (a.put d v).tmps[t]? = a.tmps[t]? := by
  cases d with
  | none => rfl
  | some x =>
    show (a.tmps.setIfInBounds x v)[t]? = _
    rw [Array.getElem?_setIfInBounds_ne (fun e => h (by rw [e]))]
theorem rgPut_else {t : Nat} (u : Nat → Value) : ∀ (l : List Oper) (k : Nat) (a : Act), l.all (fun o => o.dst != some t) = true → (rgPut a u k l).tmps[t]? = a.tmps[t]?
  | [], _, _, _ => rfl
  | o :: l, k, a, h => by
    simp only [List.all_cons, Bool.and_eq_true, bne_iff_ne, ne_eq] at h
    show (rgPut (a.put o.dst (u k)) u (k + 1) l).tmps[t]? = _
    rw [rgPut_else u l (k + 1) _ (by simpa using h.2), put_other a h.1]
theorem rgPut_at {t : Nat} (u : Nat → Value) : ∀ (l : List Oper) (k : Nat) (a : Act) (j : Nat), dstNd l = true → (l[j]?.bind (·.dst)) = some t → t < a.tmps.size → (rgPut a u k l).tmps[t]? = some (u (k + j))
  | [], _, _, _, _, h, _ => by simp at h
  | o :: l, k, a, 0, hn, h, hs => by
    have hd : o.dst = some t := by simpa using h
    show (rgPut (a.put o.dst (u k)) u (k + 1) l).tmps[t]? = _
    rw [rgPut_else u l (k + 1) _ (by simp only [dstNd, hd, Bool.and_eq_true] at hn; exact hn.1), hd]
    show (a.tmps.setIfInBounds t (u k))[t]? = _
    rw [Array.getElem?_setIfInBounds_self_of_lt hs]
    rfl
  | o :: l, k, a, j + 1, hn, h, hs => by
    have hd : (l[j]?.bind (·.dst)) = some t := by simpa using h
    show (rgPut (a.put o.dst (u k)) u (k + 1) l).tmps[t]? = _
    rw [rgPut_at u l (k + 1) _ j (by simp only [dstNd, Bool.and_eq_true] at hn; exact hn.2) hd (by rw [put_size]; exact hs), show k + 1 + j = k + (j + 1) by omega]
/-- the step of one operation -/
def StpV (P : Program) (a : Act) (ops : Array Oper) (Q : Exit → Act → World → Prop) (Fr : (Nat → Value) → World → Prop) (F : Nat → (Nat → Value) → World → Prop) (i : Nat) (o : Oper) : Prop :=
  ∀ (u : Nat → Value) (w : World) (au : Act), Hid (∀ j d, (ops.toList[j]?.bind (·.dst)) = some d → au.tmps[d]?.getD undef = u j) → Hid (∀ d, ops.toList.all (fun o => o.dst != some d) = true → au.tmps[d]?.getD undef = a.tmps[d]?.getD undef) → Hid (∀ j, j < ops.size → (j = i ∨ opFree ops i j = false) → u j = slotU a ops j) → Fr u w → PreF F u w (opPre o) → ∀ K : Act → World → Prop, Hid (∀ v w', Fr (upU u i v) w' → F i (upU u i v) w' → (∀ j, j ≠ i → opFree ops i j = true → F j u w → F j (upU u i v) w') → K (au.put o.dst v) w') →
    if Region.wanted o (yielded ops au.tmps) = true then Oper.wp P o au w K Q else K (au.put o.dst undef) w
def StpsV (P : Program) (a : Act) (ops : Array Oper) (Q : Exit → Act → World → Prop) (Fr : (Nat → Value) → World → Prop) (F : Nat → (Nat → Value) → World → Prop) : Nat → List Oper → Prop
  | _, [] => True
  | k, o :: l => StpV P a ops Q Fr F k o ∧ StpsV P a ops Q Fr F (k + 1) l
theorem stpsV_u {P : Program} {a : Act} {ops : Array Oper} {Q : Exit → Act → World → Prop} {Fr : (Nat → Value) → World → Prop} {F : Nat → (Nat → Value) → World → Prop} (hnd : dstNd ops.toList = true) (hsz : ops.toList.all (fun o => match o.dst with | some d => decide (d < a.tmps.size) | none => true) = true) :
    ∀ (l : List Oper) (k : Nat), StpsV P a ops Q Fr F k l → StpsU P a ops Q Fr F k l
  | [], _, _ => trivial
  | o :: l, k, h => ⟨fun u w au hau => h.1 u w au (fun j d hj => by
      have hlt : d < a.tmps.size := by
        cases ho : ops.toList[j]? with
        | none => rw [ho] at hj; cases hj
        | some x =>
          rw [ho] at hj
          have hx : x.dst = some d := hj
          have := List.all_eq_true.1 hsz x (List.mem_of_getElem? ho)
          rw [hx] at this
          simpa using this
      rw [hau.out, rgPut_at u ops.toList 0 a j hnd hj hlt, Nat.zero_add]
      rfl) (fun d hd => by rw [hau.out, rgPut_else u ops.toList 0 a hd]), stpsV_u hnd hsz l (k + 1) h.2⟩
/-- the region, by what each operation leaves -/
theorem region_opsV {P : Program} {id : Nat} {ops : Array Oper} {Q : Exit → Act → World → Prop} {a : Act} {w : World} (Fr : (Nat → Value) → World → Prop) (F : Nat → (Nat → Value) → World → Prop)
    (hm : P.follows .mixedOrders = true) (hlow : opLow 0 ops.toList = true) (hnd : dstNd ops.toList = true) (hsz : ops.toList.all (fun o => match o.dst with | some d => decide (d < a.tmps.size) | none => true) = true) (h0 : Fr (slotU a ops) w.drew) (hstep : StpsV P a ops Q Fr F 0 ops.toList)
    (hend : ∀ u w, Fr u w → (∀ i, i < ops.size → F i u w) → Q .normal (rgPut a u 0 ops.toList) w) : (Code.region id ops true).wp P Q a w :=
  region_opsU Fr F hm hlow hnd h0 (stpsV_u hnd hsz ops.toList 0 hstep) hend

end Go.Proofs.Ytjdbiaoheoialaa

/- A volume that is copied, turned, and put into a new box: a region that draws. -/
import Derived.Test.YtggiegfkmkaaeaaDoorRgi
import Derived.Test.YtggiegfkmkaaeaaDoorVsm
import Derived.Test.YtggiegfkmkaaeaaDoorTgn
import Derived.Test.YtggiegfkmkaaeaaDoorTsi
import Derived.Test.YtggiegfkmkaaeaaDoorTrc
import Derived.Test.YtggiegfkmkaaeaaDoorQup
namespace Go.Proofs.YtggiegfkmkaaeaaDoor
open Go.RowKit

/-- the step of one operation, its answer put into its slot -/
def StpU (P : Program) (a : Act) (ops : Array Oper) (Q : Exit → Act → World → Prop) (Fr : (Nat → Value) → World → Prop) (F : Nat → (Nat → Value) → World → Prop) (i : Nat) (o : Oper) : Prop :=
  ∀ (u : Nat → Value) (w : World) (au : Act), Hid (au = rgPut a u 0 ops.toList) → Hid (∀ j, j < ops.size → (j = i ∨ opFree ops i j = false) → u j = slotU a ops j) → Fr u w → PreF F u w (opPre o) → ∀ K : Act → World → Prop, Hid (∀ v w', Fr (upU u i v) w' → F i (upU u i v) w' → (∀ j, j ≠ i → opFree ops i j = true → F j u w → F j (upU u i v) w') → K (au.put o.dst v) w') →
    if Region.wanted o (yielded ops au.tmps) = true then Oper.wp P o au w K Q else K (au.put o.dst undef) w
def StpsU (P : Program) (a : Act) (ops : Array Oper) (Q : Exit → Act → World → Prop) (Fr : (Nat → Value) → World → Prop) (F : Nat → (Nat → Value) → World → Prop) : Nat → List Oper → Prop
  | _, [] => True
  | k, o :: l => StpU P a ops Q Fr F k o ∧ StpsU P a ops Q Fr F (k + 1) l
theorem stpsU_of {P : Program} {a : Act} {ops : Array Oper} {Q : Exit → Act → World → Prop} {Fr : (Nat → Value) → World → Prop} {F : Nat → (Nat → Value) → World → Prop} (hnd : dstNd ops.toList = true) :
    ∀ (l : List Oper) (k : Nat), (∀ i o, l[i]? = some o → ops.toList[k + i]? = some o) → StpsU P a ops Q Fr F k l → StpsF P ops Q (fun u => rgPut a u 0 ops.toList) Fr F (slotU a ops) k l
  | [], _, _, _ => trivial
  | o :: l, k, hl, h => by
    refine ⟨fun u w hu hF hp K hK => h.1 u w _ (hide rfl) (hide hu) hF hp K fun v w' hF' hi hoth => ?_, stpsU_of hnd l (k + 1) (fun i o ho => ?_) h.2⟩
    · have e := rgPut_up u v ops.toList 0 k a o hnd (by have := hl 0 o rfl; rwa [Nat.add_zero] at this)
      rw [Nat.zero_add] at e
      rw [e]
      exact hK.out _ w' (fun j hj => upU_other u v hj) hF' hi hoth
    · have := hl (i + 1) o (by simpa using ho)
      rwa [show k + (i + 1) = k + 1 + i by omega] at this
/-- the region, by what each operation leaves: the form for use -/
theorem region_opsU {P : Program} {id : Nat} {ops : Array Oper} {Q : Exit → Act → World → Prop} {a : Act} {w : World} (Fr : (Nat → Value) → World → Prop) (F : Nat → (Nat → Value) → World → Prop)
    (hm : P.follows .mixedOrders = true) (hlow : opLow 0 ops.toList = true) (hnd : dstNd ops.toList = true) (h0 : Fr (slotU a ops) w.drew) (hstep : StpsU P a ops Q Fr F 0 ops.toList)
    (hend : ∀ u w, Fr u w → (∀ i, i < ops.size → F i u w) → Q .normal (rgPut a u 0 ops.toList) w) : (Code.region id ops true).wp P Q a w := by
  have h := region_inv (id := id) (Q := Q) (w := w) (fun u => rgPut a u 0 ops.toList) (slotU a ops) Fr F hm hlow h0 (stpsU_of hnd ops.toList 0 (fun i o ho => by rwa [Nat.zero_add]) hstep) hend
  have e : rgPut a (slotU a ops) 0 ops.toList = a := rgPut_self ops.toList 0 fun j o ho d hd => by
    unfold slotU
    rw [Nat.zero_add]
    rw [Array.getElem?_toList] at ho
    rw [ho]
    simp only [hd]
  simp only [e] at h
  exact h

theorem step_guard {P : Program} {ops : Array Oper} {o : Oper} {a : Act} {w : World} {K : Act → World → Prop} {Q : Exit → Act → World → Prop} {E : Prop} {j : Nat} {b : Bool} {d : Tmp} {o' : Oper} (hg : o.guard = some (j, b)) (ho : ops[j]? = some o') (hd : o'.dst = some d) (hs : d < a.tmps.size) (hv : a.tmps[d]?.getD undef = .bool b) (h : Oper.wp P o a w K Q) : if Region.wanted o (yielded ops a.tmps) = true then Oper.wp P o a w K Q else E := by
  have hy : yielded ops a.tmps j = some b := by
    unfold yielded
    rw [ho]
    simp only [Option.bind_some, hd]
    rw [Array.getElem?_eq_getElem hs] at hv ⊢
    simp only [Option.getD_some] at hv
    rw [hv]
  rw [if_pos (by simp [Region.wanted, hg, hy])]; exact h

end Go.Proofs.YtggiegfkmkaaeaaDoor

namespace Go.Proofs.YtggiegfkmkaaeaaDoor
open Go.RowKit

/-- a volume of the call's own, apart from the box that slot 6 points to -/
def VoA (wB : World) (X : Int) (n : Nat) (u : Nat → Value) (v : Value) (f : Nat → Int) (w : World) : Prop :=
  ∃ b cp, v = vVolume X X X (some ⟨b, 0, none⟩) n cp ∧ Row b n f w ∧ wB.heap.size ≤ b ∧ ∀ M, u 6 = .pointer (some ⟨M, 0, none⟩) → M ≠ b
/-- what each operation leaves -/
def tgF (wB : World) (X : Int) (n : Nat) (G : Nat → Value → Prop) (fo : Nat → Option (Nat → Int)) (f5 : Nat → Int) (j : Nat) (u : Nat → Value) (w : World) : Prop :=
  G j (u j) ∧ (∀ f, fo j = some f → u 7 ≠ undef ∨ VoA wB X n u (u j) f w) ∧ (j = 6 → ∃ M, u 6 = .pointer (some ⟨M, 0, none⟩)) ∧
  (j = 7 → ∃ M b cp, u 6 = .pointer (some ⟨M, 0, none⟩) ∧ wB.heap.size ≤ M ∧ wB.heap.size ≤ b ∧ M ≠ b ∧ Bx M [.int .i64 X, .int .i64 X, .int .i64 X, .slice (some ⟨b, 0, none⟩) n cp] w ∧ Row b n f5 w)
/-- what stays -/
def tgR (wB : World) (u : Nat → Value) (w : World) : Prop :=
  Below wB.heap.size wB w ∧ ∀ M, u 6 = .pointer (some ⟨M, 0, none⟩) → u 7 ≠ undef ∨ (wB.heap.size ≤ M ∧ Bx M [.int .i64 0, .int .i64 0, .int .i64 0, .slice none 0 0] w)
theorem Bx.lt {b : Nat} {v : Value} {vs : List Value} {w : World} (h : Bx b (v :: vs) w) : b < w.heap.size := World.block_lt_of_cell? w ⟨b, 0, none⟩ (h 0 v rfl).1
theorem Row.lt {b n : Nat} {f : Nat → Int} {w : World} (h : Row b n f w) (hn : 1 ≤ n) : b < w.heap.size := World.block_lt_of_cell? w ⟨b, 0, none⟩ (h 0 (by omega)).1
theorem tgR_up {wB : World} {u : Nat → Value} {w w' : World} (h : tgR wB u w) (hb : Below w.heap.size w w') (i : Nat) (hi : i < 6) (v : Value) : tgR wB (upU u i v) w' := by
  refine ⟨h.1.trans (hb.mono h.1.size), fun M hM => ?_⟩
  rw [upU_other u v (by omega)] at hM ⊢
  rcases h.2 M hM with h1 | h1
  · exact .inl h1
  · exact .inr ⟨h1.1, h1.2.below hb h1.2.lt⟩
theorem VoA.up {wB : World} {X : Int} {n : Nat} {u : Nat → Value} {x : Value} {f : Nat → Int} {w w' : World} (hn : 1 ≤ n) (h : VoA wB X n u x f w) (hb : Below w.heap.size w w') (i : Nat) (hi : i ≠ 6) (v : Value) : VoA wB X n (upU u i v) x f w' := by
  obtain ⟨b, cp, e, hr, hB, hM⟩ := h
  exact ⟨b, cp, e, hr.below hb (hr.lt hn), hB, fun M h => hM M (by rwa [upU_other u v (Ne.symm hi)] at h)⟩
theorem tgF_up {wB : World} {X : Int} {n : Nat} {G : Nat → Value → Prop} {fo : Nat → Option (Nat → Int)} {f5 : Nat → Int} {u : Nat → Value} {w w' : World} (hn : 1 ≤ n) (hb : Below w.heap.size w w') (i : Nat) (hi : i < 6) (v : Value) (j : Nat) (hj : j ≠ i) (h : tgF wB X n G fo f5 j u w) : tgF wB X n G fo f5 j (upU u i v) w' := by
  obtain ⟨h1, h2, h3, h4⟩ := h
  refine ⟨by rw [upU_other u v hj]; exact h1, fun f hf => ?_, fun e => ?_, fun e => ?_⟩
  · rw [upU_other u v hj, upU_other u v (show 7 ≠ i by omega)]
    exact (h2 f hf).imp id fun h => h.up hn hb i (by omega) v
  · rw [upU_other u v (show 6 ≠ i by omega)]; exact h3 e
  · obtain ⟨M, b, cp, a1, a2, a3, a4, a5, a6⟩ := h4 e
    exact ⟨M, b, cp, by rw [upU_other u v (show 6 ≠ i by omega)]; exact a1, a2, a3, a4, a5.below hb a5.lt, a6.below hb (a6.lt hn)⟩
/-- a new box -/
theorem tgR_al {wB : World} {u : Nat → Value} {w : World} (h : tgR wB u w) (t : TypeId) :
    tgR wB (upU u 6 (.pointer (some ⟨w.heap.size, 0, none⟩))) (w.alloc (.cells #[.int .i64 0, .int .i64 0, .int .i64 0, .slice none 0 0] t)) := by
  have hb := bnew w (.cells #[.int .i64 0, .int .i64 0, .int .i64 0, .slice none 0 0] t)
  refine ⟨h.1.trans (hb.mono h.1.size), fun M hM => ?_⟩
  rw [upU_same] at hM
  cases hM
  exact .inr ⟨h.1.size, Bx.new [.int .i64 0, .int .i64 0, .int .i64 0, .slice none 0 0] t w⟩
theorem tgF_al {wB : World} {X : Int} {n : Nat} {G : Nat → Value → Prop} {fo : Nat → Option (Nat → Int)} {f5 : Nat → Int} {u : Nat → Value} {w : World} (hn : 1 ≤ n) (t : TypeId) (j : Nat) (hj : j ≠ 6) (h7 : j ≠ 7) (h : tgF wB X n G fo f5 j u w) :
    tgF wB X n G fo f5 j (upU u 6 (.pointer (some ⟨w.heap.size, 0, none⟩))) (w.alloc (.cells #[.int .i64 0, .int .i64 0, .int .i64 0, .slice none 0 0] t)) := by
  have hb := bnew w (.cells #[.int .i64 0, .int .i64 0, .int .i64 0, .slice none 0 0] t)
  obtain ⟨h1, h2, h3, h4⟩ := h
  refine ⟨by rw [upU_other _ _ hj]; exact h1, fun f hf => ?_, fun e => absurd e hj, fun e => absurd e h7⟩
  rw [upU_other _ _ hj, upU_other _ _ (show 7 ≠ 6 by omega)]
  refine (h2 f hf).imp id fun h => ?_
  obtain ⟨b, cp, e, hr, hB, hM⟩ := h
  refine ⟨b, cp, e, hr.below hb (hr.lt hn), hB, fun M hM' => ?_⟩
  rw [upU_same] at hM'
  cases hM'
  have := hr.lt hn
  omega
/-- the box is filled -/
theorem tgR_st {wB : World} {u : Nat → Value} {w : World} (h : tgR wB u w) {M : Nat} (hM : wB.heap.size ≤ M) (x0 x1 x2 x3 : Value) {v : Value} (hv : v ≠ undef) : tgR wB (upU u 7 v) (set4 w M x0 x1 x2 x3) :=
  ⟨below_set4 h.1 hM _ _ _ _, fun _ _ => .inl (by rw [upU_same]; exact hv)⟩
theorem tgF_st {wB : World} {X : Int} {n : Nat} {G : Nat → Value → Prop} {fo : Nat → Option (Nat → Int)} {f5 : Nat → Int} {u : Nat → Value} {w w' : World} {v : Value} (hv : v ≠ undef) (j : Nat) (hj : j ≠ 7) (h : tgF wB X n G fo f5 j u w) : tgF wB X n G fo f5 j (upU u 7 v) w' := by
  obtain ⟨h1, h2, h3, h4⟩ := h
  exact ⟨by rw [upU_other _ _ hj]; exact h1, fun f hf => .inl (by rw [upU_same]; exact hv), fun e => by rw [upU_other _ _ (show 6 ≠ 7 by omega)]; exact h3 e, fun e => absurd e hj⟩
theorem Row.far4 {b n c : Nat} {f : Nat → Int} {w : World} (h : Row b n f w) (hc : c ≠ b) (x0 x1 x2 x3 : Value) : Row b n f (set4 w c x0 x1 x2 x3) := (((h.set hc _).set hc _).set hc _).set hc _

end Go.Proofs.YtggiegfkmkaaeaaDoor

/- Descend: one round of the program. -/
import Derived.Test.YtedjnemijeaeoaaDcn
import Derived.Lib.MinMax
import Derived.OrdersIn
import Derived.Test.YtedjnemijeaeoaaRgv
import Derived.Test.YtedjnemijeaeoaaIlf
namespace Go.Proofs.Ytedjnemijeaeoaa
open Go.RowKit

/-- a list with one number written anew -/
def updN (s : Nat → Int) (k : Nat) (v : Int) (q : Nat) : Int := if q = k then v else s q
/-- the first k numbers of F, then noughts -/
def hyb (F : Nat → Int) (k : Nat) (q : Nat) : Int := if q < k then F q else 0
theorem updN_hyb (F : Nat → Int) (k : Nat) : updN (hyb F k) k (F k) = hyb F (k + 1) := by
  funext q
  unfold updN hyb
  by_cases h : q = k
  · subst h; simp
  · by_cases h2 : q < k
    · rw [if_neg h, if_pos h2, if_pos (by omega)]
    · rw [if_neg h, if_neg h2, if_neg (by omega)]
theorem updN_upd (s : Nat → Int) (k : Nat) (u v : Int) : updN (updN s k u) k v = updN s k v := by
  funext q
  unfold updN
  split <;> rfl
theorem Row.updN {b n : Nat} {s : Nat → Int} {w : World} (h : Row b n s w) {k : Nat} (hk : k < n) (v : Int) : Row b n (updN s k v) (w.setCell ⟨b, k, none⟩ (.int .i64 v)) := fun q hq => by
  have h0 := h q hq
  refine ⟨?_, by simpa using h0.2⟩
  by_cases e : q = k
  · subst e
    rw [World.cell?_setCell_same _ _ _ (h q hq).1]
    unfold Go.Proofs.Ytedjnemijeaeoaa.updN
    simp
  · rw [World.cell?_setCell_other _ _ _ _ (by simp; try omega)]
    unfold Go.Proofs.Ytedjnemijeaeoaa.updN
    rw [if_neg e]
    exact h0.1
/-- an own list, one number of which is written -/
theorem St.upd {w0 : World} {L : List BoxT} {O : List OwnT} {w : World} {b n : Nat} {s : Nat → Int} (h : St w0 L ((some ⟨b, 0, none⟩, b, n, fun q => .int .i64 (s q)) :: O) w) {k : Nat} (hk : k < n) (v : Int) :
    St w0 L ((some ⟨b, 0, none⟩, b, n, fun q => .int .i64 (updN s k v q)) :: O) (w.setCell ⟨b, k, none⟩ (.int .i64 v)) := by
  have h0 : n ≠ 0 := by omega
  refine h.mark0 h0 ((Kept.refl b w).setCell rfl _) ?_
  rcases h.nthO 0 rfl with h1 | ⟨_, h1⟩
  · exact absurd h1 h0
  · exact (Row.updN h1 hk v).v
/-- a cell of an own list -/
theorem St.atO {w0 : World} {L : List BoxT} {O : List OwnT} {w : World} {b n : Nat} {s : Nat → Int} (h : St w0 L ((some ⟨b, 0, none⟩, b, n, fun q => .int .i64 (s q)) :: O) w) {k : Nat} (hk : k < n) :
    w.cell? ⟨b, k, none⟩ = some (.int .i64 (s k)) ∧ w.frozen? ⟨b, k, none⟩ = false := by
  rcases h.nthO 0 rfl with h1 | ⟨_, h1⟩
  · omega
  · exact h1 k hk

end Go.Proofs.Ytedjnemijeaeoaa

namespace Go.Proofs.Ytedjnemijeaeoaa
open Go.RowKit

theorem clp_mm (x : Int) : min (max x (-4095)) 4095 = clp x := by
  unfold clp; omega

set_option maxRecDepth 100000 in
set_option maxHeartbeats 1000000 in
theorem nearest_any (x : Int) (y : Nat) (hy : 1 ≤ y) (hy2 : y ≤ 64) (hx : -10462240 ≤ x ∧ x ≤ 10462240) (w : World) :
    Calls Try.prog 59 #[.int .i64 x, .int .i64 y] w fun e w' => e = .returned (.int .i64 (nst x y)) ∧ w' = w := by
  have cM := n_modulo_any x y hy (by omega)
  have h1 := Int.emod_nonneg x (show (y : Int) ≠ 0 by omega)
  have h2 := Int.emod_lt_of_pos x (show (0 : Int) < (y : Int) by omega)
  have h3 := Int.emod_add_mul_ediv x (y : Int)
  have hN := nst_eq x hy
  have hy0 : ((y : Int) == 0) = false := by simp; omega
  obtain ⟨q, hq⟩ : ∃ q, q = x / (y : Int) := ⟨_, rfl⟩
  obtain ⟨L, hL⟩ : ∃ L, L = x % (y : Int) := ⟨_, rfl⟩
  have hqb : -10462241 ≤ q ∧ q ≤ 10462241 := by
    rw [hq]
    refine ⟨?_, ?_⟩
    · rw [Int.le_ediv_iff_mul_le (by omega)]
      have : (10462241 : Int) * 1 ≤ 10462241 * (y : Int) := Int.mul_le_mul_of_nonneg_left (by omega) (by omega)
      omega
    · have h5 : x / (y : Int) < 10462242 := by
        rw [Int.ediv_lt_iff_lt_mul (by omega)]
        have : (10462242 : Int) * 1 ≤ 10462242 * (y : Int) := Int.mul_le_mul_of_nonneg_left (by omega) (by omega)
        omega
      omega
  rw [← hq, ← hL] at hN
  rw [← hL] at cM h1 h2 h3
  rw [← hq] at h3
  have hd : (x - L).tdiv (y : Int) = q := by
    rw [show x - L = (y : Int) * q by omega]
    exact Int.mul_tdiv_cancel_left _ (by omega)
  generalize nst x y = V at *
  have w1 : IntKind.i64.wrap (x - L) = x - L := by rw [IntKind.wrap_i64]; omega
  have w2 : IntKind.i64.wrap q = q := by rw [IntKind.wrap_i64]; omega
  have w3 : IntKind.i64.wrap ((y : Int) - L) = (y : Int) - L := by rw [IntKind.wrap_i64]; omega
  by_cases hc : (y : Int) - L ≤ L
  · rw [if_pos hc] at hN
    have w4 : IntKind.i64.wrap (q + 1) = V := by rw [IntKind.wrap_i64]; omega
    clear hq hL h1 h2 h3 hqb hx hN
    go_enter Try.func59, Try.ntmps59
    go_wp2_with fail
    refine (cM _).mono ?_
    rintro e w' ⟨rfl, rfl⟩
    go_wp2_with fail
    go_ret
    exact ⟨rfl, rfl⟩
  · rw [if_neg hc] at hN
    subst hN
    clear hq hL h1 h2 h3 hqb hx
    go_enter Try.func59, Try.ntmps59
    go_wp2_with fail
    refine (cM _).mono ?_
    rintro e w' ⟨rfl, rfl⟩
    go_wp2_with fail
    go_ret
    exact ⟨rfl, rfl⟩

end Go.Proofs.Ytedjnemijeaeoaa

namespace Go.Proofs.Ytedjnemijeaeoaa
open Go.RowKit

/-- until the store, the world is as it was -/
def sR (S : Nat) (wB : World) (u : Nat → Value) (w : World) : Prop := u S = undef → w = wB.drew
def sF (S : Nat) (G : Nat → Value → Prop) (P : World → Prop) (j : Nat) (u : Nat → Value) (w : World) : Prop := G j (u j) ∧ (j = S → P w)
theorem sR_up {S : Nat} {wB : World} {u : Nat → Value} {w : World} (h : sR S wB u w) (i : Nat) (hS : S ≠ i) (v : Value) : sR S wB (upU u i v) w := fun h0 => h (by rwa [upU_other u v hS] at h0)
theorem sF_up {S : Nat} {G : Nat → Value → Prop} {P : World → Prop} {u : Nat → Value} {w w' : World} (i : Nat) (v : Value) (j : Nat) (hj : j ≠ i) (hjS : j ≠ S) (h : sF S G P j u w) : sF S G P j (upU u i v) w' :=
  ⟨by rw [upU_other u v hj]; exact h.1, fun e => absurd e hjS⟩
theorem sF_val {S : Nat} {G : Nat → Value → Prop} {P : World → Prop} {u : Nat → Value} {w : World} (j : Nat) (hS : j ≠ S) {v : Value} (h : G j v) : sF S G P j (upU u j v) w :=
  ⟨by rw [upU_same]; exact h, fun e => absurd e hS⟩
theorem sR_st {S : Nat} {wB : World} {u : Nat → Value} {w : World} {v : Value} (hv : v ≠ undef) : sR S wB (upU u S v) w := fun h => absurd (by rwa [upU_same] at h) hv
theorem sF_st {S : Nat} {G : Nat → Value → Prop} {P : World → Prop} {u : Nat → Value} {w : World} {v : Value} (hG : G S v) (hP : P w) : sF S G P S (upU u S v) w :=
  ⟨by rw [upU_same]; exact hG, fun _ => hP⟩
theorem sF_keep {S : Nat} {G : Nat → Value → Prop} {P : World → Prop} {u : Nat → Value} {w w' : World} (v : Value) (j : Nat) (hj : j ≠ S) (h : sF S G P j u w) : sF S G P j (upU u S v) w' :=
  ⟨by rw [upU_other u v hj]; exact h.1, fun e => absurd e hj⟩

end Go.Proofs.Ytedjnemijeaeoaa

namespace Go.Proofs.Ytedjnemijeaeoaa
open Go.RowKit

theorem wpOpIn_stepI {Fc : Fence} {nn : Nat} (hFn : ∀ f, Fc.fn f) {P : Program} {ops : Array Oper} {Q : Exit → Act → World → Prop} {i : Nat} {o : Oper} (ho : ops[i]? = some o) {K : Act → World → Prop} {a : Act} {w : World}
    (h : ∀ K' : Act → World → Prop, (∀ a w, K a w → K' a w) → if Region.wanted o (yielded ops a.tmps) = true then Oper.wpIn Fc nn P o a w K' Q else K' (a.put o.dst undef) w) : wpOpIn Fc nn P ops Q i K a w := by
  have h1 := h K (fun _ _ h => h)
  unfold wpOpIn
  rw [ho]
  simp only
  split
  · rename_i hw; rw [if_pos hw] at h1; exact h1
  · rename_i hw; rw [if_neg hw] at h1; exact ⟨fun f _ => hFn f, h1⟩

/-- the step of one operation -/
def StpFI (Fc : Fence) (nn : Nat) (P : Program) (ops : Array Oper) (Q : Exit → Act → World → Prop) (A : (Nat → Value) → Act) (Fr : (Nat → Value) → World → Prop) (F : Nat → (Nat → Value) → World → Prop) (u0 : Nat → Value) (i : Nat) (o : Oper) : Prop :=
  ∀ (u : Nat → Value) (w : World), (∀ j, j < ops.size → (j = i ∨ opFree ops i j = false) → u j = u0 j) → Fr u w → PreF F u w (opPre o) → ∀ K : Act → World → Prop, Hid (∀ u' w', (∀ j, j ≠ i → u' j = u j) → Fr u' w' → F i u' w' → (∀ j, j ≠ i → opFree ops i j = true → F j u w → F j u' w') → K (A u') w') →
    if Region.wanted o (yielded ops (A u).tmps) = true then Oper.wpIn Fc nn P o (A u) w K Q else K ((A u).put o.dst undef) w
/-- the steps of all -/
def StpsFI (Fc : Fence) (nn : Nat) (P : Program) (ops : Array Oper) (Q : Exit → Act → World → Prop) (A : (Nat → Value) → Act) (Fr : (Nat → Value) → World → Prop) (F : Nat → (Nat → Value) → World → Prop) (u0 : Nat → Value) : Nat → List Oper → Prop
  | _, [] => True
  | k, o :: l => StpFI Fc nn P ops Q A Fr F u0 k o ∧ StpsFI Fc nn P ops Q A Fr F u0 (k + 1) l
theorem stps_atI {Fc : Fence} {nn : Nat} {P : Program} {ops : Array Oper} {Q : Exit → Act → World → Prop} {A : (Nat → Value) → Act} {Fr : (Nat → Value) → World → Prop} {F : Nat → (Nat → Value) → World → Prop} {u0 : Nat → Value} :
    ∀ (l : List Oper) (k i : Nat) (o : Oper), StpsFI Fc nn P ops Q A Fr F u0 k l → l[i]? = some o → StpFI Fc nn P ops Q A Fr F u0 (k + i) o
  | [], _, _, _, _, h => by simp at h
  | x :: l, k, 0, o, h, ho => by
    simp only [List.getElem?_cons_zero, Option.some.injEq] at ho
    subst ho; exact h.1
  | x :: l, k, i + 1, o, h, ho => by
    simp only [List.getElem?_cons_succ] at ho
    have := stps_atI l (k + 1) i o h.2 ho
    rwa [show k + 1 + i = k + (i + 1) by omega] at this
theorem inv_anyI {Fc : Fence} {nn : Nat} (hFn : ∀ f, Fc.fn f) {P : Program} {ops : Array Oper} {Q : Exit → Act → World → Prop} {A : (Nat → Value) → Act} {Fr : (Nat → Value) → World → Prop} {F : Nat → (Nat → Value) → World → Prop} {u0 : Nat → Value}
    (hlow : opLow 0 ops.toList = true) (hstep : StpsFI Fc nn P ops Q A Fr F u0 0 ops.toList) (hend : ∀ u w, Fr u w → (∀ i, i < ops.size → F i u w) → Q .normal (A u) w) :
    ∀ (fuel : Nat) (listed : Array Bool) (u : Nat → Value) (w : World), listed.size = ops.size → unD ops.size listed ≤ fuel → (∀ i j o, ops[j]? = some o → listed.getD j true = true → i ∈ opPre o → listed.getD i true = true) → (∀ i, i < ops.size → listed.getD i true = false → u i = u0 i) → Fr u w → (∀ i, i < ops.size → listed.getD i true = true → F i u w) → wpAnyIn Fc nn P .any ops Q fuel listed (A u) w := by
  have done : ∀ listed : Array Bool, listed.size = ops.size → Region.ready .any ops listed = [] → ∀ i, i < ops.size → listed.getD i true = true := fun listed hs hr i => by
    induction i using Nat.strongRecOn with
    | _ i ih =>
      intro hi
      cases hl : listed.getD i true
      · exfalso
        have hm : i ∈ Region.ready .any ops listed := by
          unfold Region.ready
          refine List.mem_filter.2 ⟨List.mem_range.2 hi, ?_⟩
          obtain ⟨o, ho⟩ : ∃ o, ops[i]? = some o := ⟨_, Array.getElem?_eq_getElem hi⟩
          rw [hl, ho]
          simp only [Bool.not_false, Bool.true_and, Option.map_some, Option.getD_some]
          rw [Array.all_eq_true_iff_forall_mem]
          intro e he
          cases hb : Region.binds .any e
          · rfl
          · have hj : e.on ∈ opPre o := List.mem_map.2 ⟨e, List.mem_filter.2 ⟨Array.mem_toList_iff.2 he, hb⟩, rfl⟩
            have hlt := opLow_at ops.toList 0 i o hlow (by rw [Array.getElem?_toList]; exact ho) e.on hj
            have := ih e.on (by omega) (by omega)
            rw [getD_any (by omega) false true, this]; rfl
        rw [hr] at hm; cases hm
      · rfl
  intro fuel
  induction fuel with
  | zero =>
    intro listed u w hs hf hcl hsl hF hall
    have hl : ∀ i, i < ops.size → listed.getD i true = true := fun i hi => by
      cases h : listed.getD i true
      · exfalso
        have : i ∈ (List.range ops.size).filter fun i => !listed.getD i true := List.mem_filter.2 ⟨List.mem_range.2 hi, by rw [h]; rfl⟩
        have h0 : ((List.range ops.size).filter fun i => !listed.getD i true) = [] := List.length_eq_zero_iff.1 (by unfold unD at hf; omega)
        rw [h0] at this; cases this
      · rfl
    refine ⟨?_, hend u w hF fun i hi => hall i hi (hl i hi)⟩
    unfold Region.ready
    rw [List.filter_eq_nil_iff]
    intro i hi
    rw [hl i (List.mem_range.1 hi)]; simp
  | succ fuel ih =>
    intro listed u w hs hf hcl hsl hF hall
    refine ⟨fun hr => hend u w hF fun i hi => hall i hi (done listed hs hr i hi), fun i hi => ?_⟩
    unfold Region.ready at hi
    obtain ⟨h1, h2⟩ := List.mem_filter.1 hi
    have hil := List.mem_range.1 h1
    obtain ⟨o, ho⟩ : ∃ o, ops[i]? = some o := ⟨_, Array.getElem?_eq_getElem hil⟩
    rw [ho] at h2
    simp only [Option.map_some, Option.getD_some, Bool.and_eq_true, Bool.not_eq_true'] at h2
    obtain ⟨hun, hpre⟩ := h2
    rw [Array.all_eq_true_iff_forall_mem] at hpre
    have late : ∀ j, (j = i ∨ opFree ops i j = false) → listed.getD j true = false := fun j hc => by
      rcases hc with rfl | hc
      · exact hun
      · cases hl : listed.getD j true
        · rfl
        · exfalso
          have ha : opAnc ops i ops.size j = true := by unfold opFree at hc; simpa using hc
          have := anc_done (D := fun q => listed.getD q true = true) (fun q j o ho hj hq => hcl q j o ho hj hq) ops.size j ha hl
          rw [hun] at this; cases this
    have hst := stps_atI ops.toList 0 i o hstep (by rw [Array.getElem?_toList]; exact ho)
    rw [Nat.zero_add] at hst
    refine wpOpIn_stepI hFn ho fun K' hK => hst u w (fun j hj hc => hsl j hj (late j hc)) hF (preF_of fun j hj => ?_) K' fun u' w' hun' hF' hi' hoth => hK _ _ (ih (listed.setIfInBounds i true) u' w' (by rw [Array.size_setIfInBounds]; exact hs) ?_ ?_ ?_ hF' fun j hj hjl => ?_)
    · obtain ⟨e, he, rfl⟩ := List.mem_map.1 hj
      obtain ⟨he1, he2⟩ := List.mem_filter.1 he
      have hlt := opLow_at ops.toList 0 i o hlow (by rw [Array.getElem?_toList]; exact ho) e.on hj
      have := hpre e (Array.mem_toList_iff.1 he1)
      rw [he2] at this
      simp only [Bool.not_true, Bool.false_or] at this
      exact hall e.on (by omega) (by rw [getD_any (by omega) true false]; exact this)
    · have := unD_set hs hil hun
      omega
    · intro q j oj hoj hjl hq
      have hjs : j < ops.size := (Array.getElem?_eq_some_iff.1 hoj).1
      have hqj := opLow_at ops.toList 0 j oj hlow (by rw [Array.getElem?_toList]; exact hoj) q hq
      have up : ∀ x, x < ops.size → x ≠ i → (listed.setIfInBounds i true).getD x true = listed.getD x true := fun x hx e => by
        have hx' : x < listed.size := by omega
        simp [Array.getD, hx', Ne.symm e]
      have us : (listed.setIfInBounds i true).getD i true = true := by
        have hi' : i < listed.size := by omega
        simp [Array.getD, hi']
      by_cases e2 : q = i
      · rw [e2]; exact us
      · rw [up q (by omega) e2]
        by_cases e : j = i
        · subst e
          rw [ho] at hoj
          cases hoj
          obtain ⟨e', he', rfl⟩ := List.mem_map.1 hq
          obtain ⟨he1, he2⟩ := List.mem_filter.1 he'
          have := hpre e' (Array.mem_toList_iff.1 he1)
          rw [he2] at this
          simp only [Bool.not_true, Bool.false_or] at this
          rw [getD_any (by omega) true false]; exact this
        · rw [up j hjs e] at hjl
          exact hcl q j oj hoj hjl hq
    · intro j hj hjl
      have hj' : j < listed.size := by omega
      have e : j ≠ i := fun e => by subst e; simp [Array.getD, hj'] at hjl
      rw [hun' j e]
      refine hsl j hj ?_
      simp [Array.getD, hj', Ne.symm e] at hjl ⊢
      exact hjl
    · by_cases e : j = i
      · subst e; exact hi'
      · have hjl' : listed.getD j true = true := by
          have hj' : j < listed.size := by omega
          simp [Array.getD, hj', Ne.symm e] at hjl ⊢
          exact hjl
        refine hoth j e ?_ (hall j hj hjl')
        unfold opFree
        cases hc : opAnc ops i ops.size j
        · rfl
        · exfalso
          have := anc_done (D := fun q => listed.getD q true = true) (fun q j o ho hj hq => hcl q j o ho hj hq) ops.size j hc hjl'
          rw [hun] at this; cases this
/-- the region, by what each operation leaves -/
theorem region_invI {Fc : Fence} {nn : Nat} (hFn : ∀ f, Fc.fn f) {P : Program} {id : Nat} {ops : Array Oper} {Q : Exit → Act → World → Prop} {w : World} (A : (Nat → Value) → Act) (u0 : Nat → Value) (Fr : (Nat → Value) → World → Prop) (F : Nat → (Nat → Value) → World → Prop)
    (hm : P.follows .mixedOrders = true) (hlow : opLow 0 ops.toList = true) (h0 : Fr u0 w.drew) (hstep : StpsFI Fc nn P ops Q A Fr F u0 0 ops.toList)
    (hend : ∀ u w, Fr u w → (∀ i, i < ops.size → F i u w) → Q .normal (A u) w) : (Code.region id ops true).wpIn Fc nn P Q (A u0) w :=
  wpIn_region_any hm (inv_anyI hFn hlow hstep hend ops.size (Array.replicate ops.size false) u0 w.drew (by simp) (by unfold unD; exact Nat.le_trans (List.length_filter_le ..) (by simp)) (fun i j o hoj hl _ => by
    have hj : j < ops.size := (Array.getElem?_eq_some_iff.1 hoj).1
    simp [Array.getD, hj] at hl) (fun _ _ _ => rfl) h0 fun i hi hl => by
    simp [Array.getD, hi] at hl)
/-- the step of one operation -/
def StpVI (Fc : Fence) (nn : Nat) (P : Program) (a : Act) (ops : Array Oper) (Q : Exit → Act → World → Prop) (Fr : (Nat → Value) → World → Prop) (F : Nat → (Nat → Value) → World → Prop) (i : Nat) (o : Oper) : Prop :=
  ∀ (u : Nat → Value) (w : World) (au : Act), Hid (∀ j d, (ops.toList[j]?.bind (·.dst)) = some d → au.tmps[d]?.getD undef = u j) → Hid (∀ d, ops.toList.all (fun o => o.dst != some d) = true → au.tmps[d]?.getD undef = a.tmps[d]?.getD undef) → Hid (∀ j, j < ops.size → (j = i ∨ opFree ops i j = false) → u j = slotU a ops j) → Fr u w → PreF F u w (opPre o) → ∀ K : Act → World → Prop, Hid (∀ v w', Fr (upU u i v) w' → F i (upU u i v) w' → (∀ j, j ≠ i → opFree ops i j = true → F j u w → F j (upU u i v) w') → K (au.put o.dst v) w') →
    if Region.wanted o (yielded ops au.tmps) = true then Oper.wpIn Fc nn P o au w K Q else K (au.put o.dst undef) w
def StpsVI (Fc : Fence) (nn : Nat) (P : Program) (a : Act) (ops : Array Oper) (Q : Exit → Act → World → Prop) (Fr : (Nat → Value) → World → Prop) (F : Nat → (Nat → Value) → World → Prop) : Nat → List Oper → Prop
  | _, [] => True
  | k, o :: l => StpVI Fc nn P a ops Q Fr F k o ∧ StpsVI Fc nn P a ops Q Fr F (k + 1) l
theorem stpsVI_of {Fc : Fence} {nn : Nat} {P : Program} {a : Act} {ops : Array Oper} {Q : Exit → Act → World → Prop} {Fr : (Nat → Value) → World → Prop} {F : Nat → (Nat → Value) → World → Prop} (hnd : dstNd ops.toList = true) (hsz : ops.toList.all (fun o => match o.dst with | some d => decide (d < a.tmps.size) | none => true) = true) :
    ∀ (l : List Oper) (k : Nat), (∀ i o, l[i]? = some o → ops.toList[k + i]? = some o) → StpsVI Fc nn P a ops Q Fr F k l → StpsFI Fc nn P ops Q (fun u => rgPut a u 0 ops.toList) Fr F (slotU a ops) k l
  | [], _, _, _ => trivial
  | o :: l, k, hl, h => by
    refine ⟨fun u w hu hF hp K hK => h.1 u w _ (fun j d hj => ?_) (fun d hd => ?_) (hide hu) hF hp K fun v w' hF' hi hoth => ?_, stpsVI_of hnd hsz l (k + 1) (fun i o ho => ?_) h.2⟩
    · have hlt : d < a.tmps.size := by
        cases ho : ops.toList[j]? with
        | none => rw [ho] at hj; cases hj
        | some x =>
          rw [ho] at hj
          have hx : x.dst = some d := hj
          have := List.all_eq_true.1 hsz x (List.mem_of_getElem? ho)
          rw [hx] at this
          simpa using this
      rw [rgPut_at u ops.toList 0 a j hnd hj hlt, Nat.zero_add]
      rfl
    · rw [rgPut_else u ops.toList 0 a hd]
    · have e := rgPut_up u v ops.toList 0 k a o hnd (by have := hl 0 o rfl; rwa [Nat.add_zero] at this)
      rw [Nat.zero_add] at e
      rw [e]
      exact hK.out _ w' (fun j hj => upU_other u v hj) hF' hi hoth
    · have := hl (i + 1) o (by simpa using ho)
      rwa [show k + (i + 1) = k + 1 + i by omega] at this
/-- the region, by what each operation leaves -/
theorem region_opsVI {Fc : Fence} {nn : Nat} (hFn : ∀ f, Fc.fn f) {P : Program} {id : Nat} {ops : Array Oper} {Q : Exit → Act → World → Prop} {a : Act} {w : World} (Fr : (Nat → Value) → World → Prop) (F : Nat → (Nat → Value) → World → Prop)
    (hm : P.follows .mixedOrders = true) (hlow : opLow 0 ops.toList = true) (hnd : dstNd ops.toList = true) (hsz : ops.toList.all (fun o => match o.dst with | some d => decide (d < a.tmps.size) | none => true) = true) (h0 : Fr (slotU a ops) w.drew) (hstep : StpsVI Fc nn P a ops Q Fr F 0 ops.toList)
    (hend : ∀ u w, Fr u w → (∀ i, i < ops.size → F i u w) → Q .normal (rgPut a u 0 ops.toList) w) : (Code.region id ops true).wpIn Fc nn P Q a w := by
  have h := region_invI (id := id) (Q := Q) (w := w) hFn (fun u => rgPut a u 0 ops.toList) (slotU a ops) Fr F hm hlow h0 (stpsVI_of hnd hsz ops.toList 0 (fun i o ho => by rwa [Nat.zero_add]) hstep) hend
  have e : rgPut a (slotU a ops) 0 ops.toList = a := rgPut_self ops.toList 0 fun j o ho d hd => by
    unfold slotU
    rw [Nat.zero_add]
    rw [Array.getElem?_toList] at ho
    rw [ho]
    simp only [hd]
  simp only [e] at h
  exact h
theorem step_plainI {Fc : Fence} {nn : Nat} {P : Program} {ops : Array Oper} {o : Oper} {a : Act} {w : World} {K : Act → World → Prop} {Q : Exit → Act → World → Prop} {E : Prop} (hg : o.guard = none) (h : Oper.wpIn Fc nn P o a w K Q) : if Region.wanted o (yielded ops a.tmps) = true then Oper.wpIn Fc nn P o a w K Q else E := by
  rw [if_pos (by simp [Region.wanted, hg])]; exact h

end Go.Proofs.Ytedjnemijeaeoaa

namespace Go.Proofs.Ytedjnemijeaeoaa
open Go.RowKit

/-- all blocks that there were, but those of S, are as they were -/
structure KpS (S : Nat → Prop) (w w' : World) : Prop where
  os : w'.os = w.os
  tape : w'.tape = w.tape
  output : w'.output = w.output
  size : w.heap.size ≤ w'.heap.size
  block : ∀ b, b < w.heap.size → ¬ S b → w'.heap[b]? = w.heap[b]?
theorem KpS.of_below {S : Nat → Prop} {w w' : World} (h : Below w.heap.size w w') : KpS S w w' := ⟨h.os, h.tape, h.output, h.size, fun k hk _ => h.block k hk⟩
theorem KpS.refl (S : Nat → Prop) (w : World) : KpS S w w := KpS.of_below (Below.refl _ _)
theorem KpS.next {S : Nat → Prop} {a b c : World} (h : KpS S a b) (k : Below b.heap.size b c) : KpS S a c :=
  ⟨k.os.trans h.os, k.tape.trans h.tape, k.output.trans h.output, Nat.le_trans h.size k.size, fun j hj hp => (k.block j (Nat.lt_of_lt_of_le hj h.size)).trans (h.block j hj hp)⟩
theorem KpS.trans {S : Nat → Prop} {a b c : World} (h : KpS S a b) (k : KpS S b c) : KpS S a c :=
  ⟨k.os.trans h.os, k.tape.trans h.tape, k.output.trans h.output, Nat.le_trans h.size k.size, fun j hj hp => (k.block j (Nat.lt_of_lt_of_le hj h.size) hp).trans (h.block j hj hp)⟩
theorem KpS.after {S : Nat → Prop} {a b c : World} (h : Below a.heap.size a b) (k : KpS S b c) : KpS S a c := (KpS.of_below h).trans k
theorem KpS.setCell {S : Nat → Prop} {w w' : World} (h : KpS S w w') {a : Addr} (hp : S a.block) (v : Value) : KpS S w (w'.setCell a v) := by
  have k : Kept a.block w' (w'.setCell a v) := (Kept.refl _ _).setCell rfl v
  exact ⟨k.os.trans h.os, k.tape.trans h.tape, k.output.trans h.output, Nat.le_trans h.size k.size, fun j hj hs => (k.block j (Nat.lt_of_lt_of_le hj h.size) (fun e => hs (e ▸ hp))).trans (h.block j hj hs)⟩
theorem KpS.drew {S : Nat → Prop} {w w' : World} (h : KpS S w w') : KpS S w w'.drew := ⟨h.os, h.tape, h.output, h.size, h.block⟩
theorem KpS.below {S : Nat → Prop} {B : Nat} {w w' : World} (h : KpS S w w') (h1 : ∀ b, S b → B ≤ b) (h2 : B ≤ w.heap.size) : Below B w w' :=
  ⟨h.os, h.tape, h.output, h.size, fun k hk => h.block k (Nat.lt_of_lt_of_le hk h2) (fun hs => Nat.lt_irrefl _ (Nat.lt_of_lt_of_le hk (h1 k hs)))⟩
/-- as a block of its own -/
theorem KpS.kp {S : Nat → Prop} {b : Nat} {w w' : World} (h : KpS S w w') (hs : ¬ S b) (hb : b < w.heap.size) : w'.heap[b]? = w.heap[b]? := h.block b hb hs
theorem KpS.bx {S : Nat → Prop} {b : Nat} {vs : List Value} {w w' : World} (h : KpS S w w') (hs : ¬ S b) (hb : b < w.heap.size) (hx : Bx b vs w) : Bx b vs w' := fun j v hv => by
  have e := h.block b hb hs
  have q := hx j v hv
  refine ⟨?_, ?_⟩
  · rw [World.cell?_of_block (w := w) (a := ⟨b, j, none⟩) e]; exact q.1
  · rw [World.frozen?_of_block (w := w) (a := ⟨b, j, none⟩) e]; exact q.2
theorem KpS.px {S : Nat → Prop} {a : Option Addr} {n : Nat} {f : Nat → Int} {w w' : World} (h : KpS S w w') (hs : ∀ b off, a = some ⟨b, off, none⟩ → ¬ S b) (hx : Px a n f w) : Px a n f w' := by
  rcases hx with hx | ⟨b, off, ha, hx⟩
  · exact .inl hx
  · refine .inr ⟨b, off, ha, fun k hk => ?_⟩
    have q := hx k hk
    rw [World.cell?_of_block (w := w) (a := ⟨b, off + k, none⟩) (h.block b (World.block_lt_of_cell? w _ q) (hs b off ha))]
    exact q
theorem owns_same {w w' : World} {B n m : Nat} {e : TypeId} {v : Value} {xs : List Value} (h : w.ownsRow B e m v n xs) (hk : ∀ b, v.ownBlock = some b → w'.heap[b]? = w.heap[b]?) : w'.ownsRow B e m v n xs := by
  obtain ⟨h1, h2⟩ := h
  refine ⟨h1, ?_⟩
  rcases h2 with h2 | ⟨b', cap', cur, hv, hB, hh, hn, hc, hs, ht⟩
  · exact .inl h2
  · exact .inr ⟨b', cap', cur, hv, hB, by rw [hk b' (by rw [hv]; rfl)]; exact hh, hn, hc, hs, ht⟩

end Go.Proofs.Ytedjnemijeaeoaa

namespace Go.Proofs.Ytedjnemijeaeoaa
open Go.RowKit Go.Shelf

/-- the marks among the deferred calls -/
def marks (Ds : List Nat) : List Deferred := Ds.map fun D => { target := .collected D, args := #[] }
theorem marks_cons (D : Nat) (Ds : List Nat) : ({ target := .collected D, args := #[] } : Deferred) :: marks Ds = marks (D :: Ds) := rfl
/-- their blocks lie open -/
def KM (Ds : List Nat) (W : World) : Prop := ∀ D ∈ Ds, W.heap[D]? = some (.deferred (some []))
theorem KM.nil (W : World) : KM [] W := fun _ h => (by cases h)
theorem KM.lt {Ds : List Nat} {W : World} (h : KM Ds W) {D : Nat} (hD : D ∈ Ds) : D < W.heap.size := (Array.getElem?_eq_some_iff.1 (h D hD)).1
theorem KM.next {Ds : List Nat} {W W' : World} (h : KM Ds W) (hb : Below W.heap.size W W') : KM Ds W' := fun D hD => (hb.block D (h.lt hD)).trans (h D hD)
theorem KM.drew {Ds : List Nat} {W : World} (h : KM Ds W) : KM Ds W.drew := h
theorem KM.set {Ds : List Nat} {W : World} (h : KM Ds W) {a : Addr} {v : Value} (hc : W.cell? a = some v) (x : Value) : KM Ds (W.setCell a x) := fun D hD => by
  refine (Below.heap_setCell W a x D (fun e => ?_)).trans (h D hD)
  subst e
  obtain ⟨o, ho, hc'⟩ := cells_of_cell hc
  rw [h _ hD] at ho
  cases ho
  cases hc'
theorem KM.cons {Ds : List Nat} {W : World} (h : KM Ds W) {D : Nat} (hD : W.heap[D]? = some (.deferred (some []))) : KM (D :: Ds) W := fun x hx => by
  rcases List.mem_cons.1 hx with rfl | hx
  · exact hD
  · exact h x hx
theorem ownFrom_KM {β : Type} {B : Nat} {Ds : List Nat} (hB : ∀ D ∈ Ds, D < B) : OwnFrom B (fun (_ : β) W => KM Ds W) := fun _ _ _ _ hs hg hr D hD =>
  (hg.block D (hs.lt hD) (fun e => by have := (hr D e.symm).1; have := hB D hD; omega)).trans (hs D hD)
/-- the function's return, its marks behind it -/
theorem leaves_marks {F : Fence} {n : Nat} {P : Program} {fn : Func} {tmps : Array Value} {R : Ending → World → Prop} (I : World → Prop) {B : Nat}
    (hI : ∀ W D, I W → B ≤ D → W.heap[D]? = some (.deferred (some [])) → I (W.putObj D (.deferred none)))
    (hend : ∀ W, I W → LeavesInM F n P fn tmps R [] .returning W) : ∀ (Ds : List Nat) (W : World), KM Ds W → (∀ D ∈ Ds, B ≤ D) → Ds.Nodup → I W → LeavesInM F n P fn tmps R (marks Ds) .returning W
  | [], W, _, _, _, h => hend W h
  | D :: Ds, W, hk, hB, hn, h => by
    have hD := hk D (List.mem_cons_self ..)
    refine ⟨by simp, .inl ⟨D, _, rfl, run_takeDeferred hD, ?_⟩⟩
    refine leaves_marks I hI hend Ds _ (fun x hx => ?_) (fun x hx => hB x (List.mem_cons_of_mem _ hx)) (List.nodup_cons.1 hn).2 (hI _ _ h (hB D (List.mem_cons_self ..)) hD)
    exact (World.putObj_heap_other (fun e => (List.nodup_cons.1 hn).1 (by rw [← e]; exact hx))).trans (hk x (List.mem_cons_of_mem _ hx))

/-- a block that is no cells turns: what is in hand stays -/
theorem St.grown {w0 : World} {L : List BoxT} {O : List OwnT} {W W' : World} {row : Option Nat} (h : St w0 L O W) (hg : W.grownBy W' row) (hr : ∀ r, row = some r → w0.heap.size ≤ r ∧ ∃ o : Obj, W.heap[r]? = some o ∧ o.isCells = false) : St w0 L O W' := by
  have hr2 : ∀ r, row = some r → ∃ o : Obj, W.heap[r]? = some o ∧ o.isCells = false := fun r e => (hr r e).2
  refine ⟨h.below.grown hg h.below.size (fun k e => (hr k e).1), fun x hx j v hv => ?_, fun x hx => ?_, fun b hb => ⟨(h.lt b hb).1, Nat.lt_of_lt_of_le (h.lt b hb).2 hg.size⟩, h.nd⟩
  · have q := h.bx x hx j v hv
    exact ⟨cell_kept q.1 hg hr2, (frozen_kept q.1 hg hr2).trans q.2⟩
  · rcases h.ow x hx with q | ⟨q1, q2⟩
    · exact .inl q
    · exact .inr ⟨q1, fun k hk => ⟨cell_kept (q2 k hk).1 hg hr2, (frozen_kept (q2 k hk).1 hg hr2).trans (q2 k hk).2⟩⟩
theorem ownFrom_st {β : Type} {w0 : World} {B : Nat} (L : β → List BoxT) (O : β → List OwnT) (hB : w0.heap.size ≤ B) : OwnFrom B (fun (s : β) W => St w0 (L s) (O s) W) := fun _ _ _ _ hs hg hr =>
  hs.grown hg (fun r e => ⟨Nat.le_trans hB (hr r e).1, (hr r e).2⟩)
theorem St.put {w0 : World} {L : List BoxT} {O : List OwnT} {W : World} {D : Nat} {o : Obj} (h : St w0 L O W) (hD : w0.heap.size ≤ D) (ho : W.heap[D]? = some o) (hc : o.isCells = false) (o' : Obj) : St w0 L O (W.putObj D o') :=
  h.grown (grownBy_putObj' W D o') (fun r e => by cases e; exact ⟨hD, o, ho, hc⟩)
theorem KpS.grown {S : Nat → Prop} {w W W' : World} {row : Option Nat} (h : KpS S w W) (hg : W.grownBy W' row) (hr : ∀ r, row = some r → w.heap.size ≤ r) : KpS S w W' :=
  ⟨hg.os.trans h.os, hg.tape.trans h.tape, hg.output.trans h.output, Nat.le_trans h.size hg.size, fun b hb hs => (hg.block b (Nat.lt_of_lt_of_le hb h.size) (fun e => by have := hr b e.symm; omega)).trans (h.block b hb hs)⟩
theorem ownFrom_kps {β : Type} {S : Nat → Prop} {w : World} {B : Nat} (hB : w.heap.size ≤ B) : OwnFrom B (fun (_ : β) W => KpS S w W) := fun _ _ _ _ hs hg hr => hs.grown hg (fun r e => Nat.le_trans hB (hr r e).1)
theorem KpS.put {S : Nat → Prop} {w W : World} {D : Nat} (h : KpS S w W) (hD : w.heap.size ≤ D) (o : Obj) : KpS S w (W.putObj D o) := h.grown (grownBy_putObj' W D o) (fun r e => by cases e; exact hD)

end Go.Proofs.Ytedjnemijeaeoaa

namespace Go.Proofs.Ytedjnemijeaeoaa
open Go.RowKit Go.Shelf

attribute [local go_sem] Oper.semAt_some

/-- a list of the call's own -/
abbrev dcP (b n : Nat) (f : Nat → Int) : OwnT := (some ⟨b, 0, none⟩, b, n, fun k => .int .i64 (f k))

theorem St.cong2 {w0 : World} {L : List BoxT} {x : OwnT} {O : List OwnT} {W : World} {b n : Nat} {f f' : Nat → Int} (h : St w0 L (x :: dcP b n f :: O) W) (e : ∀ q, q < n → f q = f' q) : St w0 L (x :: dcP b n f' :: O) W := by
  have eb : blocks L (x :: dcP b n f' :: O) = blocks L (x :: dcP b n f :: O) := by
    unfold blocks
    by_cases h0 : n = 0 <;> by_cases h1 : x.2.2.1 = 0 <;> simp [h0, h1]
  refine ⟨h.below, h.bx, fun y hy => ?_, by rw [eb]; exact h.lt, by rw [eb]; exact h.nd⟩
  rcases List.mem_cons.1 hy with rfl | hy
  · exact h.ow _ (List.mem_cons_self ..)
  · rcases List.mem_cons.1 hy with rfl | hy
    · rcases h.nthO 1 rfl with h1 | ⟨h1, h2⟩
      · exact .inl h1
      · refine .inr ⟨h1, fun q hq => ?_⟩
        have := h2 q hq
        show W.cell? ⟨b, q, none⟩ = some (.int .i64 (f' q)) ∧ _
        rw [← e q hq]; exact this
    · exact h.ow _ (List.mem_cons_of_mem _ (List.mem_cons_of_mem _ hy))

/-- what the loop keeps: k places are through -/
structure DcI (p n m : Nat) (S f : Nat → Int) (bP bL cP cL : Nat) (w0 w : World) (L : List BoxT) (O : List OwnT) (k : Nat) (Ds : List Nat) (wr : World) : Prop where
  le : k ≤ n
  st : St w0 ((w.heap.size + 1, [.slice (some ⟨bL, 0, none⟩) m cL]) :: (w.heap.size, [.int .i64 p, .int .i64 p, .slice (some ⟨bP, 0, none⟩) n cP]) :: L) (dcP bP n (dcK p S f k) :: dcP bL m (rsl p S (dcK p S f k)) :: O) wr
  km : KM Ds wr
  kp : KpS (fun b => b = bP ∨ b = bL) w wr
  nd : Ds.Nodup
  lo : ∀ D ∈ Ds, w.heap.size ≤ D

set_option maxRecDepth 100000 in
set_option maxHeartbeats 4000000 in
theorem descendOnce_any (p : Nat) (hp : 2 ≤ p) (hp2 : p ≤ 31) (n m : Nat) (hn : n = p * p) (hm : m = (p + 1) * p) (S f : Nat → Int) (hS : ∀ k, k < m → -200000 ≤ S k ∧ S k ≤ 200000) (hf : ∀ k, k < n → -4095 ≤ f k ∧ f k ≤ 4095)
    (bP bL cP cL : Nat) (w0 w : World) (L : List BoxT) (O : List OwnT) (h : St w0 L (dcP bP n f :: dcP bL m (rsl p S f) :: O) w) :
    Calls Try.prog 41 #[im p p (some ⟨bP, 0, none⟩) n cP, .slice (some ⟨bL, 0, none⟩) m cL] w fun e w' => e = .returned (.tuple #[]) ∧ St w0 L (dcP bP n (dcK p S f n) :: dcP bL m (rsl p S (dcK p S f n)) :: O) w' ∧ KpS (fun b => b = bP ∨ b = bL) w w' := by
  have hn2 : n ≤ 961 := by rw [hn]; exact Nat.mul_le_mul hp2 hp2
  have hm2 : m ≤ 992 := by rw [hm]; exact Nat.mul_le_mul (show p + 1 ≤ 32 by omega) hp2
  have hn0 : n ≠ 0 := by rw [hn]; exact Nat.ne_of_gt (Nat.mul_pos (by omega) (by omega))
  have hm0 : m ≠ 0 := by rw [hm]; exact Nat.ne_of_gt (Nat.mul_pos (by omega) (by omega))
  have hw0 := h.below.size
  have HS0 := hide ((h.box [.int .i64 p, .int .i64 p, .slice (some ⟨bP, 0, none⟩) n cP] 32).box' [.slice (some ⟨bL, 0, none⟩) m cL] 30 (b := w.heap.size + 1) (by simp))
  have HQ0 := hide ((KpS.of_below (S := fun b => b = bP ∨ b = bL) (bnew w (.cells #[.int .i64 p, .int .i64 p, .slice (some ⟨bP, 0, none⟩) n cP] 32))).next (bnew _ (.cells #[.slice (some ⟨bL, 0, none⟩) m cL] 30)))
  have HN := hide hn
  have HM := hide hm
  have HSb := hide hS
  have HFb := hide hf
  clear h hn hm hS hf
  refine (callsIn_wide (n := 3)).1 ?_
  refine callsIn_of_wp_marks Try.func41 rfl trivial ?_ rfl
  simp only [Try.ntmps41, List.size_toArray, List.length_cons, List.length_nil, Nat.reduceAdd, Nat.reduceSub, Array.replicate_succ, Array.replicate_zero, List.push_toArray, List.append_toArray, List.nil_append, List.cons_append]
  gi_wp2
  simp only [List.toArray] at HS0
  generalize (w.alloc (.cells #[.int .i64 p, .int .i64 p, .slice (some ⟨bP, 0, none⟩) n cP] 32)).alloc (.cells #[.slice (some ⟨bL, 0, none⟩) m cL] 30) = wB at *
  refine wpIn_loop (fun a' w' => ∃ Ds : List Nat, ∃ u5 u6 u7 u8 u9 u16 u17 u18 u19 u20 u21 u22 u23 u24 u25 u26 u27 u28 u29 u30 u31 u32 u33 u34 u35 u36 u37 u38 u39 u40 u41 u42 u43 u44 u45 u46 u47 u48 u49 u50 u51 u52 u53 u54 u15 : Value, (∃ k : Nat, u15 = .int .i64 k ∧ DcI p n m S f bP bL cP cL w0 w L O k Ds w') ∧ a' = { tmps := #[im p p (some ⟨bP, 0, none⟩) n cP, .slice (some ⟨bL, 0, none⟩) m cL, .pointer (some ⟨w.heap.size, 0, none⟩), .pointer (some ⟨w.heap.size + 1, 0, none⟩), .int .i64 p, u5, u6, u7, u8, u9, .pointer (some ⟨w.heap.size, 0, none⟩), .int .i64 p, .pointer (some ⟨w.heap.size, 2, none⟩), .slice (some ⟨bP, 0, none⟩) n cP, .int .i64 n, u15, u16, u17, u18, u19, u20, u21, u22, u23, u24, u25, u26, u27, u28, u29, u30, u31, u32, u33, u34, u35, u36, u37, u38, u39, u40, u41, u42, u43, u44, u45, u46, u47, u48, u49, u50, u51, u52, u53, u54], defers := marks Ds }) (fun a' _ => n - (intOf (a'.tmps.getD 15 undef)).toNat) ?_ ?_
  · refine ⟨[], ?_⟩
    repeat apply Exists.intro
    refine ⟨⟨0, rfl, Nat.zero_le _, HS0.out, KM.nil _, HQ0.out, List.nodup_nil, fun _ h => (by cases h)⟩, rfl⟩
  intro a' wr hinv
  obtain ⟨Ds, hinv⟩ := hinv
  obtain ⟨u5, hinv⟩ := hinv
  obtain ⟨u6, hinv⟩ := hinv
  obtain ⟨u7, hinv⟩ := hinv
  obtain ⟨u8, hinv⟩ := hinv
  obtain ⟨u9, hinv⟩ := hinv
  obtain ⟨u16, hinv⟩ := hinv
  obtain ⟨u17, hinv⟩ := hinv
  obtain ⟨u18, hinv⟩ := hinv
  obtain ⟨u19, hinv⟩ := hinv
  obtain ⟨u20, hinv⟩ := hinv
  obtain ⟨u21, hinv⟩ := hinv
  obtain ⟨u22, hinv⟩ := hinv
  obtain ⟨u23, hinv⟩ := hinv
  obtain ⟨u24, hinv⟩ := hinv
  obtain ⟨u25, hinv⟩ := hinv
  obtain ⟨u26, hinv⟩ := hinv
  obtain ⟨u27, hinv⟩ := hinv
  obtain ⟨u28, hinv⟩ := hinv
  obtain ⟨u29, hinv⟩ := hinv
  obtain ⟨u30, hinv⟩ := hinv
  obtain ⟨u31, hinv⟩ := hinv
  obtain ⟨u32, hinv⟩ := hinv
  obtain ⟨u33, hinv⟩ := hinv
  obtain ⟨u34, hinv⟩ := hinv
  obtain ⟨u35, hinv⟩ := hinv
  obtain ⟨u36, hinv⟩ := hinv
  obtain ⟨u37, hinv⟩ := hinv
  obtain ⟨u38, hinv⟩ := hinv
  obtain ⟨u39, hinv⟩ := hinv
  obtain ⟨u40, hinv⟩ := hinv
  obtain ⟨u41, hinv⟩ := hinv
  obtain ⟨u42, hinv⟩ := hinv
  obtain ⟨u43, hinv⟩ := hinv
  obtain ⟨u44, hinv⟩ := hinv
  obtain ⟨u45, hinv⟩ := hinv
  obtain ⟨u46, hinv⟩ := hinv
  obtain ⟨u47, hinv⟩ := hinv
  obtain ⟨u48, hinv⟩ := hinv
  obtain ⟨u49, hinv⟩ := hinv
  obtain ⟨u50, hinv⟩ := hinv
  obtain ⟨u51, hinv⟩ := hinv
  obtain ⟨u52, hinv⟩ := hinv
  obtain ⟨u53, hinv⟩ := hinv
  obtain ⟨u54, hinv⟩ := hinv
  obtain ⟨u15, hinv⟩ := hinv
  obtain ⟨⟨k, rfl, hI⟩, ha⟩ := hinv
  subst ha
  dsimp only
  obtain ⟨hk, hst, hkm, hkp', hnd, hlo⟩ := hI
  clear HS0 HQ0
  by_cases hlt : k < n
  · have hG := dcK_b (p := p) (S := S) HFb.out k
    obtain ⟨G, hGG⟩ : ∃ G, G = dcK p S f k := ⟨_, rfl⟩
    rw [← hGG] at hst hG
    have HGG := hide hGG
    have hT := hG k hlt
    obtain ⟨hc, hcf⟩ := hst.atO hlt
    have HSb' := HSb.out
    have hkp : k / p < p := Nat.div_lt_of_lt_mul (by rw [← HN.out]; exact hlt)
    have hkm' : k % p < p := Nat.mod_lt k (by omega)
    have hsb := dcs_b (S := S) (f := G) (m := m) (show 0 < p by omega) hp2 HM.out HSb.out (fun j hj => hG j (by rw [HN.out]; exact hj)) k
    have hdb := nst_b (x := dcs p S G k) (y := p + 1) (by omega) hsb
    have HRb := hide (fun l hl => rsl_b (p := p) (m := m) (S := S) (f := G) (l := l) (show 0 < p by omega) hp2 HSb.out (fun j hj => hG j (by rw [HN.out]; exact hj)) hl)
    have HST := hide hst
    have HKM := hide hkm
    have HQM := hide hkp'
    have HGb := hide hG
    have HLO := hide hlo
    have HND := hide hnd
    obtain ⟨T, hT0⟩ : ∃ T, T = G k := ⟨_, rfl⟩
    rw [← hT0] at hT hc
    have HT0 := hide hT0
    clear hGG hst hG HSb' hkm hkp' hlo hnd hT0
    gi_wp2_with fail
    have HSA := hide ((HST.out.box [.int .i64 k] 3).box' [.int .i64 T] 2 (b := wr.heap.size + 1) (by simp))
    have HKA := hide ((HKM.out.next (bnew wr (.cells #[.int .i64 k] 3))).next (bnew _ (.cells #[.int .i64 T] 2)))
    have HQA := hide ((HQM.out.next (bnew wr (.cells #[.int .i64 k] 3))).next (bnew _ (.cells #[.int .i64 T] 2)))
    simp only [List.toArray] at HSA
    generalize (wr.alloc (.cells #[.int .i64 k] 3)).alloc (.cells #[.int .i64 T] 2) = wA at *
    clear hc hcf HST HKM HQM
    refine ⟨trivial, (callsIn_wide.2 (linesThroughF_any k p (by omega) (by omega) (by omega) wA)).mono ?_⟩
    rintro e w3 ⟨b1, b2, b3, rfl, hB3, ⟨f1, f2, f3⟩, hbel3⟩
    have hbP := (HSA.out.lt bP (mem_blocks_own (x := dcP bP n G) (List.mem_cons_self ..) hn0)).2
    have hbL := (HSA.out.lt bL (mem_blocks_own (x := dcP bL m (rsl p S G)) (List.mem_cons_of_mem _ (List.mem_cons_self ..)) hm0)).2
    have f1P : b1 ≠ bP := by omega
    have f2P : b2 ≠ bP := by omega
    have f3P : b3 ≠ bP := by omega
    have f1L : b1 ≠ bL := by omega
    have f2L : b2 ≠ bL := by omega
    have f3L : b3 ≠ bL := by omega
    clear f1 f2 f3 hbP hbL
    have HS3 := hide (HSA.out.next hbel3)
    have HK3 := hide (HKA.out.next hbel3)
    have HQ3 := hide (HQA.out.next hbel3)
    have HB3 := hide hB3
    have hxe := HS3.out.cell 2 rfl 0 rfl
    clear HSA HKA HQA hbel3 hB3
    gi_wp2_with fail
    refine ⟨trivial, (callsIn_wide.2 (numbersAt_any _ _ _ _ _ _)).mono ?_⟩
    rintro e w4 ⟨rfl, hcp, hcl, hs4, hbel4⟩
    have HS4 := hide (HS3.out.next hbel4)
    have HK4 := hide (HK3.out.next hbel4)
    have HQ4 := hide (HQ3.out.next hbel4)
    have cT := total_lines (k % p) (k / p) p (by omega) hp2 hkm' hkp (some ⟨bL, 0, none⟩) cL (rsl p S G) (fun l hl => by have := HRb.out l (by rw [HM.out]; exact hl); omega) w4 b1 b2 b3 (w3.heap.size + 1) w3.heap.size (HB3.out.below hbel4) hcp (by rw [← HM.out]; exact hcl) (by rw [← HM.out]; exact (HS4.out.nthO 1 rfl).px)
    have HB4 := hide (HB3.out.below hbel4)
    obtain ⟨s, hs⟩ : ∃ s, s = Lnm.sm (fun m_1 => rsl p S G (Lnm.thr p (k % p) (k / p) m_1)) (p + 1) := ⟨_, rfl⟩
    have hs' : s = dcs p S G k := hs
    rw [← hs] at cT
    rw [← hs'] at hsb hdb
    have HSS := hide hs'
    clear hs hs' HS3 HK3 HQ3 HB3 hxe hcp hcl hs4 hbel4
    gi_wp2_with fail
    refine ⟨trivial, (callsIn_wide.2 cT).mono ?_⟩
    rintro e w5 ⟨rfl, hbel5⟩
    have HS5 := hide (HS4.out.next hbel5)
    have HK5 := hide (HK4.out.next hbel5)
    have HQ5 := hide (HQ4.out.next hbel5)
    have HB5 := hide (HB4.out.below hbel5)
    clear cT HS4 HK4 HQ4 HB4 hbel5
    have wp1 : IntKind.i64.wrap ((p : Int) + 1) = ((p + 1 : Nat) : Int) := by rw [IntKind.wrap_i64]; omega
    have cN := nearest_any s (p + 1) (by omega) (by omega) hsb w5
    obtain ⟨d, hd⟩ : ∃ d, d = nst s (p + 1) := ⟨_, rfl⟩
    rw [← hd] at cN hdb
    have HD := hide hd
    clear hd
    gi_wp2_with fail
    refine ⟨trivial, (callsIn_wide.2 cN).mono ?_⟩
    rintro e w6 ⟨rfl, rfl⟩
    clear cN wp1
    have HWT : Hid (wrap64 (T + d) = T + d) := by show wrap64 (T + d) = T + d; unfold wrap64; omega
    obtain ⟨n0, n1, n2⟩ := HS5.out.im3 3 rfl
    have k0 := HS5.out.cell 1 rfl 0 rfl
    have t0 := HS5.out.cell 0 rfl 0 rfl
    obtain ⟨hc, hcf⟩ := HS5.out.atO hlt
    rw [← HT0.out] at hc
    clear hsb hdb
    gi_wp2_with fail
    obtain ⟨V, hV⟩ : ∃ V, V = min (max (wrap64 (T + d)) (-4095)) 4095 := ⟨_, rfl⟩
    rw [← hV]
    have hV2 : V = clp (T + d) := by rw [hV, HWT.out, clp_mm]
    have hV3 : V = dcv p S G k := by rw [hV2, HD.out, HSS.out, HT0.out]; rfl
    have hVb : -4095 ≤ V ∧ V ≤ 4095 := by rw [hV2]; exact clp_b _
    have HV := hide hV3
    have HS7 := hide (HS5.out.upd hlt V)
    have HK7 := hide (HK5.out.set hc (.int .i64 V))
    have HQ7 := hide (HQ5.out.setCell (a := ⟨bP, k, none⟩) (.inl rfl) (.int .i64 V))
    have hkp7 : Kept bP w6 (w6.setCell ⟨bP, k, none⟩ (.int .i64 V)) := (Kept.refl bP w6).setCell (a := ⟨bP, k, none⟩) rfl _
    have HB7 : Hid (Bx3 b1 b2 b3 p (k / p : Nat) (k % p : Nat) (w6.setCell ⟨bP, k, none⟩ (.int .i64 V))) := ⟨hkp7.cell (a := ⟨b1, 0, none⟩) f1P HB5.out.1, hkp7.cell (a := ⟨b2, 0, none⟩) f2P HB5.out.2.1, hkp7.cell (a := ⟨b3, 0, none⟩) f3P HB5.out.2.2⟩
    clear hV hV2 hV3 hkp7 n0 n1 n2 k0 t0 hc hcf HS5 HK5 HQ5 HB5 HWT
    generalize w6.setCell ⟨bP, k, none⟩ (.int .i64 V) = w7 at *
    have HIs := hide (fun i => rsi_at (p := p) (show 0 < p by omega) S G k V i)
    have HIt := hide (fun i l => rsi_step (p := p) (show 0 < p by omega) S G k V i l)
    have HIl := hide (fun l hl => rsi_last (p := p) S G (show k < p * p by rw [← HN.out]; exact hlt) V l hl)
    have HIz := hide (rsi_zero p S G k V)
    have hlt7 := HB7.out.lt
    have hmL : ∀ i, i < p + 1 → Lnm.thr p (k % p) (k / p) i < m := fun i hi => by rw [HM.out]; exact Lnm.thr_lt hkm' (by omega)
    refine wpIn_gives (gf := 70) (lb := #[.pointer (some ⟨b1, 0, none⟩), .pointer (some ⟨b2, 0, none⟩), .pointer (some ⟨b3, 0, none⟩)]) rfl (enters_of Try.func70 (by kernel_rfl) rfl)
      (linesThrough_gv (k % p) (k / p) p (by omega) (by omega) hkm' hkp b1 b2 b3 (fun j => j = b1 ∨ j = b2 ∨ j = b3) w7 HB7.out (.inl rfl) (.inr (.inl rfl)) (.inr (.inr rfl))) (fun j hj => by rcases hj with rfl | rfl | rfl <;> omega) (Below.refl _ _) rfl
      (fun pre W => St w0 ((wr.heap.size + 1, [.int .i64 T]) :: (wr.heap.size, [.int .i64 k]) :: (w.heap.size + 1, [.slice (some ⟨bL, 0, none⟩) m cL]) :: (w.heap.size, [.int .i64 p, .int .i64 p, .slice (some ⟨bP, 0, none⟩) n cP]) :: L) (dcP bP n (updN G k V) :: dcP bL m (rsi p S G k V pre.length) :: O) W ∧ KM Ds W ∧ KpS (fun b => b = bP ∨ b = bL) w W)
      (OwnFrom.and (ownFrom_st _ (fun (pre : List Int) => dcP bP n (updN G k V) :: dcP bL m (rsi p S G k V pre.length) :: O) HS7.out.below.size) (OwnFrom.and (ownFrom_KM (fun D hD => HK7.out.lt hD)) (ownFrom_kps HQ7.out.size)))
      ⟨by rw [List.length_nil, HIz.out]; exact HS7.out, HK7.out, HQ7.out⟩ ?a1 ?assign ?body ?done
    case assign =>
      intro l x W K hK
      gi_wp2
      exact hK
    case body =>
      rintro l pre x W ⟨hst, hkm, hkq⟩ hpre
      obtain ⟨hi, hx, -⟩ := fl_of_prefix hpre
      obtain ⟨i, hii⟩ : ∃ i, pre.length = i := ⟨_, rfl⟩
      rw [hii] at hi hx hst
      have hq := hmL i hi
      have hR := HIs.out i
      have hRb := HRb.out _ hq
      rw [← hR] at hRb
      have hstep := HIt.out i
      have hin := hst.nthO 1 rfl
      have HII := hide hii
      obtain ⟨q, hqq⟩ : ∃ q, q = Lnm.thr p (k % p) (k / p) i := ⟨_, rfl⟩
      rw [← hqq] at hx hq hR hRb hstep
      subst hx
      obtain ⟨R, hRR⟩ : ∃ R, R = rsi p S G k V i q := ⟨_, rfl⟩
      rw [← hRR] at hRb hR
      rw [← hR] at hstep
      have HR := hide hRR
      have hdb : -8190 ≤ V - T ∧ V - T ≤ 8190 := by omega
      have cq : W.cell? ⟨bL, q, none⟩ = some (.int .i64 R) ∧ W.frozen? ⟨bL, q, none⟩ = false := by
        rcases hin with h0 | ⟨_, h1⟩
        · exact absurd h0 hm0
        · rw [HR.out]; exact h1 q hq
      have HSN : Hid (St w0 ((wr.heap.size + 1, [.int .i64 T]) :: (wr.heap.size, [.int .i64 k]) :: (w.heap.size + 1, [.slice (some ⟨bL, 0, none⟩) m cL]) :: (w.heap.size, [.int .i64 p, .int .i64 p, .slice (some ⟨bP, 0, none⟩) n cP]) :: L) (dcP bP n (updN G k V) :: dcP bL m (rsi p S G k V (i + 1)) :: O) (W.drew.setCell ⟨bL, q, none⟩ (.int .i64 (R - (V - T))))) := by
        have hrow : Row bL m (rsi p S G k V i) W.drew := by
          rcases hin with h0 | ⟨_, h1⟩
          · exact absurd h0 hm0
          · exact h1
        have h := St.mark (O1 := [dcP bP n (updN G k V)]) (f' := fun j => .int .i64 (updN (rsi p S G k V i) q (R - (V - T)) j)) hst.drew (by rw [bk_pos hm0]; exact (Kept.refl bL W.drew).setCell (a := ⟨bL, q, none⟩) rfl (.int .i64 (R - (V - T)))) (by rw [bk_pos hm0]; exact (Row.updN hrow hq (R - (V - T))).v)
        exact St.cong2 h (fun l _ => by rw [HT0.out]; exact hstep l)
      have HKN : Hid (KM Ds (W.drew.setCell ⟨bL, q, none⟩ (.int .i64 (R - (V - T))))) := hkm.drew.set (a := ⟨bL, q, none⟩) (v := .int .i64 R) cq.1 _
      have HQN : Hid (KpS (fun b => b = bP ∨ b = bL) w (W.drew.setCell ⟨bL, q, none⟩ (.int .i64 (R - (V - T))))) := hkq.drew.setCell (a := ⟨bL, q, none⟩) (.inr rfl) _
      have HKS : Hid (KS (fun j => (j = b1 ∨ j = b2 ∨ j = b3) ∨ w7.heap.size ≤ j) W (W.drew.setCell ⟨bL, q, none⟩ (.int .i64 (R - (V - T))))) := by
        have hbL := (HS7.out.lt bL (mem_blocks_own (x := dcP bL m (rsl p S G)) (List.mem_cons_of_mem _ (List.mem_cons_self ..)) hm0)).2
        exact (KS.drew W).trans (KS.setCell _ (fun hh => by rcases hh with (e | e | e) | e <;> simp at e <;> omega))
      have HXE : Hid (W.cell? ⟨w.heap.size + 1, 0, none⟩ = some (.slice (some ⟨bL, 0, none⟩) m cL)) := hst.cell 2 rfl 0 rfl
      have HXN : Hid (W.cell? ⟨w.heap.size, 2, none⟩ = some (.slice (some ⟨bP, 0, none⟩) n cP)) := hst.cell 3 rfl 2 rfl
      have HXK : Hid (W.cell? ⟨wr.heap.size, 0, none⟩ = some (.int .i64 k)) := hst.cell 1 rfl 0 rfl
      have HXT : Hid (W.cell? ⟨wr.heap.size + 1, 0, none⟩ = some (.int .i64 T)) := hst.cell 0 rfl 0 rfl
      have HXQ : Hid (W.cell? ⟨bL, q, none⟩ = some (.int .i64 R)) := cq.1
      have HXF : Hid (W.frozen? ⟨bL, q, none⟩ = false) := cq.2
      have HXP : Hid (W.cell? ⟨bP, k, none⟩ = some (.int .i64 V)) := by
        have h1 := (hst.atO hlt).1
        rw [show updN G k V k = V from if_pos rfl] at h1
        exact h1
      obtain ⟨Y, hY⟩ : ∃ Y, Y = V - T := ⟨_, rfl⟩
      rw [← hY] at HSN HKN HKS HQN
      obtain ⟨Z, hZ⟩ : ∃ Z, Z = R - Y := ⟨_, rfl⟩
      rw [← hZ] at HSN HKN HKS HQN
      have wV : IntKind.i64.wrap (V - T) = Y := by rw [IntKind.wrap_i64]; omega
      have wR : IntKind.i64.wrap (R - Y) = Z := by rw [IntKind.wrap_i64]; omega
      have HLT := hide hlt
      clear hkq hY hZ hqq hRR hii hst hkm hpre hi hR hRb hstep hin hdb cq hT HR hVb hmL hlt7 f1P f2P f3P f1L f2L f3L hk hkp hkm' hn0 hm0 hw0 HIs HIt HIl HIz
      gi_wp2
      obtain ⟨G, hG⟩ : ∃ G : Nat → Value → Prop, G = (fun j v => match j with | 0 => v = .slice (some ⟨bL, 0, none⟩) m cL | 1 => v = .int .i64 (q : Int) | 2 => v = .pointer (some ⟨bL, q, none⟩) | 3 => v = .int .i64 R | 4 => v = .pointer (some ⟨w.heap.size, 2, none⟩) | 5 => v = .slice (some ⟨bP, 0, none⟩) n cP | 6 => v = .int .i64 k | 7 => v = .pointer (some ⟨bP, k, none⟩) | 8 => v = .int .i64 V | 9 => v = .int .i64 T | 10 => v = .int .i64 Y | 11 => v = .int .i64 Z | 12 => v = .pointer (some ⟨bL, q, none⟩) | _ => True) := ⟨_, rfl⟩
      have G0 : Hid (∀ v, G 0 v ↔ v = .slice (some ⟨bL, 0, none⟩) m cL) := fun v => by rw [hG]; exact Iff.rfl
      have G1 : Hid (∀ v, G 1 v ↔ v = .int .i64 (q : Int)) := fun v => by rw [hG]; exact Iff.rfl
      have G2 : Hid (∀ v, G 2 v ↔ v = .pointer (some ⟨bL, q, none⟩)) := fun v => by rw [hG]; exact Iff.rfl
      have G3 : Hid (∀ v, G 3 v ↔ v = .int .i64 R) := fun v => by rw [hG]; exact Iff.rfl
      have G4 : Hid (∀ v, G 4 v ↔ v = .pointer (some ⟨w.heap.size, 2, none⟩)) := fun v => by rw [hG]; exact Iff.rfl
      have G5 : Hid (∀ v, G 5 v ↔ v = .slice (some ⟨bP, 0, none⟩) n cP) := fun v => by rw [hG]; exact Iff.rfl
      have G6 : Hid (∀ v, G 6 v ↔ v = .int .i64 k) := fun v => by rw [hG]; exact Iff.rfl
      have G7 : Hid (∀ v, G 7 v ↔ v = .pointer (some ⟨bP, k, none⟩)) := fun v => by rw [hG]; exact Iff.rfl
      have G8 : Hid (∀ v, G 8 v ↔ v = .int .i64 V) := fun v => by rw [hG]; exact Iff.rfl
      have G9 : Hid (∀ v, G 9 v ↔ v = .int .i64 T) := fun v => by rw [hG]; exact Iff.rfl
      have G10 : Hid (∀ v, G 10 v ↔ v = .int .i64 Y) := fun v => by rw [hG]; exact Iff.rfl
      have G11 : Hid (∀ v, G 11 v ↔ v = .int .i64 Z) := fun v => by rw [hG]; exact Iff.rfl
      have G12 : Hid (∀ v, G 12 v ↔ v = .pointer (some ⟨bL, q, none⟩)) := fun v => by rw [hG]; exact Iff.rfl
      have G13 : Hid (∀ v, G 13 v) := fun v => by rw [hG]; trivial
      clear hG
      obtain ⟨PP, hPP⟩ : ∃ P : World → Prop, P = (fun wx => wx = W.drew.setCell ⟨bL, q, none⟩ (.int .i64 Z)) := ⟨_, rfl⟩
      refine region_opsVI (fun _ => trivial) (sR 13 W) (sF 13 G PP) (by kernel_rfl) (by kernel_rfl) (by kernel_rfl) (by kernel_rfl) (fun _ => rfl) ?_ ?_
      · refine ⟨?_, ?_, ?_, ?_, ?_, ?_, ?_, ?_, ?_, ?_, ?_, ?_, ?_, ?_, trivial⟩
        ·
          intro u w21 au hsl hel hu hF hp' K hK
          have t3 : au.tmps[3]?.getD undef = .pointer (some ⟨(w.heap.size + 1), 0, none⟩) := (hel.out 3 (by kernel_rfl)).trans (by kernel_rfl)
          have hw : w21 = W.drew := hF ((hu.out 13 (by decide) (.inr (by kernel_rfl))).trans (by kernel_rfl))
          have xc : w21.cell? ⟨(w.heap.size + 1), 0, none⟩ = some (.slice (some ⟨bL, 0, none⟩) m cL) := by rw [hw]; exact HXE.out
          clear hw
          refine step_plainI rfl ?_
          go_simp
          exact hK.out (.slice (some ⟨bL, 0, none⟩) m cL) _ (sR_up hF 0 (by omega) _) (sF_val 0 (by omega) ((G0.out _).2 rfl)) (fun j hj hf h => sF_up 0 _ j hj (fun e => by subst e; exact absurd (Eq.trans (Eq.symm (by kernel_rfl)) hf) Bool.false_ne_true) h)
        ·
          intro u w21 au hsl hel hu hF hp' K hK
          have t9 : au.tmps[9]?.getD undef = .int .i64 (q : Int) := (hel.out 9 (by kernel_rfl)).trans (by kernel_rfl)
          refine step_plainI rfl ?_
          go_simp
          exact hK.out (.int .i64 (q : Int)) _ (sR_up hF 1 (by omega) _) (sF_val 1 (by omega) ((G1.out _).2 rfl)) (fun j hj hf h => sF_up 1 _ j hj (fun e => by subst e; exact absurd (Eq.trans (Eq.symm (by kernel_rfl)) hf) Bool.false_ne_true) h)
        ·
          intro u w21 au hsl hel hu hF hp' K hK
          have h0 : u 0 = .slice (some ⟨bL, 0, none⟩) m cL := (G0.out _).1 (PreF.get hp' 0 (by kernel_rfl)).1
          have t41 : au.tmps[41]?.getD undef = u 0 := hsl.out 0 41 (by kernel_rfl)
          rw [h0] at t41
          have h1 : u 1 = .int .i64 (q : Int) := (G1.out _).1 (PreF.get hp' 1 (by kernel_rfl)).1
          have t42 : au.tmps[42]?.getD undef = u 1 := hsl.out 1 42 (by kernel_rfl)
          rw [h1] at t42
          refine step_plainI rfl ?_
          go_simp
          exact hK.out (.pointer (some ⟨bL, q, none⟩)) _ (sR_up hF 2 (by omega) _) (sF_val 2 (by omega) ((G2.out _).2 rfl)) (fun j hj hf h => sF_up 2 _ j hj (fun e => by subst e; exact absurd (Eq.trans (Eq.symm (by kernel_rfl)) hf) Bool.false_ne_true) h)
        ·
          intro u w21 au hsl hel hu hF hp' K hK
          have h2 : u 2 = .pointer (some ⟨bL, q, none⟩) := (G2.out _).1 (PreF.get hp' 2 (by kernel_rfl)).1
          have t43 : au.tmps[43]?.getD undef = u 2 := hsl.out 2 43 (by kernel_rfl)
          rw [h2] at t43
          have hw : w21 = W.drew := hF ((hu.out 13 (by decide) (.inr (by kernel_rfl))).trans (by kernel_rfl))
          have xc : w21.cell? ⟨bL, q, none⟩ = some (.int .i64 R) := by rw [hw]; exact HXQ.out
          clear hw
          refine step_plainI rfl ?_
          go_simp
          exact hK.out (.int .i64 R) _ (sR_up hF 3 (by omega) _) (sF_val 3 (by omega) ((G3.out _).2 rfl)) (fun j hj hf h => sF_up 3 _ j hj (fun e => by subst e; exact absurd (Eq.trans (Eq.symm (by kernel_rfl)) hf) Bool.false_ne_true) h)
        ·
          intro u w21 au hsl hel hu hF hp' K hK
          have t2 : au.tmps[2]?.getD undef = .pointer (some ⟨w.heap.size, 0, none⟩) := (hel.out 2 (by kernel_rfl)).trans (by kernel_rfl)
          refine step_plainI rfl ?_
          go_simp
          exact hK.out (.pointer (some ⟨w.heap.size, 2, none⟩)) _ (sR_up hF 4 (by omega) _) (sF_val 4 (by omega) ((G4.out _).2 rfl)) (fun j hj hf h => sF_up 4 _ j hj (fun e => by subst e; exact absurd (Eq.trans (Eq.symm (by kernel_rfl)) hf) Bool.false_ne_true) h)
        ·
          intro u w21 au hsl hel hu hF hp' K hK
          have h4 : u 4 = .pointer (some ⟨w.heap.size, 2, none⟩) := (G4.out _).1 (PreF.get hp' 4 (by kernel_rfl)).1
          have t45 : au.tmps[45]?.getD undef = u 4 := hsl.out 4 45 (by kernel_rfl)
          rw [h4] at t45
          have hw : w21 = W.drew := hF ((hu.out 13 (by decide) (.inr (by kernel_rfl))).trans (by kernel_rfl))
          have xc : w21.cell? ⟨w.heap.size, 2, none⟩ = some (.slice (some ⟨bP, 0, none⟩) n cP) := by rw [hw]; exact HXN.out
          clear hw
          refine step_plainI rfl ?_
          go_simp
          exact hK.out (.slice (some ⟨bP, 0, none⟩) n cP) _ (sR_up hF 5 (by omega) _) (sF_val 5 (by omega) ((G5.out _).2 rfl)) (fun j hj hf h => sF_up 5 _ j hj (fun e => by subst e; exact absurd (Eq.trans (Eq.symm (by kernel_rfl)) hf) Bool.false_ne_true) h)
        ·
          intro u w21 au hsl hel hu hF hp' K hK
          have t5 : au.tmps[5]?.getD undef = .pointer (some ⟨wr.heap.size, 0, none⟩) := (hel.out 5 (by kernel_rfl)).trans (by kernel_rfl)
          have hw : w21 = W.drew := hF ((hu.out 13 (by decide) (.inr (by kernel_rfl))).trans (by kernel_rfl))
          have xc : w21.cell? ⟨wr.heap.size, 0, none⟩ = some (.int .i64 k) := by rw [hw]; exact HXK.out
          clear hw
          refine step_plainI rfl ?_
          go_simp
          exact hK.out (.int .i64 k) _ (sR_up hF 6 (by omega) _) (sF_val 6 (by omega) ((G6.out _).2 rfl)) (fun j hj hf h => sF_up 6 _ j hj (fun e => by subst e; exact absurd (Eq.trans (Eq.symm (by kernel_rfl)) hf) Bool.false_ne_true) h)
        ·
          intro u w21 au hsl hel hu hF hp' K hK
          have h5 : u 5 = .slice (some ⟨bP, 0, none⟩) n cP := (G5.out _).1 (PreF.get hp' 5 (by kernel_rfl)).1
          have t46 : au.tmps[46]?.getD undef = u 5 := hsl.out 5 46 (by kernel_rfl)
          rw [h5] at t46
          have h6 : u 6 = .int .i64 k := (G6.out _).1 (PreF.get hp' 6 (by kernel_rfl)).1
          have t47 : au.tmps[47]?.getD undef = u 6 := hsl.out 6 47 (by kernel_rfl)
          rw [h6] at t47
          refine step_plainI rfl ?_
          go_simp
          exact hK.out (.pointer (some ⟨bP, k, none⟩)) _ (sR_up hF 7 (by omega) _) (sF_val 7 (by omega) ((G7.out _).2 rfl)) (fun j hj hf h => sF_up 7 _ j hj (fun e => by subst e; exact absurd (Eq.trans (Eq.symm (by kernel_rfl)) hf) Bool.false_ne_true) h)
        ·
          intro u w21 au hsl hel hu hF hp' K hK
          have h7 : u 7 = .pointer (some ⟨bP, k, none⟩) := (G7.out _).1 (PreF.get hp' 7 (by kernel_rfl)).1
          have t48 : au.tmps[48]?.getD undef = u 7 := hsl.out 7 48 (by kernel_rfl)
          rw [h7] at t48
          have hw : w21 = W.drew := hF ((hu.out 13 (by decide) (.inr (by kernel_rfl))).trans (by kernel_rfl))
          have xc : w21.cell? ⟨bP, k, none⟩ = some (.int .i64 V) := by rw [hw]; exact HXP.out
          clear hw
          refine step_plainI rfl ?_
          go_simp
          exact hK.out (.int .i64 V) _ (sR_up hF 8 (by omega) _) (sF_val 8 (by omega) ((G8.out _).2 rfl)) (fun j hj hf h => sF_up 8 _ j hj (fun e => by subst e; exact absurd (Eq.trans (Eq.symm (by kernel_rfl)) hf) Bool.false_ne_true) h)
        ·
          intro u w21 au hsl hel hu hF hp' K hK
          have t6 : au.tmps[6]?.getD undef = .pointer (some ⟨(wr.heap.size + 1), 0, none⟩) := (hel.out 6 (by kernel_rfl)).trans (by kernel_rfl)
          have hw : w21 = W.drew := hF ((hu.out 13 (by decide) (.inr (by kernel_rfl))).trans (by kernel_rfl))
          have xc : w21.cell? ⟨(wr.heap.size + 1), 0, none⟩ = some (.int .i64 T) := by rw [hw]; exact HXT.out
          clear hw
          refine step_plainI rfl ?_
          go_simp
          exact hK.out (.int .i64 T) _ (sR_up hF 9 (by omega) _) (sF_val 9 (by omega) ((G9.out _).2 rfl)) (fun j hj hf h => sF_up 9 _ j hj (fun e => by subst e; exact absurd (Eq.trans (Eq.symm (by kernel_rfl)) hf) Bool.false_ne_true) h)
        ·
          intro u w21 au hsl hel hu hF hp' K hK
          have h8 : u 8 = .int .i64 V := (G8.out _).1 (PreF.get hp' 8 (by kernel_rfl)).1
          have t49 : au.tmps[49]?.getD undef = u 8 := hsl.out 8 49 (by kernel_rfl)
          rw [h8] at t49
          have h9 : u 9 = .int .i64 T := (G9.out _).1 (PreF.get hp' 9 (by kernel_rfl)).1
          have t50 : au.tmps[50]?.getD undef = u 9 := hsl.out 9 50 (by kernel_rfl)
          rw [h9] at t50
          refine step_plainI rfl ?_
          go_simp
          exact hK.out (.int .i64 Y) _ (sR_up hF 10 (by omega) _) (sF_val 10 (by omega) ((G10.out _).2 rfl)) (fun j hj hf h => sF_up 10 _ j hj (fun e => by subst e; exact absurd (Eq.trans (Eq.symm (by kernel_rfl)) hf) Bool.false_ne_true) h)
        ·
          intro u w21 au hsl hel hu hF hp' K hK
          have h3 : u 3 = .int .i64 R := (G3.out _).1 (PreF.get hp' 3 (by kernel_rfl)).1
          have t44 : au.tmps[44]?.getD undef = u 3 := hsl.out 3 44 (by kernel_rfl)
          rw [h3] at t44
          have h10 : u 10 = .int .i64 Y := (G10.out _).1 (PreF.get hp' 10 (by kernel_rfl)).1
          have t51 : au.tmps[51]?.getD undef = u 10 := hsl.out 10 51 (by kernel_rfl)
          rw [h10] at t51
          refine step_plainI rfl ?_
          go_simp
          exact hK.out (.int .i64 Z) _ (sR_up hF 11 (by omega) _) (sF_val 11 (by omega) ((G11.out _).2 rfl)) (fun j hj hf h => sF_up 11 _ j hj (fun e => by subst e; exact absurd (Eq.trans (Eq.symm (by kernel_rfl)) hf) Bool.false_ne_true) h)
        ·
          intro u w21 au hsl hel hu hF hp' K hK
          have h0 : u 0 = .slice (some ⟨bL, 0, none⟩) m cL := (G0.out _).1 (PreF.get hp' 0 (by kernel_rfl)).1
          have t41 : au.tmps[41]?.getD undef = u 0 := hsl.out 0 41 (by kernel_rfl)
          rw [h0] at t41
          have h1 : u 1 = .int .i64 (q : Int) := (G1.out _).1 (PreF.get hp' 1 (by kernel_rfl)).1
          have t42 : au.tmps[42]?.getD undef = u 1 := hsl.out 1 42 (by kernel_rfl)
          rw [h1] at t42
          refine step_plainI rfl ?_
          go_simp
          exact hK.out (.pointer (some ⟨bL, q, none⟩)) _ (sR_up hF 12 (by omega) _) (sF_val 12 (by omega) ((G12.out _).2 rfl)) (fun j hj hf h => sF_up 12 _ j hj (fun e => by subst e; exact absurd (Eq.trans (Eq.symm (by kernel_rfl)) hf) Bool.false_ne_true) h)
        ·
          intro u w21 au hsl hel hu hF hp' K hK
          have h12 : u 12 = .pointer (some ⟨bL, q, none⟩) := (G12.out _).1 (PreF.get hp' 12 (by kernel_rfl)).1
          have t53 : au.tmps[53]?.getD undef = u 12 := hsl.out 12 53 (by kernel_rfl)
          rw [h12] at t53
          have h11 : u 11 = .int .i64 Z := (G11.out _).1 (PreF.get hp' 11 (by kernel_rfl)).1
          have t52 : au.tmps[52]?.getD undef = u 11 := hsl.out 11 52 (by kernel_rfl)
          rw [h11] at t52
          have hw : w21 = W.drew := hF ((hu.out 13 (by decide) (.inl rfl)).trans (by kernel_rfl))
          have xc : w21.cell? ⟨bL, q, none⟩ = some (.int .i64 R) := by rw [hw]; exact HXQ.out
          have xf : w21.frozen? ⟨bL, q, none⟩ = false := by rw [hw]; exact HXF.out
          have HW21 := hide hw
          clear hw
          refine step_plainI rfl ?_
          go_simp
          exact hK.out (.bool true) _ (sR_st (by simp [undef])) (sF_st (G13.out _) (by rw [hPP, HW21.out])) (fun j hj _ h => sF_keep _ j hj h)
      · intro u w30 hF hall
        have hp := (hall 13 (by decide)).2 rfl
        rw [hPP] at hp
        have HE := hide hp
        clear hF hall hp
        simp only [rgPut, Act.put]
        go_simp
        gi_wp2
        rw [HE.out]
        refine ⟨HKS.out, ?_, HKN.out, HQN.out⟩
        rw [List.length_append, HII.out]
        exact HSN.out
    case done =>
      rintro D W hD ⟨hst, hkm, hkq⟩ hDD
      rw [fl_len] at hst
      have HSD := hide ((St.cong2 hst (fun l hl => HIl.out l (by rw [← HM.out]; exact hl))).sub (L' := ((w.heap.size + 1, [.slice (some ⟨bL, 0, none⟩) m cL]) :: (w.heap.size, [.int .i64 p, .int .i64 p, .slice (some ⟨bP, 0, none⟩) n cP]) :: L)) ((List.sublist_cons_self ..).trans (List.sublist_cons_self ..)) (List.Sublist.refl _))
      have HKD := hide (hkm.cons hDD)
      have HD7 := hide hD
      have HQD := hide hkq
      have HDk : Hid (dcK p S f (k + 1) = updN G k V) := by show Lnm.upd (dcK p S f k) k (dcv p S (dcK p S f k) k) = _; rw [← HGG.out, ← HV.out]; rfl
      have HND' : Hid ((D :: Ds).Nodup) := List.nodup_cons.2 ⟨fun h => by have := HK7.out.lt h; omega, HND.out⟩
      have HLO' : Hid (∀ E ∈ D :: Ds, w.heap.size ≤ E) := fun E hE => by
        rcases List.mem_cons.1 hE with rfl | hE
        · have := (HS7.out.ltB 3 rfl).2
          omega
        · exact HLO.out E hE
      clear hst hkm hkq hDD hD HIs HIt HIl HIz hmL hlt7 HS7 HK7 HQ7 HB7
      gi_wp2
      refine ⟨⟨D :: Ds, ?_⟩, ?_⟩
      · repeat apply Exists.intro
        refine ⟨⟨k + 1, rfl, ⟨by omega, by rw [HDk.out]; exact HSD.out, HKD.out, HQD.out, HND'.out, HLO'.out⟩⟩, rfl⟩
      · simp [intOf]; omega
  · obtain rfl : k = n := by omega
    have HST := hide (hst.sub (L' := L) ((List.sublist_cons_self ..).trans (List.sublist_cons_self ..)) (List.Sublist.refl _))
    clear hlt hst
    gi_wp2
    exact leaves_marks (fun W => St w0 L (dcP bP k (dcK p S f k) :: dcP bL m (rsl p S (dcK p S f k)) :: O) W ∧ KpS (fun b => b = bP ∨ b = bL) w W) (B := w.heap.size) (fun W D h hB hD => ⟨h.1.put (Nat.le_trans hw0 hB) hD rfl _, h.2.put hB _⟩) (fun W h => ⟨_, results_none rfl _ _ _, rfl, h⟩) Ds wr hkm hlo hnd ⟨HST.out, hkp'⟩

end Go.Proofs.Ytedjnemijeaeoaa

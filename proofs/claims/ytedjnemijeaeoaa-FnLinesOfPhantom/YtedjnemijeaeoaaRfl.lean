/- Ranges over a function whose loop is never left early, where iterators range over iterators: a contract that says which blocks a round keeps, and the law of its use. -/
import Derived.RangeFuncNested
import Derived.RangeFuncBound
import Derived.RangeFuncCalls
import Derived.RangeFuncLeaves
import Derived.Shelf.Abstract
import Derived.Shelf.RegionOpen
import Derived.WalkKit
import Derived.OwnWalkIn
import Derived.TacticsInMore
import Derived.LoopNIn
import Derived.LoopIn
import Derived.Test.YtedjnemijeaeoaaIls
namespace Go.Proofs.Ytedjnemijeaeoaa
open Go.RowKit Go.Shelf

/-- the blocks of S lie as they lay -/
def KS (S : Nat → Prop) (W W' : World) : Prop := W.heap.size ≤ W'.heap.size ∧ ∀ k, S k → k < W.heap.size → W'.heap[k]? = W.heap[k]?
theorem KS.refl (S : Nat → Prop) (W : World) : KS S W W := ⟨Nat.le_refl _, fun _ _ _ => rfl⟩
theorem KS.trans {S : Nat → Prop} {A B C : World} (h : KS S A B) (k : KS S B C) : KS S A C :=
  ⟨Nat.le_trans h.1 k.1, fun j hj hl => (k.2 j hj (Nat.lt_of_lt_of_le hl h.1)).trans (h.2 j hj hl)⟩
theorem KS.mono {S T : Nat → Prop} {A B : World} (h : KS S A B) (hs : ∀ k, T k → S k) : KS T A B := ⟨h.1, fun k hk hl => h.2 k (hs k hk) hl⟩
theorem KS.below {S : Nat → Prop} {A B : World} (h : Below A.heap.size A B) : KS S A B := ⟨h.size, fun k _ hl => h.block k hl⟩
theorem KS.put {S : Nat → Prop} {W : World} {l : Nat} (o : Obj) (hl : ¬ S l) : KS S W (W.putObj l o) :=
  ⟨by simp [World.putObj], fun k hk _ => World.putObj_heap_other (by intro e; subst e; exact hl hk)⟩
theorem KS.setCell {S : Nat → Prop} {W : World} {p : Addr} (v : Value) (hp : ¬ S p.block) : KS S W (W.setCell p v) := by
  have hk : Kept p.block W (W.setCell p v) := (Kept.refl p.block W).setCell rfl v
  exact ⟨hk.size, fun k hk' hl => hk.block k hl (by intro e; subst e; exact hp hk')⟩
theorem KS.drew {S : Nat → Prop} (W : World) : KS S W W.drew := ⟨Nat.le_refl _, fun _ _ _ => rfl⟩
theorem KS.cell {S : Nat → Prop} {A B : World} (h : KS S A B) {p : Addr} {v : Value} (hp : S p.block) (hc : A.cell? p = some v) : B.cell? p = some v := by
  have hl := World.block_lt_of_cell? A p hc
  have := h.2 p.block hp hl
  unfold World.cell? at hc ⊢
  rw [this]; exact hc
theorem KS.px {S : Nat → Prop} {A B : World} (h : KS S A B) {a : Option Addr} {n : Nat} {f : Nat → Int} (hp : ∀ p, a = some p → S p.block) (hc : Px a n f A) : Px a n f B := by
  rcases hc with hc | ⟨b, off, ha, hc⟩
  · exact .inl hc
  · exact .inr ⟨b, off, ha, fun k hk => h.cell (p := ⟨b, off + k, none⟩) (hp ⟨b, off, none⟩ ha) (hc k hk)⟩

theorem RoundIn.any {m : Nat} (m' : Nat) {P : Program} {l : Nat} {f : FuncId} {tmps : Array Value} {assign body : Code} {w : World} {R : Ending → World → Prop}
    (h : RoundIn Fence.wide m P l f tmps assign body w R) : RoundIn Fence.wide m' P l f tmps assign body w R := ⟨h.1, fun c cs _ => h.2 c cs (fun d hd => by cases hd)⟩
theorem YieldAt.any {m : Nat} (m' : Nat) {P : Program} {l : Nat} {args : Array Value} {W : World} {R : Ending → World → Prop} (h : YieldAt Fence.wide m P l args W R) : YieldAt Fence.wide m' P l args W R := by
  obtain ⟨fn, tmps, assign, body, hy, hR⟩ := h
  exact ⟨fn, tmps, assign, body, hy, RoundIn.any m' hR⟩

/-- the iterator gives xs, to whoever keeps in a round the blocks of S and those that the iterator lays -/
def Gv (P : Program) (gf : Nat) (lb : Array Value) (xs : List Int) (S : Nat → Prop) (w : World) : Prop :=
  ∀ (l : Nat) (J : List Int → World → Prop) (W : World), Below w.heap.size w W → OwnFrom W.heap.size J →
    (∀ pre x W1, J pre W1 → (pre ++ [x]) <+: xs → YieldAt Fence.wide 0 P l #[.int .i64 x] W1 fun e W' => e = .returned (.bool true) ∧ J (pre ++ [x]) W' ∧ KS (fun k => S k ∨ W.heap.size ≤ k) W1 W') →
    J [] W → Calls P gf (#[.func (.yield l) #[] #[]] ++ lb) W fun e W' => (∃ v, e = .returned v) ∧ J xs W'

/-- how a round is left: it goes on -/
def goesOn (B : Nat) (S : Nat → Prop) (I : World → Prop) (W : World) : Exit → Act → World → Prop
  | .normal, _, W' => KS (fun k => S k ∨ B ≤ k) W W' ∧ I W'
  | _, _, _ => False

/-- the law of a loop over what Gv says, that is never left early -/
theorem wpIn_gives {n : Nat} {P : Program} {g : Operand} {ps : Array Tmp} {assign body : Code} {Q : Exit → Act → World → Prop} {a : Act} {w : World} {gf : Nat} {lb : Array Value}
    (hg : a.eval g = .func (.func gf) #[] lb) (eg : ∀ args w, (callFunc gf args).run P w = .ok (.enter gf args) w)
    {xs : List Int} {S : Nat → Prop} {w0 : World} (hseq : Gv P gf lb xs S w0) (hS : ∀ k, S k → k < w.heap.size) (hb0 : Below w0.heap.size w0 w) (hps : 1 = ps.size)
    (I : List Int → World → Prop) (hI : OwnFrom w.heap.size I) (h0 : I [] w) (a₁ : Int → Act)
    (hassign : ∀ (l : Nat) (x : Int) (W : World) (K : Act → World → Prop), K (a₁ x) W →
      assign.wpIn (Fence.wide.inRound l) n P (Exit.then K (fun _ _ _ => False)) { tmps := (ps.zip #[Value.int .i64 x]).foldl (fun t (p, v) => t.setIfInBounds p v) a.tmps, defers := [] } W)
    (hbody : ∀ (l : Nat) (pre : List Int) (x : Int) (W : World), I pre W → (pre ++ [x]) <+: xs → body.wpIn (Fence.wide.inRound l) n P (goesOn w.heap.size S (I (pre ++ [x])) W) (a₁ x) W)
    (hdone : ∀ (D : Nat) (W : World), w.heap.size ≤ D → I xs W → W.heap[D]? = some (.deferred (some [])) → Q .normal { a with defers := { target := .collected D, args := #[] } :: a.defers } W) :
    (Code.rangeFunc g ps assign body).wpIn Fence.wide n P Q a w := by
  refine wpIn_rangeFunc fun fn _ => ?_
  obtain ⟨rc, hrc⟩ : ∃ rc : LoopState → Loop, rc = fun st => { state := st, pending := none, fn, tmps := a.tmps, params := ps, assign, body, defers := w.heap.size } := ⟨_, rfl⟩
  have hrun := run_enterLoop_outer (P := P) (w := w) fn a.tmps ps assign body
  obtain ⟨V, hV⟩ : ∃ V, V = (w.alloc (.deferred (some []))).alloc (.loop (rc .ready)) := ⟨_, rfl⟩
  have hs : V.heap.size = w.heap.size + 2 := by rw [hV]; simp
  have hL : V.heap[w.heap.size + 1]? = some (.loop (rc .ready)) := by
    have := World.alloc_heap_new (w.alloc (.deferred (some []))) (.loop (rc .ready))
    rw [hV]; rwa [World.size_alloc] at this
  have hD : V.heap[w.heap.size]? = some (.deferred (some [])) := by
    rw [hV]; exact (Below.heap_alloc _ _ _ (by simp)).trans (World.alloc_heap_new w _)
  have hVb : Below w.heap.size w V := by rw [hV]; exact ((Below.refl _ w).alloc (Nat.le_refl _) _).alloc (by simp) _
  refine ⟨w.heap.size + 1, _, V, { target := .fn (.func gf) lb, args := #[.func (.yield (w.heap.size + 1)) #[] #[]] }, V, gf, #[.func (.yield (w.heap.size + 1)) #[] #[]] ++ lb, V, by rw [hV, hrc]; exact hrun, ?_, fun _ _ => trivial, ?_, (fun h => (by cases h)), ?_⟩
  · simp only [resolve, hg]
    simp [go_sem]
  · simp [invoke, go_sem, eg]
  have hrec : ∀ (W W' : World), KS (fun k => S k ∨ w.heap.size ≤ k) W W' → ∀ r, w.heap.size ≤ r → ∀ o, W.heap[r]? = some o → W'.heap[r]? = some o :=
    fun W W' hk r hr o ho => (hk.2 r (.inr hr) (Array.getElem?_eq_some_iff.1 ho).1).trans ho
  refine callsIn_wide.2 ((hseq (w.heap.size + 1) (fun pre W => I pre W ∧ W.heap[w.heap.size + 1]? = some (.loop (rc .ready)) ∧ W.heap[w.heap.size]? = some (.deferred (some []))) V
    (hb0.trans (hVb.mono hb0.size)) ?_ ?_ ⟨?_, hL, hD⟩).mono ?_)
  · intro s A B row h hgr hr
    have keep : ∀ r o, r < V.heap.size → A.heap[r]? = some o → B.heap[r]? = some o := fun r o hlt ho =>
      (hgr.block r (Array.getElem?_eq_some_iff.1 ho).1 (fun e => by have := (hr r e.symm).1; omega)).trans ho
    exact ⟨hI s A B row h.1 hgr (fun r e => ⟨by have := (hr r e).1; omega, (hr r e).2⟩), keep _ _ (by omega) h.2.1, keep _ _ (by omega) h.2.2⟩
  · rintro pre x W ⟨hi, hl, hk⟩ hpre
    have hlt : w.heap.size + 1 < W.heap.size := (Array.getElem?_eq_some_iff.1 hl).1
    have hy := run_yield (P := P) (args := #[Value.int .i64 x]) hl (by rw [hrc]; exact hps)
    rw [hrc] at hy
    refine YieldAt.any (m := n) 0 ⟨fn, _, assign, body, hy, roundIn_of_wpIn trivial (hassign _ x W _ ?_)⟩
    clear hy
    refine ⟨_, run_beginRound hl (by rw [hrc]), ?_⟩
    obtain ⟨Z, hZ⟩ : ∃ Z, Z = W.putObj (w.heap.size + 1) (.loop { rc .ready with state := .busy }) := ⟨_, rfl⟩
    have hl2 : Z.heap[w.heap.size + 1]? = some (.loop { rc .ready with state := .busy }) := by rw [hZ]; exact World.putObj_heap_same hlt
    have hk2 : Z.heap[w.heap.size]? = some (.deferred (some [])) := by rw [hZ]; exact (World.putObj_heap_other (by omega)).trans hk
    have hiZ : I pre Z := by rw [hZ]; exact hI.putObj _ hi (by omega) hl rfl
    have hkZ : KS (fun k => S k ∨ V.heap.size ≤ k) W Z := by
      rw [hZ]; exact KS.put _ (fun h => by rcases h with h | h; (have := hS _ h; omega); omega)
    rw [← hZ]
    refine wpIn_mono (hbody _ pre x Z hiZ hpre) ?_
    rintro e a3 W3 hp
    cases e with
    | normal =>
      obtain ⟨hk3, hi3⟩ := hp
      have hl3 := hrec _ _ hk3 _ (by omega) _ hl2
      have hd3 := hrec _ _ hk3 _ (Nat.le_refl _) _ hk2
      have he := run_endRound (P := P) none hl3
      rw [hrc] at he
      refine ⟨_, _, he, rfl, ⟨hI.putObj _ hi3 (by omega) hl3 rfl, ?_, (World.putObj_heap_other (by omega)).trans hd3⟩, ?_⟩
      · rw [hrc]; exact World.putObj_heap_same (Array.getElem?_eq_some_iff.1 hl3).1
      · exact (hkZ.trans (hk3.mono (fun k h => h.imp id (fun h => by omega)))).trans (KS.put _ (fun h => by rcases h with h | h; (have := hS _ h; omega); omega))
    | ret => exact hp.elim
    | exit id => exact hp.elim
    | goto t => exact hp.elim
    | panic ch => exact hp.elim
    | outgrown => exact hp.elim
  · rw [hV]; exact hI.alloc _ (hI.alloc _ h0)
  · rintro e W2 ⟨⟨v, rfl⟩, hi, hl, hk⟩
    refine ⟨none, _, by have := run_endLoop (P := P) hl (by rw [hrc]; simp); rw [hrc] at this; exact this, ?_⟩
    exact hdone _ _ (Nat.le_refl _) (hI.putObj _ hi (by omega) hl rfl) ((World.putObj_heap_other (by omega)).trans hk)

end Go.Proofs.Ytedjnemijeaeoaa

/- Ranges over a function that gives values of any kind, never left early. -/
import Derived.Test.YtocmbdckjdggiaaRfl
namespace Go.Proofs.Ytocmbdckjdggiaa
open Go.RowKit Go.Shelf

/-- the iterator gives xs, to whoever keeps in a round the blocks of S and those that the iterator lays -/
def Gw (P : Program) (gf : Nat) (lb : Array Value) (xs : List Value) (S : Nat → Prop) (w : World) : Prop :=
  ∀ (l : Nat) (J : List Value → World → Prop) (W : World), Below w.heap.size w W → OwnFrom W.heap.size J →
    (∀ pre x W1, J pre W1 → (pre ++ [x]) <+: xs → YieldAt Fence.wide 0 P l #[x] W1 fun e W' => e = .returned (.bool true) ∧ J (pre ++ [x]) W' ∧ KS S W1 W') →
    J [] W → Calls P gf (#[.func (.yield l) #[] #[]] ++ lb) W fun e W' => (∃ v, e = .returned v) ∧ J xs W'

/-- how a round is left: it goes on -/
def goesOnV (S : Nat → Prop) (I : World → Prop) (W : World) : Exit → Act → World → Prop
  | .normal, _, W' => KS S W W' ∧ KeepsOthers W W' ∧ I W'
  | _, _, _ => False

/-- the law of a loop over what Gw says, that is never left early -/
theorem wpIn_givesV {n : Nat} {P : Program} {g : Operand} {ps : Array Tmp} {assign body : Code} {Q : Exit → Act → World → Prop} {a : Act} {w : World} {gf : Nat} {lb : Array Value}
    (hg : a.eval g = .func (.func gf) #[] lb) (eg : ∀ args w, (callFunc gf args).run P w = .ok (.enter gf args) w)
    {xs : List Value} {S : Nat → Prop} {w0 : World} (hseq : Gw P gf lb xs S w0) (hS : ∀ k, S k → k < w.heap.size) (hb0 : Below w0.heap.size w0 w) (hps : 1 = ps.size)
    (I : List Value → World → Prop) (hI : OwnFrom w.heap.size I) (h0 : I [] w) (a₁ : Value → Act)
    (hassign : ∀ (l : Nat) (x : Value) (W : World) (K : Act → World → Prop), K (a₁ x) W →
      assign.wpIn (Fence.wide.inRound l) n P (Exit.then K (fun _ _ _ => False)) { tmps := (ps.zip #[x]).foldl (fun t (p, v) => t.setIfInBounds p v) a.tmps, defers := [] } W)
    (hbody : ∀ (l : Nat) (pre : List Value) (x : Value) (W : World), I pre W → (pre ++ [x]) <+: xs → body.wpIn (Fence.wide.inRound l) n P (goesOnV S (I (pre ++ [x])) W) (a₁ x) W)
    (hdone : ∀ (D : Nat) (W : World), w.heap.size ≤ D → I xs W → W.heap[D]? = some (.deferred (some [])) → Q .normal { a with defers := { target := .collected D, args := #[] } :: a.defers } W) :
    (Code.rangeFunc g ps assign body).wpIn Fence.wide n P Q a w := by
  refine wpIn_rangeFunc fun fn _ => ?_
  obtain ⟨rc, hrc⟩ : ∃ rc : LoopState → Loop, rc = fun st => { state := st, pending := none, fn, tmps := a.tmps, params := ps, assign, body, defers := w.heap.size } := ⟨_, rfl⟩
  have hrun := run_enterLoop_outer (P := P) (w := w) fn a.tmps ps assign body
  obtain ⟨V, hV⟩ : ∃ V, V = (w.alloc (.deferred (some []))).alloc (.loop (rc .ready)) := ⟨_, rfl⟩
  have hs : V.heap.size = w.heap.size + 2 := by rw [hV]; simp
  have hL : V.heap[w.heap.size + 1]? = some (.loop (rc .ready)) := by
    have := World.alloc_heap_new (w.alloc (.deferred (some []))) (.loop (rc .ready))
    rw [hV]; rwa [World.size_alloc] at this
  have hD : V.heap[w.heap.size]? = some (.deferred (some [])) := by
    rw [hV]; exact (Below.heap_alloc _ _ _ (by simp)).trans (World.alloc_heap_new w _)
  have hVb : Below w.heap.size w V := by rw [hV]; exact ((Below.refl _ w).alloc (Nat.le_refl _) _).alloc (by simp) _
  refine ⟨w.heap.size + 1, _, V, { target := .fn (.func gf) lb, args := #[.func (.yield (w.heap.size + 1)) #[] #[]] }, V, gf, #[.func (.yield (w.heap.size + 1)) #[] #[]] ++ lb, V, by rw [hV, hrc]; exact hrun, ?_, fun _ _ => trivial, ?_, (fun h => (by cases h)), ?_⟩
  · simp only [resolve, hg]
    simp [go_sem]
  · simp [invoke, go_sem, eg]
  refine callsIn_wide.2 ((hseq (w.heap.size + 1) (fun pre W => I pre W ∧ W.heap[w.heap.size + 1]? = some (.loop (rc .ready)) ∧ W.heap[w.heap.size]? = some (.deferred (some []))) V
    (hb0.trans (hVb.mono hb0.size)) ?_ ?_ ⟨?_, hL, hD⟩).mono ?_)
  · intro s A B row h hgr hr
    have keep : ∀ r o, r < V.heap.size → A.heap[r]? = some o → B.heap[r]? = some o := fun r o hlt ho =>
      (hgr.block r (Array.getElem?_eq_some_iff.1 ho).1 (fun e => by have := (hr r e.symm).1; omega)).trans ho
    exact ⟨hI s A B row h.1 hgr (fun r e => ⟨by have := (hr r e).1; omega, (hr r e).2⟩), keep _ _ (by omega) h.2.1, keep _ _ (by omega) h.2.2⟩
  · rintro pre x W ⟨hi, hl, hk⟩ hpre
    have hlt : w.heap.size + 1 < W.heap.size := (Array.getElem?_eq_some_iff.1 hl).1
    have hy := run_yield (P := P) (args := #[x]) hl (by rw [hrc]; exact hps)
    rw [hrc] at hy
    refine YieldAt.any (m := n) 0 ⟨fn, _, assign, body, hy, roundIn_of_wpIn trivial (hassign _ x W _ ?_)⟩
    clear hy
    refine ⟨_, run_beginRound hl (by rw [hrc]), ?_⟩
    obtain ⟨Z, hZ⟩ : ∃ Z, Z = W.putObj (w.heap.size + 1) (.loop { rc .ready with state := .busy }) := ⟨_, rfl⟩
    have hl2 : Z.heap[w.heap.size + 1]? = some (.loop { rc .ready with state := .busy }) := by rw [hZ]; exact World.putObj_heap_same hlt
    have hk2 : Z.heap[w.heap.size]? = some (.deferred (some [])) := by rw [hZ]; exact (World.putObj_heap_other (by omega)).trans hk
    have hiZ : I pre Z := by rw [hZ]; exact hI.putObj _ hi (by omega) hl rfl
    have hkZ : KS S W Z := by
      rw [hZ]; exact KS.put _ (fun h => by have := hS _ h; omega)
    rw [← hZ]
    refine wpIn_mono (hbody _ pre x Z hiZ hpre) ?_
    rintro e a3 W3 hp
    cases e with
    | normal =>
      obtain ⟨hk3, ho3, hi3⟩ := hp
      have hl3 := ho3.same _ _ hl2 rfl
      have hd3 := ho3.same _ _ hk2 rfl
      have he := run_endRound (P := P) none hl3
      rw [hrc] at he
      refine ⟨_, _, he, rfl, ⟨hI.putObj _ hi3 (by omega) hl3 rfl, ?_, (World.putObj_heap_other (by omega)).trans hd3⟩, ?_⟩
      · rw [hrc]; exact World.putObj_heap_same (Array.getElem?_eq_some_iff.1 hl3).1
      · exact (hkZ.trans hk3).trans (KS.put _ (fun h => by have := hS _ h; omega))
    | ret => exact hp.elim
    | exit id => exact hp.elim
    | goto t => exact hp.elim
    | panic ch => exact hp.elim
    | outgrown => exact hp.elim
  · rw [hV]; exact hI.alloc _ (hI.alloc _ h0)
  · rintro e W2 ⟨⟨v, rfl⟩, hi, hl, hk⟩
    refine ⟨none, _, by have := run_endLoop (P := P) hl (by rw [hrc]; simp); rw [hrc] at this; exact this, ?_⟩
    exact hdone _ _ (Nat.le_refl _) (hI.putObj _ hi (by omega) hl rfl) ((World.putObj_heap_other (by omega)).trans hk)

end Go.Proofs.Ytocmbdckjdggiaa

/- A region that draws, in which frames are made and one of them is put into a new box; a frame and a flag as an answer. -/
import Derived.Test.YtjdbiaoheoialaaBxs
import Derived.Test.YtjdbiaoheoialaaRFrm
import Derived.Test.YtjdbiaoheoialaaOw2
import Derived.Test.YtjdbiaoheoialaaCpn
namespace Go.Proofs.Ytjdbiaoheoialaa
open Go.RowKit

def qn (q : Bool) (n : Nat) : Nat := if q then n else 0
def qD (q : Bool) (D : Int) : Int := if q then D else 0
theorem qn_le (q : Bool) (n : Nat) : qn q n ≤ n := by unfold qn; split <;> omega
/-- a frame that is answered, in one form whether it is there or not -/
theorem FrX.u {q : Bool} {D : Int} {M T : Nat → Int} {w : World} {e : Ending} {w' : World} (h : FrX q D M T w e w') :
    ∃ a0 b0 c0 a1 b1 c1, e = .returned (.tuple #[vFrame (qD q D) a0 (qn q 9) c0 a1 (qn q 3) c1, .bool q]) ∧ Ow a0 b0 (qn q 9) M w' ∧ Ow a1 b1 (qn q 3) T w' ∧ (qn q 9 = 0 ∨ w.heap.size ≤ b0) ∧ (qn q 3 = 0 ∨ w.heap.size ≤ b1) ∧ (qn q 9 = 0 ∨ qn q 3 = 0 ∨ b0 ≠ b1) ∧ Below w.heap.size w w' := by
  rcases h with ⟨rfl, b0, c0, b1, c1, rfl, h0, h1, hne, r0, r1, hb⟩ | ⟨rfl, rfl, hb⟩
  · exact ⟨_, b0, c0, _, b1, c1, rfl, .inr ⟨rfl, r0⟩, .inr ⟨rfl, r1⟩, .inr h0, .inr h1, .inr (.inr hne), hb⟩
  · exact ⟨none, 0, 0, none, 0, 0, rfl, .inl rfl, .inl rfl, .inl rfl, .inl rfl, .inl rfl, hb⟩
def wrq (o : Option Bool) (x : Value) : Value := match o with | none => x | some q => .tuple #[x, .bool q]
abbrev FrT := Option Bool × Nat × Nat × Int × (Nat → Int) × (Nat → Int)
/-- a frame of the call's own, apart from the box -/
def FrB (A : Nat) (wB : World) (f : FrT) (u : Nat → Value) (v : Value) (w : World) : Prop :=
  ∃ a0 b0 c0 a1 b1 c1, v = wrq f.1 (vFrame f.2.2.2.1 a0 f.2.1 c0 a1 f.2.2.1 c1) ∧ Ow a0 b0 f.2.1 f.2.2.2.2.1 w ∧ Ow a1 b1 f.2.2.1 f.2.2.2.2.2 w ∧ (f.2.1 = 0 ∨ wB.heap.size ≤ b0) ∧ (f.2.2.1 = 0 ∨ wB.heap.size ≤ b1) ∧ (f.2.1 = 0 ∨ f.2.2.1 = 0 ∨ b0 ≠ b1) ∧ ∀ M, u A = .pointer (some ⟨M, 0, none⟩) → (f.2.1 = 0 ∨ M ≠ b0) ∧ (f.2.2.1 = 0 ∨ M ≠ b1)
theorem FrB.upd {A : Nat} {wB : World} {f : FrT} {u : Nat → Value} {x : Value} {w : World} (h : FrB A wB f u x w) (i : Nat) (hi : A ≠ i) (v : Value) : FrB A wB f (upU u i v) x w := by
  obtain ⟨a0, b0, c0, a1, b1, c1, e, h0, h1, h2, h3, h4, h5⟩ := h
  exact ⟨a0, b0, c0, a1, b1, c1, e, h0, h1, h2, h3, h4, fun M hM => h5 M (by rwa [upU_other u v hi] at hM)⟩
theorem FrB.below {A : Nat} {wB : World} {f : FrT} {u : Nat → Value} {x : Value} {w w' : World} (h : FrB A wB f u x w) (hb : Below w.heap.size w w') : FrB A wB f u x w' := by
  obtain ⟨a0, b0, c0, a1, b1, c1, e, h0, h1, h2, h3, h4, h5⟩ := h
  exact ⟨a0, b0, c0, a1, b1, c1, e, h0.below' hb, h1.below' hb, h2, h3, h4, h5⟩
theorem ow_lt {a : Option Addr} {b n : Nat} {f : Nat → Int} {w : World} (h : Ow a b n f w) : n = 0 ∨ b < w.heap.size := by
  by_cases h0 : n = 0
  · exact .inl h0
  · exact .inr (OwV.lt h.v h0)
theorem FrB.new {A S : Nat} {z : Value} {zs : List Value} {wB : World} {f : FrT} {u : Nat → Value} {w w' : World} (hR : bR A S z zs wB u w) (h7 : u S = undef) {a0 : Option Addr} {b0 : Nat} (c0 : Nat) {a1 : Option Addr} {b1 : Nat} (c1 : Nat) (h0 : Ow a0 b0 f.2.1 f.2.2.2.2.1 w') (h1 : Ow a1 b1 f.2.2.1 f.2.2.2.2.2 w') (h2 : f.2.1 = 0 ∨ w.heap.size ≤ b0) (h3 : f.2.2.1 = 0 ∨ w.heap.size ≤ b1) (h4 : f.2.1 = 0 ∨ f.2.2.1 = 0 ∨ b0 ≠ b1) :
    FrB A wB f u (wrq f.1 (vFrame f.2.2.2.1 a0 f.2.1 c0 a1 f.2.2.1 c1)) w' := by
  have hs := hR.1.size
  refine ⟨a0, b0, c0, a1, b1, c1, rfl, h0, h1, h2.imp id (fun h => by omega), h3.imp id (fun h => by omega), h4, fun M hM => ?_⟩
  have hlt : M < w.heap.size := by
    by_cases hMB : wB.heap.size ≤ M
    · rcases hR.2 M hM hMB with h | h
      · exact absurd h7 h
      · exact h.lt
    · omega
  exact ⟨h2.imp id (fun h => by omega), h3.imp id (fun h => by omega)⟩
/-- what each operation leaves -/
def fF (A S : Nat) (wB : World) (G : Nat → Value → Prop) (fo : Nat → Option FrT) (P : Nat → World → Prop) (j : Nat) (u : Nat → Value) (w : World) : Prop :=
  G j (u j) ∧ (∀ f, fo j = some f → u S ≠ undef ∨ FrB A wB f u (u j) w) ∧ (j = A → ∃ M, u A = .pointer (some ⟨M, 0, none⟩) ∧ wB.heap.size ≤ M) ∧ (j = S → ∃ M, u A = .pointer (some ⟨M, 0, none⟩) ∧ wB.heap.size ≤ M ∧ P M w)
theorem fF_up {A S : Nat} {wB : World} {G : Nat → Value → Prop} {fo : Nat → Option FrT} {P : Nat → World → Prop} {u : Nat → Value} {w w' : World} (hP : ∀ M, P M w → P M w') (hb : Below w.heap.size w w') (i : Nat) (hA : A ≠ i) (hS : S ≠ i) (v : Value) (j : Nat) (hj : j ≠ i) (h : fF A S wB G fo P j u w) : fF A S wB G fo P j (upU u i v) w' := by
  obtain ⟨h1, h2, h3, h4⟩ := h
  refine ⟨by rw [upU_other u v hj]; exact h1, fun f hf => ?_, fun e => ?_, fun e => ?_⟩
  · rw [upU_other u v hj, upU_other u v hS]
    exact (h2 f hf).imp id fun h => (h.below hb).upd i hA v
  · rw [upU_other u v hA]; exact h3 e
  · obtain ⟨M, a1, a2, a3⟩ := h4 e
    exact ⟨M, by rw [upU_other u v hA]; exact a1, a2, hP M a3⟩
theorem fF_al {A S : Nat} {wB : World} {G : Nat → Value → Prop} {fo : Nat → Option FrT} {P : Nat → World → Prop} {u : Nat → Value} {w : World} (hAS : S ≠ A) (o : Obj) (j : Nat) (hj : j ≠ A) (hjS : j ≠ S) (h : fF A S wB G fo P j u w) : fF A S wB G fo P j (upU u A (.pointer (some ⟨w.heap.size, 0, none⟩))) (w.alloc o) := by
  have hb := bnew w o
  obtain ⟨h1, h2, h3, h4⟩ := h
  refine ⟨by rw [upU_other _ _ hj]; exact h1, fun f hf => ?_, fun e => absurd e hj, fun e => absurd e hjS⟩
  rw [upU_other _ _ hj, upU_other _ _ hAS]
  refine (h2 f hf).imp id fun h => ?_
  obtain ⟨a0, b0, c0, a1, b1, c1, e, k0, k1, k2, k3, k4, k5⟩ := h
  refine ⟨a0, b0, c0, a1, b1, c1, e, k0.below' hb, k1.below' hb, k2, k3, k4, fun M hM => ?_⟩
  rw [upU_same] at hM
  cases hM
  exact ⟨(ow_lt k0).imp id (fun h => by omega), (ow_lt k1).imp id (fun h => by omega)⟩
theorem fF_ptr {A S : Nat} {wB : World} {G : Nat → Value → Prop} {fo : Nat → Option FrT} {P : Nat → World → Prop} {u : Nat → Value} {w : World} (hAS : A ≠ S) (hG : ∀ v, G A v) (hf : fo A = none) {M : Nat} (hM : wB.heap.size ≤ M) : fF A S wB G fo P A (upU u A (.pointer (some ⟨M, 0, none⟩))) w :=
  ⟨hG _, fun f h => (by rw [hf] at h; cases h), fun _ => ⟨M, upU_same _ _ _, hM⟩, fun e => absurd e hAS⟩
theorem fF_st {A S : Nat} {wB : World} {G : Nat → Value → Prop} {fo : Nat → Option FrT} {P : Nat → World → Prop} {u : Nat → Value} {w w' : World} {v : Value} (hAS : A ≠ S) (hv : v ≠ undef) (j : Nat) (hj : j ≠ S) (h : fF A S wB G fo P j u w) : fF A S wB G fo P j (upU u S v) w' := by
  obtain ⟨h1, h2, h3, h4⟩ := h
  exact ⟨by rw [upU_other _ _ hj]; exact h1, fun f hf => .inl (by rw [upU_same]; exact hv), fun e => by rw [upU_other _ _ hAS]; exact h3 e, fun e => absurd e hj⟩
theorem fF_done {A S : Nat} {wB : World} {G : Nat → Value → Prop} {fo : Nat → Option FrT} {P : Nat → World → Prop} {u : Nat → Value} {w : World} {v : Value} (hAS : A ≠ S) (hG : ∀ v, G S v) (hf : fo S = none) {M : Nat} (h : u A = .pointer (some ⟨M, 0, none⟩)) (hM : wB.heap.size ≤ M) (hP : P M w) : fF A S wB G fo P S (upU u S v) w :=
  ⟨hG _, fun f h => (by rw [hf] at h; cases h), fun e => absurd e.symm hAS, fun _ => ⟨M, (upU_other _ _ hAS).trans h, hM, hP⟩⟩
theorem fF_val {A S : Nat} {wB : World} {G : Nat → Value → Prop} {fo : Nat → Option FrT} {P : Nat → World → Prop} {u : Nat → Value} {w : World} (j : Nat) (hA : j ≠ A) (hS : j ≠ S) (hf : fo j = none) {v : Value} (h : G j v) : fF A S wB G fo P j (upU u j v) w :=
  ⟨by rw [upU_same]; exact h, fun f h => (by rw [hf] at h; cases h), fun e => absurd e hA, fun e => absurd e hS⟩
theorem fF_frm {A S : Nat} {wB : World} {G : Nat → Value → Prop} {fo : Nat → Option FrT} {P : Nat → World → Prop} {u : Nat → Value} {w : World} (j : Nat) (hA : j ≠ A) (hS : j ≠ S) {f : FrT} (hf : fo j = some f) {v : Value} (hG : G j v) (h : FrB A wB f u v w) : fF A S wB G fo P j (upU u j v) w :=
  ⟨by rw [upU_same]; exact hG, fun f' h' => (by rw [hf] at h'; cases h'; rw [upU_same]; exact .inr (h.upd j (Ne.symm hA) v)), fun e => absurd e hA, fun e => absurd e hS⟩
/-- a frame in its box, its lists apart from it -/
def FrP (wB : World) (N0 N1 : Nat) (D : Int) (M T : Nat → Int) (Q : Nat) (w : World) : Prop :=
  ∃ a0 b0 c0 a1 b1 c1, Bx Q [.slice a0 N0 c0, .slice a1 N1 c1, .int .i64 D] w ∧ Ow a0 b0 N0 M w ∧ Ow a1 b1 N1 T w ∧ (N0 = 0 ∨ wB.heap.size ≤ b0) ∧ (N1 = 0 ∨ wB.heap.size ≤ b1) ∧ (N0 = 0 ∨ N1 = 0 ∨ b0 ≠ b1) ∧ (N0 = 0 ∨ Q ≠ b0) ∧ (N1 = 0 ∨ Q ≠ b1)
theorem FrP.below {wB : World} {N0 N1 : Nat} {D : Int} {M T : Nat → Int} {Q : Nat} {w w' : World} (h : FrP wB N0 N1 D M T Q w) (hb : Below w.heap.size w w') : FrP wB N0 N1 D M T Q w' := by
  obtain ⟨a0, b0, c0, a1, b1, c1, hx, h0, h1, hr⟩ := h
  exact ⟨a0, b0, c0, a1, b1, c1, hx.below hb hx.lt, h0.below' hb, h1.below' hb, hr⟩
theorem Ow.set3 {a : Option Addr} {b n : Nat} {f : Nat → Int} {w : World} (h : Ow a b n f w) {Q : Nat} (hq : n = 0 ∨ Q ≠ b) (x y z : Value) : Ow a b n f (((w.setCell ⟨Q, 0, none⟩ x).setCell ⟨Q, 1, none⟩ y).setCell ⟨Q, 2, none⟩ z) := by
  by_cases h0 : n = 0
  · exact .inl h0
  · have hq' := hq.resolve_left h0
    obtain ⟨e, hr⟩ := Or.resolve_left h h0
    exact .inr ⟨e, ((Row.set hr (p := ⟨Q, 0, none⟩) hq' x).set (p := ⟨Q, 1, none⟩) hq' y).set (p := ⟨Q, 2, none⟩) hq' z⟩
theorem FrP.stored {A : Nat} {wB : World} {N0 N1 : Nat} {D : Int} {M T : Nat → Int} {u : Nat → Value} {w : World} {a0 : Option Addr} {b0 c0 : Nat} {a1 : Option Addr} {b1 c1 : Nat} {Q : Nat} (h0 : Ow a0 b0 N0 M w) (h1 : Ow a1 b1 N1 T w) (h2 : N0 = 0 ∨ wB.heap.size ≤ b0) (h3 : N1 = 0 ∨ wB.heap.size ≤ b1) (h4 : N0 = 0 ∨ N1 = 0 ∨ b0 ≠ b1)
    (h5 : ∀ Q, u A = .pointer (some ⟨Q, 0, none⟩) → (N0 = 0 ∨ Q ≠ b0) ∧ (N1 = 0 ∨ Q ≠ b1)) (hA : u A = .pointer (some ⟨Q, 0, none⟩)) {x y z : Value} (hx : Bx Q [x, y, z] w) :
    FrP wB N0 N1 D M T Q (((w.setCell ⟨Q, 0, none⟩ (.slice a0 N0 c0)).setCell ⟨Q, 1, none⟩ (.slice a1 N1 c1)).setCell ⟨Q, 2, none⟩ (.int .i64 D)) :=
  ⟨a0, b0, c0, a1, b1, c1, ((hx.set 0 _).set 1 _).set 2 _, h0.set3 (h5 Q hA).1 _ _ _, h1.set3 (h5 Q hA).2 _ _ _, h2, h3, h4, (h5 Q hA).1, (h5 Q hA).2⟩
theorem below_set3f {B : Nat} {w w1 : World} (h : Below B w w1) {b : Nat} (hb : B ≤ b) (u v x : Value) : Below B w (((w1.setCell ⟨b, 0, none⟩ u).setCell ⟨b, 1, none⟩ v).setCell ⟨b, 2, none⟩ x) :=
  ((h.setCell (p := ⟨b, 0, none⟩) hb u).setCell (p := ⟨b, 1, none⟩) hb v).setCell (p := ⟨b, 2, none⟩) hb x
theorem St.boxF {w0 : World} {L : List BoxT} {O : List OwnT} {w : World} (h : St w0 L O w) {c : Nat} {vs : List Value} (hx : Bx c vs w) (h0 : w0.heap.size ≤ c) (hc : c < w.heap.size) (hn : c ∉ blocks L O) : St w0 ((c, vs) :: L) O w := by
  refine ⟨h.below, ?_, h.ow, ?_, ?_⟩
  · intro x hx'
    rcases List.mem_cons.1 hx' with rfl | hx'
    · exact hx
    · exact h.bx x hx'
  · intro b hb
    rcases List.mem_cons.1 hb with rfl | hb
    · exact ⟨h0, hc⟩
    · exact h.lt b hb
  · exact List.nodup_cons.2 ⟨hn, h.nd⟩
/-- the box and the lists are taken in hand -/
theorem FrP.st {w0 : World} {L : List BoxT} {O : List OwnT} {wB w : World} (h : St w0 L O wB) (hb : Below wB.heap.size wB w) {N0 N1 : Nat} {D : Int} {M T : Nat → Int} {Q : Nat} (hp : FrP wB N0 N1 D M T Q w) (hQ : wB.heap.size ≤ Q) :
    ∃ a0 b0 c0 a1 b1 c1, St w0 ((Q, [.slice a0 N0 c0, .slice a1 N1 c1, .int .i64 D]) :: L) ((a1, b1, N1, fun k => .int .i64 (T k)) :: (a0, b0, N0, fun k => .int .i64 (M k)) :: O) w := by
  obtain ⟨a0, b0, c0, a1, b1, c1, hx, h0, h1, h2, h3, h4, h5, h6⟩ := hp
  have hs := h.below.size
  have hO : ∀ c ∈ blocks L O, c < wB.heap.size := fun c hc => (h.lt c hc).2
  have k1 := (h.next hb).boxF hx (by omega) hx.lt (fun hm => by have := hO _ hm; omega)
  have e1 : ∀ c ∈ blocks ((Q, [.slice a0 N0 c0, .slice a1 N1 c1, .int .i64 D]) :: L) O, c = Q ∨ c < wB.heap.size := fun c hc => by
    rcases List.mem_cons.1 hc with e | hc
    · exact .inl e
    · exact .inr (hO c hc)
  have k2 := k1.ownX (a := a0) (b := b0) (n := N0) (f := fun k => .int .i64 (M k)) h0 (by
    by_cases e : N0 = 0
    · exact .inl e
    · refine .inr ⟨by have := h2.resolve_left e; omega, fun hm => ?_⟩
      rcases e1 _ hm with e' | e'
      · exact h5.resolve_left e e'.symm
      · have := h2.resolve_left e; omega)
  refine ⟨a0, b0, c0, a1, b1, c1, k2.ownX (a := a1) (b := b1) (n := N1) (f := fun k => .int .i64 (T k)) h1 ?_⟩
  by_cases e : N1 = 0
  · exact .inl e
  · refine .inr ⟨by have := h3.resolve_left e; omega, fun hm => ?_⟩
    have hm' : b1 ∈ blocks ((Q, [.slice a0 N0 c0, .slice a1 N1 c1, .int .i64 D]) :: L) O ∨ (N0 ≠ 0 ∧ b1 = b0) := by
      unfold blocks at hm ⊢
      rcases List.mem_append.1 hm with hm | hm
      · exact .inl (List.mem_append.2 (.inl hm))
      · obtain ⟨y, hy, hy2⟩ := List.mem_map.1 hm
        obtain ⟨hy3, hy4⟩ := List.mem_filter.1 hy
        rcases List.mem_cons.1 hy3 with rfl | hy3
        · exact .inr ⟨by simpa using hy4, hy2.symm⟩
        · exact .inl (List.mem_append.2 (.inr (List.mem_map.2 ⟨y, List.mem_filter.2 ⟨hy3, hy4⟩, hy2⟩)))
    rcases hm' with hm' | ⟨n0, hm'⟩
    · rcases e1 _ hm' with e' | e'
      · exact h6.resolve_left e e'.symm
      · have := h3.resolve_left e; omega
    · rcases h4 with h4 | h4 | h4
      · exact n0 h4
      · exact e h4
      · exact h4 hm'.symm

/-- two lists in hand are apart -/
theorem St.neL {w0 : World} {L : List BoxT} {O : List OwnT} {w : World} (h : St w0 L O w) (i j : Nat) (hij : i ≠ j) {a a' : Option Addr} {b b' n n' : Nat} {f f' : Nat → Value} (hm : O[i]? = some (a, b, n, f)) (hm' : O[j]? = some (a', b', n', f')) : n = 0 ∨ n' = 0 ∨ b ≠ b' := by
  by_cases h0 : n = 0
  · exact .inl h0
  by_cases h1 : n' = 0
  · exact .inr (.inl h1)
  refine .inr (.inr fun e => ?_)
  have hn := h.nd
  unfold blocks at hn
  have hn2 := (List.nodup_append.1 hn).2.1
  rw [List.Nodup, List.pairwise_map, List.pairwise_filter] at hn2
  obtain ⟨hi, ei⟩ := List.getElem?_eq_some_iff.1 hm
  obtain ⟨hj, ej⟩ := List.getElem?_eq_some_iff.1 hm'
  rcases Nat.lt_or_gt_of_ne hij with hl | hl
  · have := List.pairwise_iff_getElem.1 hn2 i j hi hj hl
    rw [ei, ej] at this
    exact this (by simpa using h0) (by simpa using h1) e
  · have := List.pairwise_iff_getElem.1 hn2 j i hj hi hl
    rw [ei, ej] at this
    exact this (by simpa using h1) (by simpa using h0) e.symm

end Go.Proofs.Ytjdbiaoheoialaa

/- An archive copied in a region that draws: what each operation leaves. -/
import Derived.Test.YtcdpnofjahdieaaAgv
import Derived.Test.YtcdpnofjahdieaaAsz
namespace Go.Proofs.Ytcdpnofjahdieaa
open Go.RowKit

theorem eval_tmpA (a : Act) (k : Nat) : a.eval (.tmp k) = a.tmps[k]?.getD undef := by simp [Act.eval]
/-- until the store: lists lie apart, below the size of the world -/
def aR (J : List Nat) (S : Nat) (wB : World) (u : Nat → Value) (w : World) : Prop := u S = undef → Below wB.heap.size wB w ∧
  (∀ j ∈ J, ∀ b n c, u j = .slice (some ⟨b, 0, none⟩) n c → n ≠ 0 → b < w.heap.size) ∧
  (∀ i ∈ J, ∀ j ∈ J, i ≠ j → ∀ b n c b' n' c', u i = .slice (some ⟨b, 0, none⟩) n c → u j = .slice (some ⟨b', 0, none⟩) n' c' → n ≠ 0 → n' ≠ 0 → b ≠ b')
/-- what each operation leaves -/
def aF (S : Nat) (H : Nat → Value → World → Prop) (P : World → Prop) (j : Nat) (u : Nat → Value) (w : World) : Prop := (u S ≠ undef ∨ H j (u j) w) ∧ (j = S → P w)
section
variable {J : List Nat} {S : Nat} {wB w w' : World} {u : Nat → Value} {H : Nat → Value → World → Prop} {P : World → Prop}
theorem aR_up (h : aR J S wB u w) (hb : Below w.heap.size w w') (i : Nat) (hS : S ≠ i) (hi : i ∉ J) (v : Value) : aR J S wB (upU u i v) w' := by
  intro e
  rw [upU_other u v hS] at e
  obtain ⟨h1, h2, h3⟩ := h e
  have ne : ∀ j ∈ J, j ≠ i := fun j hj e => hi (e ▸ hj)
  refine ⟨h1.trans (hb.mono h1.size), fun j hj b n c hv hn => ?_, fun i' hi' j hj hij b n c b' n' c' hv hv' => ?_⟩
  · rw [upU_other u v (ne j hj)] at hv
    exact Nat.lt_of_lt_of_le (h2 j hj b n c hv hn) hb.size
  · rw [upU_other u v (ne i' hi')] at hv
    rw [upU_other u v (ne j hj)] at hv'
    exact h3 i' hi' j hj hij b n c b' n' c' hv hv'
/-- a list of its own is made -/
theorem aR_own (h : aR J S wB u w) (hb : Below w.heap.size w w') (i : Nat) (hS : S ≠ i) {a : Option Addr} {b n c m : Nat} {F : Nat → Value} (hm : 0 < m) (ho : OwV a b (n * m) F w') (h1 : n * m = 0 ∨ w.heap.size ≤ b) : aR J S wB (upU u i (.slice a n c)) w' := by
  intro e
  rw [upU_other u _ hS] at e
  obtain ⟨k1, k2, k3⟩ := h e
  have hv : ∀ b' n' c', Value.slice a n c = .slice (some ⟨b', 0, none⟩) n' c' → n' ≠ 0 → w.heap.size ≤ b' ∧ b' < w'.heap.size := fun b' n' c' e hn => by
    obtain ⟨rfl, rfl, rfl⟩ := Value.slice.inj e
    have h0 : n * m ≠ 0 := by
      have := Nat.mul_pos (Nat.pos_of_ne_zero hn) hm
      omega
    have hlt := OwV.lt ho h0
    rcases ho with h2 | ⟨h2, -⟩
    · exact absurd h2 h0
    · cases h2
      exact ⟨h1.resolve_left h0, hlt⟩
  refine ⟨k1.trans (hb.mono k1.size), fun j hj b' n' c' hv' hn => ?_, fun i' hi' j hj hij b1 n1 c1 b2 n2 c2 e1 e2 hn1 hn2 => ?_⟩
  · by_cases hji : j = i
    · subst hji
      rw [upU_same] at hv'
      exact (hv _ _ _ hv' hn).2
    · rw [upU_other u _ hji] at hv'
      exact Nat.lt_of_lt_of_le (k2 j hj _ _ _ hv' hn) hb.size
  · by_cases hi1 : i' = i
    · subst hi1
      rw [upU_same] at e1
      rw [upU_other u _ (Ne.symm hij)] at e2
      have g1 := (hv _ _ _ e1 hn1).1
      have g2 := k2 j hj _ _ _ e2 hn2
      omega
    · rw [upU_other u _ hi1] at e1
      by_cases hj1 : j = i
      · subst hj1
        rw [upU_same] at e2
        have g1 := (hv _ _ _ e2 hn2).1
        have g2 := k2 i' hi' _ _ _ e1 hn1
        omega
      · rw [upU_other u _ hj1] at e2
        exact k3 i' hi' j hj hij _ _ _ _ _ _ e1 e2 hn1 hn2
theorem aR_st {v : Value} (hv : v ≠ undef) : aR J S wB (upU u S v) w := fun e => absurd ((upU_same _ _ _).symm.trans e) hv
theorem aF_up (hH : ∀ j v, H j v w → H j v w') (i : Nat) (hS : S ≠ i) (v : Value) (j : Nat) (hj : j ≠ i) (hjS : j ≠ S) (h : aF S H P j u w) : aF S H P j (upU u i v) w' :=
  ⟨by rw [upU_other u v hj, upU_other u v hS]; exact h.1.imp id (hH j _), fun e => absurd e hjS⟩
theorem aF_val (j : Nat) {v : Value} (hS : j ≠ S) (h : H j v w) : aF S H P j (upU u j v) w := ⟨.inr (by rw [upU_same]; exact h), fun e => absurd e hS⟩
theorem aF_st {v : Value} (hv : v ≠ undef) (j : Nat) (hj : j ≠ S) : aF S H P j (upU u S v) w' := ⟨.inl (by rw [upU_same]; exact hv), fun e => absurd e hj⟩
theorem aF_done {v : Value} (hv : v ≠ undef) (hP : P w) : aF S H P S (upU u S v) w := ⟨.inl (by rw [upU_same]; exact hv), fun _ => hP⟩
end
/-- four lists of the call's own at once -/
theorem St.four {w0 w : World} (hb : Below w0.heap.size w0 w) {a1 a2 a3 a4 : Option Addr} {b1 b2 b3 b4 n1 n2 n3 n4 : Nat} {f1 f2 f3 f4 : Nat → Value} (h1 : OwV a1 b1 n1 f1 w) (h2 : OwV a2 b2 n2 f2 w) (h3 : OwV a3 b3 n3 f3 w) (h4 : OwV a4 b4 n4 f4 w)
    (k1 : n1 = 0 ∨ w0.heap.size ≤ b1) (k2 : n2 = 0 ∨ w0.heap.size ≤ b2) (k3 : n3 = 0 ∨ w0.heap.size ≤ b3) (k4 : n4 = 0 ∨ w0.heap.size ≤ b4)
    (d12 : n1 ≠ 0 → n2 ≠ 0 → b1 ≠ b2) (d13 : n1 ≠ 0 → n3 ≠ 0 → b1 ≠ b3) (d14 : n1 ≠ 0 → n4 ≠ 0 → b1 ≠ b4) (d23 : n2 ≠ 0 → n3 ≠ 0 → b2 ≠ b3) (d24 : n2 ≠ 0 → n4 ≠ 0 → b2 ≠ b4) (d34 : n3 ≠ 0 → n4 ≠ 0 → b3 ≠ b4) :
    St w0 [] [(a1, b1, n1, f1), (a2, b2, n2, f2), (a3, b3, n3, f3), (a4, b4, n4, f4)] w := by
  refine ⟨hb, fun _ h => (by cases h), fun x hx => ?_, fun b hb' => ?_, ?_⟩
  · simp only [List.mem_cons, List.not_mem_nil, or_false] at hx
    rcases hx with rfl | rfl | rfl | rfl <;> assumption
  · unfold blocks at hb'
    simp only [List.map_nil, List.nil_append, List.mem_map, List.mem_filter, List.mem_cons, List.not_mem_nil, or_false] at hb'
    obtain ⟨x, ⟨hx, h0⟩, rfl⟩ := hb'
    have h0' : x.2.2.1 ≠ 0 := by simpa using h0
    rcases hx with rfl | rfl | rfl | rfl
    · exact ⟨k1.resolve_left h0', h1.lt h0'⟩
    · exact ⟨k2.resolve_left h0', h2.lt h0'⟩
    · exact ⟨k3.resolve_left h0', h3.lt h0'⟩
    · exact ⟨k4.resolve_left h0', h4.lt h0'⟩
  · unfold blocks
    by_cases e1 : n1 = 0 <;> by_cases e2 : n2 = 0 <;> by_cases e3 : n3 = 0 <;> by_cases e4 : n4 = 0 <;> simp_all
/-- an archive is answered: four lists of the call's own -/
def ArR (nI : Nat) (I : Nat → SEntry) (nL : Nat) (L : Nat → SCopy) (nR : Nat) (R : Nat → SCopy) (nA : Nat) (A : Nat → SNote) (clock : Int) (w : World) (e : Ending) (w' : World) : Prop :=
  ∃ aI cI bI aL cL bL aR cR bR aA cA bA, e = .returned (vArch aI nI cI aL nL cL aR nR cR aA nA cA clock) ∧ St w [] [(aI, bI, nI * 5, FEntry I), (aL, bL, nL * 4, FCopy L), (aR, bR, nR * 4, FCopy R), (aA, bA, nA * 5, FNote A)] w'
/-- an archive lies there -/
structure RdA (bI nI : Nat) (I : Nat → SEntry) (bL nL : Nat) (L : Nat → SCopy) (bR nR : Nat) (R : Nat → SCopy) (bA nA : Nat) (A : Nat → SNote) (w : World) : Prop where
  i : ∀ j, j < nI * 5 → w.cell? ⟨bI, j, none⟩ = some (FEntry I j)
  l : ∀ j, j < nL * 4 → w.cell? ⟨bL, j, none⟩ = some (FCopy L j)
  r : ∀ j, j < nR * 4 → w.cell? ⟨bR, j, none⟩ = some (FCopy R j)
  a : ∀ j, j < nA * 5 → w.cell? ⟨bA, j, none⟩ = some (FNote A j)
theorem cell_upG {w w' : World} {x : Addr} {v : Value} (hb : Below w.heap.size w w') (h : w.cell? x = some v) : w'.cell? x = some v := (hb.cell (World.block_lt_of_cell? w x h)).trans h
theorem RdA.below {bI nI : Nat} {I : Nat → SEntry} {bL nL : Nat} {L : Nat → SCopy} {bR nR : Nat} {R : Nat → SCopy} {bA nA : Nat} {A : Nat → SNote} {w w' : World} (h : RdA bI nI I bL nL L bR nR R bA nA A w) (hb : Below w.heap.size w w') : RdA bI nI I bL nL L bR nR R bA nA A w' :=
  ⟨fun j hj => cell_upG hb (h.i j hj), fun j hj => cell_upG hb (h.l j hj), fun j hj => cell_upG hb (h.r j hj), fun j hj => cell_upG hb (h.a j hj)⟩
theorem RwA.rd {bI nI : Nat} {I : Nat → SEntry} {bL nL : Nat} {L : Nat → SCopy} {bR nR : Nat} {R : Nat → SCopy} {bA nA : Nat} {A : Nat → SNote} {w : World} (h : RwA bI nI I bL nL L bR nR R bA nA A w) : RdA bI nI I bL nL L bR nR R bA nA A w :=
  ⟨fun j hj => (h.i j hj).1, fun j hj => (h.l j hj).1, fun j hj => (h.r j hj).1, fun j hj => (h.a j hj).1⟩

theorem below_set5 {B : Nat} {w w1 : World} (h : Below B w w1) {b : Nat} (hb : B ≤ b) (u0 u1 u2 u3 u4 : Value) : Below B w (((((w1.setCell ⟨b, 0, none⟩ u0).setCell ⟨b, 1, none⟩ u1).setCell ⟨b, 2, none⟩ u2).setCell ⟨b, 3, none⟩ u3).setCell ⟨b, 4, none⟩ u4) :=
  ((((h.setCell (p := ⟨b, 0, none⟩) hb u0).setCell (p := ⟨b, 1, none⟩) hb u1).setCell (p := ⟨b, 2, none⟩) hb u2).setCell (p := ⟨b, 3, none⟩) hb u3).setCell (p := ⟨b, 4, none⟩) hb u4
/-- the box of the answer is filled: the lists stay -/
theorem St.filled5 {w W w1 : World} {O : List OwnT} (hb : Below w.heap.size w W) (hs : W.heap.size = w.heap.size + 2) (h : St W [] O w1) {q0 q1 q2 q3 q4 : Value} (hx : Bx (w.heap.size + 1) [q0, q1, q2, q3, q4] w1) (u0 u1 u2 u3 u4 : Value) :
    Bx (w.heap.size + 1) [u0, u1, u2, u3, u4] (((((w1.setCell ⟨w.heap.size + 1, 0, none⟩ u0).setCell ⟨w.heap.size + 1, 1, none⟩ u1).setCell ⟨w.heap.size + 1, 2, none⟩ u2).setCell ⟨w.heap.size + 1, 3, none⟩ u3).setCell ⟨w.heap.size + 1, 4, none⟩ u4) ∧
    St w [] O (((((w1.setCell ⟨w.heap.size + 1, 0, none⟩ u0).setCell ⟨w.heap.size + 1, 1, none⟩ u1).setCell ⟨w.heap.size + 1, 2, none⟩ u2).setCell ⟨w.heap.size + 1, 3, none⟩ u3).setCell ⟨w.heap.size + 1, 4, none⟩ u4) := by
  have hk : Kept (w.heap.size + 1) w1 (((((w1.setCell ⟨w.heap.size + 1, 0, none⟩ u0).setCell ⟨w.heap.size + 1, 1, none⟩ u1).setCell ⟨w.heap.size + 1, 2, none⟩ u2).setCell ⟨w.heap.size + 1, 3, none⟩ u3).setCell ⟨w.heap.size + 1, 4, none⟩ u4) :=
    (((((Kept.refl _ w1).setCell (a := ⟨w.heap.size + 1, 0, none⟩) rfl _).setCell (a := ⟨w.heap.size + 1, 1, none⟩) rfl _).setCell (a := ⟨w.heap.size + 1, 2, none⟩) rfl _).setCell (a := ⟨w.heap.size + 1, 3, none⟩) rfl _).setCell (a := ⟨w.heap.size + 1, 4, none⟩) rfl _
  refine ⟨((((hx.set 0 u0).set 1 u1).set 2 u2).set 3 u3).set 4 u4, below_set5 (hb.trans (h.below.mono hb.size)) (by omega) _ _ _ _ _, fun _ h => (by cases h), fun x hm => ?_, fun b hb' => ?_, h.nd⟩
  · exact OwV.keptO (h.ow x hm) hk (fun h0 => by have := (h.lt _ (mem_blocks_own hm h0)).1; omega)
  · have := h.lt b hb'
    exact ⟨by omega, by simpa using this.2⟩

end Go.Proofs.Ytcdpnofjahdieaa

/- A region that draws, in which values with lists of their own are made and one of them is put into a new box: images. -/
import Derived.Test.YtekoioggamhlaaaBxs
import Derived.Test.YtekoioggamhlaaaRgv
import Derived.Test.YtekoioggamhlaaaPic
namespace Go.Proofs.Ytekoioggamhlaaa
open Go.RowKit

/-- what is told of a value that holds blocks -/
abbrev OwnP := List Nat → Value → World → Prop
def Stab (p : OwnP) : Prop := ∀ (bs : List Nat) (v : Value) (w w' : World), Below w.heap.size w w' → p bs v w → p bs v w'
/-- such a value of the region's own, apart from the box -/
def gB (A : Nat) (wB : World) (p : OwnP) (u : Nat → Value) (v : Value) (w : World) : Prop :=
  ∃ bs : List Nat, (∀ b ∈ bs, wB.heap.size ≤ b ∧ b < w.heap.size) ∧ p bs v w ∧ ∀ M, u A = .pointer (some ⟨M, 0, none⟩) → M ∉ bs
def imgP (W H : Int) (n : Nat) (f : Nat → Int) : OwnP := fun bs v w => ∃ a c b, v = im W H a n c ∧ Ow a b n f w ∧ (n = 0 ∨ b ∈ bs)
theorem imgP_st (W H : Int) (n : Nat) (f : Nat → Int) : Stab (imgP W H n f) := fun _ _ _ _ hb ⟨a, c, b, e, h, h2⟩ => ⟨a, c, b, e, h.below' hb, h2⟩
/-- an image and a number -/
def unfP (W H : Int) (n : Nat) (f : Nat → Int) (C : Int) : OwnP := fun bs v w => ∃ a c b, v = .tuple #[im W H a n c, .int .i64 C] ∧ Ow a b n f w ∧ (n = 0 ∨ b ∈ bs)
theorem unfP_st (W H : Int) (n : Nat) (f : Nat → Int) (C : Int) : Stab (unfP W H n f C) := fun _ _ _ _ hb ⟨a, c, b, e, h, h2⟩ => ⟨a, c, b, e, h.below' hb, h2⟩
section
variable {A S : Nat} {wB : World} {p : OwnP} {u : Nat → Value} {x : Value} {w w' : World}
theorem gB.upd (h : gB A wB p u x w) (i : Nat) (hi : A ≠ i) (v : Value) : gB A wB p (upU u i v) x w := by
  obtain ⟨bs, h1, h2, h3⟩ := h
  exact ⟨bs, h1, h2, fun M hM => h3 M (by rwa [upU_other u v hi] at hM)⟩
theorem gB.below (hst : Stab p) (h : gB A wB p u x w) (hb : Below w.heap.size w w') : gB A wB p u x w' := by
  obtain ⟨bs, h1, h2, h3⟩ := h
  exact ⟨bs, fun b hm => ⟨(h1 b hm).1, Nat.lt_of_lt_of_le (h1 b hm).2 hb.size⟩, hst _ _ _ _ hb h2, h3⟩
theorem gB.new {z : Value} {zs : List Value} (hR : bR A S z zs wB u w) (h7 : u S = undef) (bs : List Nat) (hbs : ∀ b ∈ bs, w.heap.size ≤ b ∧ b < w'.heap.size) (hp : p bs x w') : gB A wB p u x w' := by
  have hs := hR.1.size
  refine ⟨bs, fun b hm => ⟨by have := hbs b hm; omega, (hbs b hm).2⟩, hp, fun M hM hmem => ?_⟩
  have hlt : M < w.heap.size := by
    by_cases hMB : wB.heap.size ≤ M
    · rcases hR.2 M hM hMB with h | h
      · exact absurd h7 h
      · exact h.lt
    · omega
  have := hbs M hmem
  omega
end
def blk (n b : Nat) : List Nat := if n = 0 then [] else [b]
theorem blk_mem {n b x : Nat} (h : x ∈ blk n b) : n ≠ 0 ∧ x = b := by
  unfold blk at h
  by_cases h0 : n = 0
  · rw [if_pos h0] at h; cases h
  · rw [if_neg h0] at h; exact ⟨h0, List.mem_singleton.1 h⟩
theorem blk_in {n b : Nat} : n = 0 ∨ b ∈ blk n b := by
  by_cases h0 : n = 0
  · exact .inl h0
  · refine .inr ?_
    unfold blk
    rw [if_neg h0]
    exact List.mem_singleton.2 rfl
theorem gB.newI {A S : Nat} {z : Value} {zs : List Value} {wB : World} {u : Nat → Value} {w w' : World} (hR : bR A S z zs wB u w) (h7 : u S = undef) (W H : Int) {n : Nat} {f : Nat → Int} {a : Option Addr} {b : Nat} (c : Nat) (ho : Ow a b n f w') (h1 : n = 0 ∨ w.heap.size ≤ b) : gB A wB (imgP W H n f) u (im W H a n c) w' :=
  gB.new hR h7 (blk n b) (fun x hm => by
    obtain ⟨h0, rfl⟩ := blk_mem hm
    exact ⟨h1.resolve_left h0, OwV.lt ho.v h0⟩) ⟨a, c, b, rfl, ho, blk_in⟩
theorem gB.newU {A S : Nat} {z : Value} {zs : List Value} {wB : World} {u : Nat → Value} {w w' : World} (hR : bR A S z zs wB u w) (h7 : u S = undef) (W H C : Int) {n : Nat} {f : Nat → Int} {a : Option Addr} {b : Nat} (c : Nat) (ho : Ow a b n f w') (h1 : n = 0 ∨ w.heap.size ≤ b) : gB A wB (unfP W H n f C) u (.tuple #[im W H a n c, .int .i64 C]) w' :=
  gB.new hR h7 (blk n b) (fun x hm => by
    obtain ⟨h0, rfl⟩ := blk_mem hm
    exact ⟨h1.resolve_left h0, OwV.lt ho.v h0⟩) ⟨a, c, b, rfl, ho, blk_in⟩
/-- the value is handed on -/
theorem gB.map {A : Nat} {wB : World} {p q : OwnP} {u : Nat → Value} {v v' : Value} {w : World} (h : gB A wB p u v w) (hm : ∀ bs, p bs v w → q bs v' w) : gB A wB q u v' w := by
  obtain ⟨bs, h1, h2, h3⟩ := h
  exact ⟨bs, h1, hm bs h2, h3⟩
/-- an image in its box -/
def ImB (W H : Int) (n : Nat) (f : Nat → Int) (M : Nat) (w : World) : Prop := ∃ a c, Bx M [.int .i64 W, .int .i64 H, .slice a n c] w ∧ Px a n f w
theorem ImB.below {W H : Int} {n : Nat} {f : Nat → Int} {M : Nat} {w w' : World} (h : ImB W H n f M w) (hb : Below w.heap.size w w') : ImB W H n f M w' := by
  obtain ⟨a, c, h1, h2⟩ := h
  exact ⟨a, c, h1.below hb h1.lt, h2.below hb⟩
theorem ImB.stored {A : Nat} {W H : Int} {n : Nat} {f : Nat → Int} {u : Nat → Value} {w : World} {a : Option Addr} {b c Q : Nat} {bs : List Nat} (h0 : Ow a b n f w) (hb : n = 0 ∨ b ∈ bs) (h5 : ∀ M, u A = .pointer (some ⟨M, 0, none⟩) → M ∉ bs) (hA : u A = .pointer (some ⟨Q, 0, none⟩)) {x y z : Value} (hx : Bx Q [x, y, z] w) :
    ImB W H n f Q (((w.setCell ⟨Q, 0, none⟩ (.int .i64 W)).setCell ⟨Q, 1, none⟩ (.int .i64 H)).setCell ⟨Q, 2, none⟩ (.slice a n c)) := by
  refine ⟨a, c, ((hx.set 0 _).set 1 _).set 2 _, ?_⟩
  have hk : Kept Q w (((w.setCell ⟨Q, 0, none⟩ (.int .i64 W)).setCell ⟨Q, 1, none⟩ (.int .i64 H)).setCell ⟨Q, 2, none⟩ (.slice a n c)) := (((Kept.refl Q w).setCell (a := ⟨Q, 0, none⟩) rfl _).setCell (a := ⟨Q, 1, none⟩) rfl _).setCell (a := ⟨Q, 2, none⟩) rfl _
  have hq : n = 0 ∨ b ≠ Q := hb.imp id fun hm e => h5 Q hA (by rw [← e]; exact hm)
  exact Ow.px (OwV.keptO (x := (a, b, n, fun k => .int .i64 (f k))) h0.v hk (fun h => hq.resolve_left h))
theorem below_set3g {B : Nat} {w w1 : World} (h : Below B w w1) {b : Nat} (hb : B ≤ b) (u v x : Value) : Below B w (((w1.setCell ⟨b, 0, none⟩ u).setCell ⟨b, 1, none⟩ v).setCell ⟨b, 2, none⟩ x) :=
  ((h.setCell (p := ⟨b, 0, none⟩) hb u).setCell (p := ⟨b, 1, none⟩) hb v).setCell (p := ⟨b, 2, none⟩) hb x

/-- what each operation leaves -/
def kF (A S : Nat) (wB : World) (G : Nat → Value → Prop) (pv : Nat → Option OwnP) (P : Nat → World → Prop) (j : Nat) (u : Nat → Value) (w : World) : Prop :=
  G j (u j) ∧ (∀ p, pv j = some p → u S ≠ undef ∨ gB A wB p u (u j) w) ∧ (j = A → ∃ M, u A = .pointer (some ⟨M, 0, none⟩) ∧ wB.heap.size ≤ M) ∧ (j = S → ∃ M, u A = .pointer (some ⟨M, 0, none⟩) ∧ wB.heap.size ≤ M ∧ P M w)
section
variable {A S : Nat} {wB : World} {G : Nat → Value → Prop} {pv : Nat → Option OwnP} {P : Nat → World → Prop} {u : Nat → Value} {w w' : World}
theorem kF_up (hst : ∀ j p, pv j = some p → Stab p) (hP : ∀ M, P M w → P M w') (hb : Below w.heap.size w w') (i : Nat) (hA : A ≠ i) (hS : S ≠ i) (v : Value) (j : Nat) (hj : j ≠ i) (h : kF A S wB G pv P j u w) : kF A S wB G pv P j (upU u i v) w' := by
  obtain ⟨h1, h2, h3, h4⟩ := h
  refine ⟨by rw [upU_other u v hj]; exact h1, fun f hf => ?_, fun e => ?_, fun e => ?_⟩
  · rw [upU_other u v hj, upU_other u v hS]
    exact (h2 f hf).imp id fun h => (h.below (hst j f hf) hb).upd i hA v
  · rw [upU_other u v hA]; exact h3 e
  · obtain ⟨M, a1, a2, a3⟩ := h4 e
    exact ⟨M, by rw [upU_other u v hA]; exact a1, a2, hP M a3⟩
theorem kF_al (hst : ∀ j p, pv j = some p → Stab p) (hAS : S ≠ A) (o : Obj) (j : Nat) (hj : j ≠ A) (hjS : j ≠ S) (h : kF A S wB G pv P j u w) : kF A S wB G pv P j (upU u A (.pointer (some ⟨w.heap.size, 0, none⟩))) (w.alloc o) := by
  have hb := bnew w o
  obtain ⟨h1, h2, h3, h4⟩ := h
  refine ⟨by rw [upU_other _ _ hj]; exact h1, fun f hf => ?_, fun e => absurd e hj, fun e => absurd e hjS⟩
  rw [upU_other _ _ hj, upU_other _ _ hAS]
  refine (h2 f hf).imp id fun h => ?_
  obtain ⟨bs, k1, k2, k3⟩ := h
  refine ⟨bs, fun b hm => ⟨(k1 b hm).1, Nat.lt_of_lt_of_le (k1 b hm).2 hb.size⟩, hst j f hf _ _ _ _ hb k2, fun M hM hmem => ?_⟩
  rw [upU_same] at hM
  cases hM
  have := (k1 _ hmem).2
  omega
theorem kF_ptr (hAS : A ≠ S) (hG : ∀ v, G A v) (hf : pv A = none) {M : Nat} (hM : wB.heap.size ≤ M) : kF A S wB G pv P A (upU u A (.pointer (some ⟨M, 0, none⟩))) w :=
  ⟨hG _, fun f h => (by rw [hf] at h; cases h), fun _ => ⟨M, upU_same _ _ _, hM⟩, fun e => absurd e hAS⟩
theorem kF_st {v : Value} (hAS : A ≠ S) (hv : v ≠ undef) (j : Nat) (hj : j ≠ S) (h : kF A S wB G pv P j u w) : kF A S wB G pv P j (upU u S v) w' := by
  obtain ⟨h1, h2, h3, h4⟩ := h
  exact ⟨by rw [upU_other _ _ hj]; exact h1, fun f hf => .inl (by rw [upU_same]; exact hv), fun e => by rw [upU_other _ _ hAS]; exact h3 e, fun e => absurd e hj⟩
theorem kF_done {v : Value} (hAS : A ≠ S) (hG : ∀ v, G S v) (hf : pv S = none) {M : Nat} (h : u A = .pointer (some ⟨M, 0, none⟩)) (hM : wB.heap.size ≤ M) (hP : P M w) : kF A S wB G pv P S (upU u S v) w :=
  ⟨hG _, fun f h => (by rw [hf] at h; cases h), fun e => absurd e.symm hAS, fun _ => ⟨M, (upU_other _ _ hAS).trans h, hM, hP⟩⟩
theorem kF_val (j : Nat) (hA : j ≠ A) (hS : j ≠ S) (hf : pv j = none) {v : Value} (h : G j v) : kF A S wB G pv P j (upU u j v) w :=
  ⟨by rw [upU_same]; exact h, fun f h => (by rw [hf] at h; cases h), fun e => absurd e hA, fun e => absurd e hS⟩
theorem kF_own (j : Nat) (hA : j ≠ A) (hS : j ≠ S) {p : OwnP} (hf : pv j = some p) {v : Value} (hG : G j v) (h : gB A wB p u v w) : kF A S wB G pv P j (upU u j v) w :=
  ⟨by rw [upU_same]; exact hG, fun f' h' => (by rw [hf] at h'; cases h'; rw [upU_same]; exact .inr (h.upd j (Ne.symm hA) v)), fun e => absurd e hA, fun e => absurd e hS⟩
end

end Go.Proofs.Ytekoioggamhlaaa

/- A region that draws, in which values with lists of their own are made and one of them is put into a new box: values of any form. -/
import Derived.Test.YtpbeogepgjbacaaBxs
import Derived.Test.YtpbeogepgjbacaaRgv
import Derived.Test.YtpbeogepgjbacaaRVol
import Derived.Test.YtpbeogepgjbacaaRFrm
import Derived.Test.YtpbeogepgjbacaaOw2
namespace Go.Proofs.Ytpbeogepgjbacaa
open Go.RowKit

/-- what is told of a value that holds blocks -/
abbrev OwnP := List Nat → Value → World → Prop
def Stab (p : OwnP) : Prop := ∀ (bs : List Nat) (v : Value) (w w' : World), Below w.heap.size w w' → p bs v w → p bs v w'
/-- such a value of the region's own, apart from the box -/
def gB (A : Nat) (wB : World) (p : OwnP) (u : Nat → Value) (v : Value) (w : World) : Prop :=
  ∃ bs : List Nat, (∀ b ∈ bs, wB.heap.size ≤ b ∧ b < w.heap.size) ∧ p bs v w ∧ ∀ M, u A = .pointer (some ⟨M, 0, none⟩) → M ∉ bs
def volP (X Y Z : Int) (n : Nat) (f : Nat → Int) : OwnP := fun bs v w => ∃ a c b, v = vVolume X Y Z a n c ∧ Ow a b n f w ∧ (n = 0 ∨ b ∈ bs)
def frmP (D : Int) (n : Nat) (f : Nat → Int) (m : Nat) (g : Nat → Int) : OwnP := fun bs v w => ∃ a c b a' c' b', v = vFrame D a n c a' m c' ∧ Ow a b n f w ∧ Ow a' b' m g w ∧ (n = 0 ∨ b ∈ bs) ∧ (m = 0 ∨ b' ∈ bs)
theorem volP_st (X Y Z : Int) (n : Nat) (f : Nat → Int) : Stab (volP X Y Z n f) := fun _ _ _ _ hb ⟨a, c, b, e, h, h2⟩ => ⟨a, c, b, e, h.below' hb, h2⟩
theorem frmP_st (D : Int) (n : Nat) (f : Nat → Int) (m : Nat) (g : Nat → Int) : Stab (frmP D n f m g) := fun _ _ _ _ hb ⟨a, c, b, a', c', b', e, h, h', h2⟩ => ⟨a, c, b, a', c', b', e, h.below' hb, h'.below' hb, h2⟩
section
variable {A S : Nat} {wB : World} {p : OwnP} {u : Nat → Value} {x : Value} {w w' : World}
theorem gB.upd (h : gB A wB p u x w) (i : Nat) (hi : A ≠ i) (v : Value) : gB A wB p (upU u i v) x w := by
  obtain ⟨bs, h1, h2, h3⟩ := h
  exact ⟨bs, h1, h2, fun M hM => h3 M (by rwa [upU_other u v hi] at hM)⟩
theorem gB.below (hst : Stab p) (h : gB A wB p u x w) (hb : Below w.heap.size w w') : gB A wB p u x w' := by
  obtain ⟨bs, h1, h2, h3⟩ := h
  exact ⟨bs, fun b hm => ⟨(h1 b hm).1, Nat.lt_of_lt_of_le (h1 b hm).2 hb.size⟩, hst _ _ _ _ hb h2, h3⟩
theorem gB.new {z : Value} {zs : List Value} (hR : bR A S z zs wB u w) (h7 : u S = undef) (bs : List Nat) (hbs : ∀ b ∈ bs, w.heap.size ≤ b ∧ b < w'.heap.size) (hp : p bs x w') : gB A wB p u x w' := by
  have hs := hR.1.size
  refine ⟨bs, fun b hm => ⟨by have := hbs b hm; omega, (hbs b hm).2⟩, hp, fun M hM hmem => ?_⟩
  have hlt : M < w.heap.size := by
    by_cases hMB : wB.heap.size ≤ M
    · rcases hR.2 M hM hMB with h | h
      · exact absurd h7 h
      · exact h.lt
    · omega
  have := hbs M hmem
  omega
end
theorem gB.newV {A S : Nat} {z : Value} {zs : List Value} {wB : World} {u : Nat → Value} {w w' : World} (hR : bR A S z zs wB u w) (h7 : u S = undef) (X Y Z : Int) {n : Nat} {f : Nat → Int} {a : Option Addr} {b : Nat} (c : Nat) (ho : Ow a b n f w') (h1 : n = 0 ∨ w.heap.size ≤ b) : gB A wB (volP X Y Z n f) u (vVolume X Y Z a n c) w' := by
  by_cases h0 : n = 0
  · exact gB.new hR h7 [] (fun b hm => by cases hm) ⟨a, c, b, rfl, ho, .inl h0⟩
  · exact gB.new hR h7 [b] (fun b' hm => by obtain rfl := List.mem_singleton.1 hm; exact ⟨h1.resolve_left h0, OwV.lt ho.v h0⟩) ⟨a, c, b, rfl, ho, .inr (List.mem_singleton.2 rfl)⟩
def blk (n b : Nat) : List Nat := if n = 0 then [] else [b]
theorem blk_mem {n b x : Nat} (h : x ∈ blk n b) : n ≠ 0 ∧ x = b := by
  unfold blk at h
  by_cases h0 : n = 0
  · rw [if_pos h0] at h; cases h
  · rw [if_neg h0] at h; exact ⟨h0, List.mem_singleton.1 h⟩
theorem blk_in {n b : Nat} : n = 0 ∨ b ∈ blk n b := by
  by_cases h0 : n = 0
  · exact .inl h0
  · refine .inr ?_
    unfold blk
    rw [if_neg h0]
    exact List.mem_singleton.2 rfl
theorem gB.newF {A S : Nat} {z : Value} {zs : List Value} {wB : World} {u : Nat → Value} {w w' : World} (hR : bR A S z zs wB u w) (h7 : u S = undef) (D : Int) {n : Nat} {f : Nat → Int} {a : Option Addr} {b : Nat} (c : Nat) {m : Nat} {g : Nat → Int} {a' : Option Addr} {b' : Nat} (c' : Nat) (ho : Ow a b n f w') (h1 : n = 0 ∨ w.heap.size ≤ b) (ho' : Ow a' b' m g w') (h1' : m = 0 ∨ w.heap.size ≤ b') : gB A wB (frmP D n f m g) u (vFrame D a n c a' m c') w' := by
  refine gB.new hR h7 (blk n b ++ blk m b') (fun x hm => ?_) ⟨a, c, b, a', c', b', rfl, ho, ho', blk_in.imp id (fun h => List.mem_append_left _ h), blk_in.imp id (fun h => List.mem_append_right _ h)⟩
  rcases List.mem_append.1 hm with h | h
  · obtain ⟨h0, rfl⟩ := blk_mem h
    exact ⟨h1.resolve_left h0, OwV.lt ho.v h0⟩
  · obtain ⟨h0, rfl⟩ := blk_mem h
    exact ⟨h1'.resolve_left h0, OwV.lt ho'.v h0⟩
/-- what each operation leaves -/
def kF (A S : Nat) (wB : World) (G : Nat → Value → Prop) (pv : Nat → Option OwnP) (P : Nat → World → Prop) (j : Nat) (u : Nat → Value) (w : World) : Prop :=
  G j (u j) ∧ (∀ p, pv j = some p → u S ≠ undef ∨ gB A wB p u (u j) w) ∧ (j = A → ∃ M, u A = .pointer (some ⟨M, 0, none⟩) ∧ wB.heap.size ≤ M) ∧ (j = S → ∃ M, u A = .pointer (some ⟨M, 0, none⟩) ∧ wB.heap.size ≤ M ∧ P M w)
section
variable {A S : Nat} {wB : World} {G : Nat → Value → Prop} {pv : Nat → Option OwnP} {P : Nat → World → Prop} {u : Nat → Value} {w w' : World}
theorem kF_up (hst : ∀ j p, pv j = some p → Stab p) (hP : ∀ M, P M w → P M w') (hb : Below w.heap.size w w') (i : Nat) (hA : A ≠ i) (hS : S ≠ i) (v : Value) (j : Nat) (hj : j ≠ i) (h : kF A S wB G pv P j u w) : kF A S wB G pv P j (upU u i v) w' := by
  obtain ⟨h1, h2, h3, h4⟩ := h
  refine ⟨by rw [upU_other u v hj]; exact h1, fun f hf => ?_, fun e => ?_, fun e => ?_⟩
  · rw [upU_other u v hj, upU_other u v hS]
    exact (h2 f hf).imp id fun h => (h.below (hst j f hf) hb).upd i hA v
  · rw [upU_other u v hA]; exact h3 e
  · obtain ⟨M, a1, a2, a3⟩ := h4 e
    exact ⟨M, by rw [upU_other u v hA]; exact a1, a2, hP M a3⟩
theorem kF_al (hst : ∀ j p, pv j = some p → Stab p) (hAS : S ≠ A) (o : Obj) (j : Nat) (hj : j ≠ A) (hjS : j ≠ S) (h : kF A S wB G pv P j u w) : kF A S wB G pv P j (upU u A (.pointer (some ⟨w.heap.size, 0, none⟩))) (w.alloc o) := by
  have hb := bnew w o
  obtain ⟨h1, h2, h3, h4⟩ := h
  refine ⟨by rw [upU_other _ _ hj]; exact h1, fun f hf => ?_, fun e => absurd e hj, fun e => absurd e hjS⟩
  rw [upU_other _ _ hj, upU_other _ _ hAS]
  refine (h2 f hf).imp id fun h => ?_
  obtain ⟨bs, k1, k2, k3⟩ := h
  refine ⟨bs, fun b hm => ⟨(k1 b hm).1, Nat.lt_of_lt_of_le (k1 b hm).2 hb.size⟩, hst j f hf _ _ _ _ hb k2, fun M hM hmem => ?_⟩
  rw [upU_same] at hM
  cases hM
  have := (k1 _ hmem).2
  omega
theorem kF_ptr (hAS : A ≠ S) (hG : ∀ v, G A v) (hf : pv A = none) {M : Nat} (hM : wB.heap.size ≤ M) : kF A S wB G pv P A (upU u A (.pointer (some ⟨M, 0, none⟩))) w :=
  ⟨hG _, fun f h => (by rw [hf] at h; cases h), fun _ => ⟨M, upU_same _ _ _, hM⟩, fun e => absurd e hAS⟩
theorem kF_st {v : Value} (hAS : A ≠ S) (hv : v ≠ undef) (j : Nat) (hj : j ≠ S) (h : kF A S wB G pv P j u w) : kF A S wB G pv P j (upU u S v) w' := by
  obtain ⟨h1, h2, h3, h4⟩ := h
  exact ⟨by rw [upU_other _ _ hj]; exact h1, fun f hf => .inl (by rw [upU_same]; exact hv), fun e => by rw [upU_other _ _ hAS]; exact h3 e, fun e => absurd e hj⟩
theorem kF_done {v : Value} (hAS : A ≠ S) (hG : ∀ v, G S v) (hf : pv S = none) {M : Nat} (h : u A = .pointer (some ⟨M, 0, none⟩)) (hM : wB.heap.size ≤ M) (hP : P M w) : kF A S wB G pv P S (upU u S v) w :=
  ⟨hG _, fun f h => (by rw [hf] at h; cases h), fun e => absurd e.symm hAS, fun _ => ⟨M, (upU_other _ _ hAS).trans h, hM, hP⟩⟩
theorem kF_val (j : Nat) (hA : j ≠ A) (hS : j ≠ S) (hf : pv j = none) {v : Value} (h : G j v) : kF A S wB G pv P j (upU u j v) w :=
  ⟨by rw [upU_same]; exact h, fun f h => (by rw [hf] at h; cases h), fun e => absurd e hA, fun e => absurd e hS⟩
theorem kF_own (j : Nat) (hA : j ≠ A) (hS : j ≠ S) {p : OwnP} (hf : pv j = some p) {v : Value} (hG : G j v) (h : gB A wB p u v w) : kF A S wB G pv P j (upU u j v) w :=
  ⟨by rw [upU_same]; exact hG, fun f' h' => (by rw [hf] at h'; cases h'; rw [upU_same]; exact .inr (h.upd j (Ne.symm hA) v)), fun e => absurd e hA, fun e => absurd e hS⟩
end
/-- a volume in its box, its list apart from it -/
def VoP (wB : World) (X Y Z : Int) (N : Nat) (s : Nat → Int) (Q : Nat) (w : World) : Prop :=
  ∃ a b c, Bx Q [.int .i64 X, .int .i64 Y, .int .i64 Z, .slice a N c] w ∧ Ow a b N s w ∧ (N = 0 ∨ wB.heap.size ≤ b) ∧ (N = 0 ∨ Q ≠ b)
theorem VoP.below {wB : World} {X Y Z : Int} {N : Nat} {s : Nat → Int} {Q : Nat} {w w' : World} (h : VoP wB X Y Z N s Q w) (hb : Below w.heap.size w w') : VoP wB X Y Z N s Q w' := by
  obtain ⟨a, b, c, hx, h0, hr⟩ := h
  exact ⟨a, b, c, hx.below hb hx.lt, h0.below' hb, hr⟩
theorem Ow.set4g {a : Option Addr} {b n : Nat} {f : Nat → Int} {w : World} (h : Ow a b n f w) {Q : Nat} (hq : n = 0 ∨ Q ≠ b) (x y z v : Value) : Ow a b n f ((((w.setCell ⟨Q, 0, none⟩ x).setCell ⟨Q, 1, none⟩ y).setCell ⟨Q, 2, none⟩ z).setCell ⟨Q, 3, none⟩ v) := by
  by_cases h0 : n = 0
  · exact .inl h0
  · have hq' := hq.resolve_left h0
    have hk : Kept Q w ((((w.setCell ⟨Q, 0, none⟩ x).setCell ⟨Q, 1, none⟩ y).setCell ⟨Q, 2, none⟩ z).setCell ⟨Q, 3, none⟩ v) := ((((Kept.refl Q w).setCell (a := ⟨Q, 0, none⟩) rfl x).setCell (a := ⟨Q, 1, none⟩) rfl y).setCell (a := ⟨Q, 2, none⟩) rfl z).setCell (a := ⟨Q, 3, none⟩) rfl v
    exact h.kept hk (Ne.symm hq')
theorem below_set4g {B : Nat} {w w1 : World} (h : Below B w w1) {b : Nat} (hb : B ≤ b) (u v x y : Value) : Below B w ((((w1.setCell ⟨b, 0, none⟩ u).setCell ⟨b, 1, none⟩ v).setCell ⟨b, 2, none⟩ x).setCell ⟨b, 3, none⟩ y) :=
  (((h.setCell (p := ⟨b, 0, none⟩) hb u).setCell (p := ⟨b, 1, none⟩) hb v).setCell (p := ⟨b, 2, none⟩) hb x).setCell (p := ⟨b, 3, none⟩) hb y
/-- it is stored -/
theorem VoP.stored {A : Nat} {wB : World} {X Y Z : Int} {N : Nat} {s : Nat → Int} {u : Nat → Value} {w : World} {a : Option Addr} {b c Q : Nat} {bs : List Nat} (h0 : Ow a b N s w) (hb : N = 0 ∨ b ∈ bs) (hbs : ∀ b ∈ bs, wB.heap.size ≤ b ∧ b < w.heap.size) (h5 : ∀ M, u A = .pointer (some ⟨M, 0, none⟩) → M ∉ bs) (hA : u A = .pointer (some ⟨Q, 0, none⟩)) {x y z v : Value} (hx : Bx Q [x, y, z, v] w) :
    VoP wB X Y Z N s Q ((((w.setCell ⟨Q, 0, none⟩ (.int .i64 X)).setCell ⟨Q, 1, none⟩ (.int .i64 Y)).setCell ⟨Q, 2, none⟩ (.int .i64 Z)).setCell ⟨Q, 3, none⟩ (.slice a N c)) := by
  have hq : N = 0 ∨ Q ≠ b := hb.imp id fun hm e => h5 Q hA (by rw [e]; exact hm)
  exact ⟨a, b, c, (((hx.set 0 _).set 1 _).set 2 _).set 3 _, h0.set4g hq _ _ _ _, hb.imp id fun hm => (hbs b hm).1, hq⟩
theorem St.boxG {w0 : World} {L : List BoxT} {O : List OwnT} {w : World} (h : St w0 L O w) {c : Nat} {vs : List Value} (hx : Bx c vs w) (h0 : w0.heap.size ≤ c) (hc : c < w.heap.size) (hn : c ∉ blocks L O) : St w0 ((c, vs) :: L) O w := by
  refine ⟨h.below, ?_, h.ow, ?_, ?_⟩
  · intro x hx'
    rcases List.mem_cons.1 hx' with rfl | hx'
    · exact hx
    · exact h.bx x hx'
  · intro b hb
    rcases List.mem_cons.1 hb with rfl | hb
    · exact ⟨h0, hc⟩
    · exact h.lt b hb
  · exact List.nodup_cons.2 ⟨hn, h.nd⟩
/-- the box and the list are taken in hand -/
theorem VoP.st {w0 : World} {L : List BoxT} {O : List OwnT} {wB w : World} (h : St w0 L O wB) (hb : Below wB.heap.size wB w) {X Y Z : Int} {N : Nat} {s : Nat → Int} {Q : Nat} (hp : VoP wB X Y Z N s Q w) (hQ : wB.heap.size ≤ Q) :
    ∃ a b c, St w0 ((Q, [.int .i64 X, .int .i64 Y, .int .i64 Z, .slice a N c]) :: L) ((a, b, N, fun k => .int .i64 (s k)) :: O) w := by
  obtain ⟨a, b, c, hx, h0, h2, h5⟩ := hp
  have hs := h.below.size
  have hO : ∀ c ∈ blocks L O, c < wB.heap.size := fun c hc => (h.lt c hc).2
  have k1 := (h.next hb).boxG hx (by omega) hx.lt (fun hm => by have := hO _ hm; omega)
  refine ⟨a, b, c, k1.ownX (a := a) (b := b) (n := N) (f := fun k => .int .i64 (s k)) h0 ?_⟩
  by_cases e : N = 0
  · exact .inl e
  · refine .inr ⟨by have := h2.resolve_left e; omega, fun hm => ?_⟩
    rcases List.mem_cons.1 hm with e' | hm
    · exact h5.resolve_left e e'.symm
    · have := hO _ hm; have := h2.resolve_left e; omega

/-- two lists in hand are apart -/
theorem St.neL {w0 : World} {L : List BoxT} {O : List OwnT} {w : World} (h : St w0 L O w) (i j : Nat) (hij : i ≠ j) {a a' : Option Addr} {b b' n n' : Nat} {f f' : Nat → Value} (hm : O[i]? = some (a, b, n, f)) (hm' : O[j]? = some (a', b', n', f')) : n = 0 ∨ n' = 0 ∨ b ≠ b' := by
  by_cases h0 : n = 0
  · exact .inl h0
  by_cases h1 : n' = 0
  · exact .inr (.inl h1)
  refine .inr (.inr fun e => ?_)
  have hn := h.nd
  unfold blocks at hn
  have hn2 := (List.nodup_append.1 hn).2.1
  rw [List.Nodup, List.pairwise_map, List.pairwise_filter] at hn2
  obtain ⟨hi, ei⟩ := List.getElem?_eq_some_iff.1 hm
  obtain ⟨hj, ej⟩ := List.getElem?_eq_some_iff.1 hm'
  rcases Nat.lt_or_gt_of_ne hij with hl | hl
  · have := List.pairwise_iff_getElem.1 hn2 i j hi hj hl
    rw [ei, ej] at this
    exact this (by simpa using h0) (by simpa using h1) e
  · have := List.pairwise_iff_getElem.1 hn2 j i hj hi hl
    rw [ei, ej] at this
    exact this (by simpa using h1) (by simpa using h0) e.symm

end Go.Proofs.Ytpbeogepgjbacaa

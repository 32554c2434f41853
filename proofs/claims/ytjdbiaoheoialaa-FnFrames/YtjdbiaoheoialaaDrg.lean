/- A region of a draw that draws its order, in which a box is made and filled: the cursor turns, what was there stays. -/
import Derived.Test.YtjdbiaoheoialaaRgv
import Derived.Test.YtjdbiaoheoialaaDpg
namespace Go.Proofs.Ytjdbiaoheoialaa
open Go.RowKit

/-- what stays: the box that operation A made holds zs until operation S has run -/
def cR (p : Nat) (a : Option Addr) (len cap : Nat) (A S : Nat) (zs : List Value) (wB : World) (u : Nat → Value) (w : World) : Prop :=
  Cur p a len cap w ∧ Kept p wB w ∧ ∀ M, u A = .pointer (some ⟨M, 0, none⟩) → wB.heap.size ≤ M → u S ≠ undef ∨ (Bx M zs w ∧ M < w.heap.size)
/-- what each operation leaves -/
def cG (A S : Nat) (wB : World) (G : Nat → Value → Prop) (P : Nat → World → Prop) (j : Nat) (u : Nat → Value) (w : World) : Prop :=
  G j (u j) ∧ (j = A → ∃ M, u A = .pointer (some ⟨M, 0, none⟩) ∧ wB.heap.size ≤ M) ∧ (j = S → ∃ M, u A = .pointer (some ⟨M, 0, none⟩) ∧ wB.heap.size ≤ M ∧ M < w.heap.size ∧ P M w)
theorem not_ptr {x : Value} {b : Nat} (h : x = undef) (hM : x = .pointer (some ⟨b, 0, none⟩)) : False := by
  rw [h] at hM
  simp [undef] at hM
section
variable {p : Nat} {a : Option Addr} {len cap A S : Nat} {zs : List Value} {wB w w' : World} {G : Nat → Value → Prop} {P : Nat → World → Prop} {u : Nat → Value}
theorem cR_up (hp : p < wB.heap.size) (h : cR p a len cap A S zs wB u w) (hc : Cur p a len cap w') (hk : Kept p w w') (i : Nat) (hA : A ≠ i) (hS : S ≠ i) (v : Value) : cR p a len cap A S zs wB (upU u i v) w' := by
  refine ⟨hc, h.2.1.trans hk, fun M hM hMB => ?_⟩
  rw [upU_other u v hA] at hM
  rw [upU_other u v hS]
  exact (h.2.2 M hM hMB).imp id fun h1 => ⟨h1.1.kept hk (by omega), Nat.lt_of_lt_of_le h1.2 hk.size⟩
theorem cR_al {t : TypeId} (h : cR p a len cap A S zs wB u w) : cR p a len cap A S zs wB (upU u A (.pointer (some ⟨w.heap.size, 0, none⟩))) (w.alloc (.cells zs.toArray t)) := by
  refine ⟨h.1.below (bnew _ _), h.2.1.trans (Kept.of_below (bnew _ _)), fun M hM _ => .inr ?_⟩
  rw [upU_same] at hM
  cases hM
  exact ⟨Bx.new _ _ _, by simp⟩
theorem cR_st (hc : Cur p a len cap w') (hk : Kept p wB w') {v : Value} (hv : v ≠ undef) : cR p a len cap A S zs wB (upU u S v) w' := ⟨hc, hk, fun _ _ _ => .inl (by rw [upU_same]; exact hv)⟩
theorem cG_up (i : Nat) (hA : A ≠ i) (v : Value) (j : Nat) (hj : j ≠ i) (hjS : j ≠ S) (h : cG A S wB G P j u w) : cG A S wB G P j (upU u i v) w' := by
  obtain ⟨h1, h3, h4⟩ := h
  exact ⟨by rw [upU_other u v hj]; exact h1, fun e => by rw [upU_other u v hA]; exact h3 e, fun e => absurd e hjS⟩
theorem cG_val (j : Nat) (hA : j ≠ A) (hS : j ≠ S) {v : Value} (h : G j v) : cG A S wB G P j (upU u j v) w := ⟨by rw [upU_same]; exact h, fun e => absurd e hA, fun e => absurd e hS⟩
theorem cG_ptr (hAS : A ≠ S) (hG : ∀ v, G A v) {M : Nat} (hM : wB.heap.size ≤ M) : cG A S wB G P A (upU u A (.pointer (some ⟨M, 0, none⟩))) w := ⟨hG _, fun _ => ⟨M, upU_same _ _ _, hM⟩, fun e => absurd e hAS⟩
theorem cG_al {v : Value} (j : Nat) (hj : j ≠ A) (hjS : j ≠ S) (h : cG A S wB G P j u w) : cG A S wB G P j (upU u A v) w' := by
  obtain ⟨h1, h3, h4⟩ := h
  exact ⟨by rw [upU_other _ _ hj]; exact h1, fun e => absurd e hj, fun e => absurd e hjS⟩
theorem cG_st {v : Value} (hAS : A ≠ S) (j : Nat) (hj : j ≠ S) (h : cG A S wB G P j u w) : cG A S wB G P j (upU u S v) w' := by
  obtain ⟨h1, h3, h4⟩ := h
  exact ⟨by rw [upU_other _ _ hj]; exact h1, fun e => by rw [upU_other _ _ hAS]; exact h3 e, fun e => absurd e hj⟩
theorem cG_done {v : Value} (hAS : A ≠ S) (hG : ∀ v, G S v) {M : Nat} (h : u A = .pointer (some ⟨M, 0, none⟩)) (hM : wB.heap.size ≤ M) (hw : M < w.heap.size) (hP : P M w) : cG A S wB G P S (upU u S v) w :=
  ⟨hG _, fun e => absurd e.symm hAS, fun _ => ⟨M, (upU_other _ _ hAS).trans h, hM, hw, hP⟩⟩
end

/-- a literal table of n numbers lies there -/
def TabC (n b : Nat) (w : World) : Prop := ∀ Y, Y < n → ∃ z : Int, w.cell? ⟨b, Y, none⟩ = some (.int .i64 z)
theorem TabC.kept {n b p : Nat} {w w' : World} (h : TabC n b w) (hk : Kept p w w') (hb : b ≠ p) : TabC n b w' := fun Y hY => (h Y hY).imp fun _ hz => hk.cell (a := ⟨b, Y, none⟩) hb hz
theorem tab_lit {w : World} : ∀ (L : List Int), TabC L.length w.heap.size (w.alloc (.cells (L.map (Value.int .i64)).toArray 2)) := fun L Y hY =>
  ⟨L[Y], by simp [go_sem, hY]⟩
/-- what stays until the store: the cursor turns, what was there stays -/
def tR (p : Nat) (a : Option Addr) (len cap S : Nat) (wB : World) (u : Nat → Value) (w : World) : Prop := u S = undef → Cur p a len cap w ∧ Kept p wB w
/-- what each operation leaves: a table at T, a place of it at I -/
def tF (T I S n : Nat) (wB : World) (G : Nat → Value → Prop) (P : World → Prop) (j : Nat) (u : Nat → Value) (w : World) : Prop :=
  G j (u j) ∧ (j = T → ∃ b, u T = .slice (some ⟨b, 0, none⟩) n n ∧ wB.heap.size ≤ b ∧ (u S = undef → TabC n b w)) ∧ (j = I → ∃ b Y, u I = .pointer (some ⟨b, Y, none⟩) ∧ wB.heap.size ≤ b ∧ (u S = undef → ∃ z : Int, w.cell? ⟨b, Y, none⟩ = some (.int .i64 z))) ∧ (j = S → P w)
section
variable {p : Nat} {a : Option Addr} {len cap T I S n : Nat} {wB w w' : World} {G : Nat → Value → Prop} {P : World → Prop} {u : Nat → Value}
theorem tR_up (h : tR p a len cap S wB u w) (hc : Cur p a len cap w → Cur p a len cap w') (hk : Kept p w w') (i : Nat) (hS : S ≠ i) (v : Value) : tR p a len cap S wB (upU u i v) w' := by
  intro e
  rw [upU_other u v hS] at e
  exact ⟨hc (h e).1, (h e).2.trans hk⟩
theorem tR_st {v : Value} (hv : v ≠ undef) : tR p a len cap S wB (upU u S v) w := fun e => absurd ((upU_same _ _ _).symm.trans e) hv
theorem tF_up (hp : p < wB.heap.size) (hk : Kept p w w') (i : Nat) (hS : S ≠ i) (v : Value) (j : Nat) (hj : j ≠ i) (hjS : j ≠ S) (h : tF T I S n wB G P j u w) : tF T I S n wB G P j (upU u i v) w' := by
  obtain ⟨h1, h2, h3, h4⟩ := h
  refine ⟨by rw [upU_other u v hj]; exact h1, fun e => ?_, fun e => ?_, fun e => absurd e hjS⟩
  · obtain ⟨b, g1, g2, g3⟩ := h2 e
    exact ⟨b, by rw [upU_other u v (fun e' => hj (e.trans e'))]; exact g1, g2, fun e' => (g3 (by rwa [upU_other u v hS] at e')).kept hk (by omega)⟩
  · obtain ⟨b, Y, g1, g2, g3⟩ := h3 e
    exact ⟨b, Y, by rw [upU_other u v (fun e' => hj (e.trans e'))]; exact g1, g2, fun e' => (g3 (by rwa [upU_other u v hS] at e')).imp fun _ hz => hk.cell (a := ⟨b, Y, none⟩) (by show b ≠ p; omega) hz⟩
theorem tF_st {v : Value} (hv : v ≠ undef) (j : Nat) (hj : j ≠ S) (hT : T ≠ S) (hI : I ≠ S) (h : tF T I S n wB G P j u w) : tF T I S n wB G P j (upU u S v) w' := by
  obtain ⟨h1, h2, h3, h4⟩ := h
  refine ⟨by rw [upU_other u v hj]; exact h1, fun e => ?_, fun e => ?_, fun e => absurd e hj⟩
  · obtain ⟨b, g1, g2, g3⟩ := h2 e
    exact ⟨b, by rw [upU_other u v hT]; exact g1, g2, fun e' => absurd ((upU_same _ _ _).symm.trans e') hv⟩
  · obtain ⟨b, Y, g1, g2, g3⟩ := h3 e
    exact ⟨b, Y, by rw [upU_other u v hI]; exact g1, g2, fun e' => absurd ((upU_same _ _ _).symm.trans e') hv⟩
theorem tF_val (j : Nat) (hT : j ≠ T) (hI : j ≠ I) (hS : j ≠ S) {v : Value} (h : G j v) : tF T I S n wB G P j (upU u j v) w := ⟨by rw [upU_same]; exact h, fun e => absurd e hT, fun e => absurd e hI, fun e => absurd e hS⟩
theorem tF_tab (hTI : T ≠ I) (hTS : T ≠ S) (hG : ∀ v, G T v) {b : Nat} (hb : wB.heap.size ≤ b) (ht : TabC n b w) : tF T I S n wB G P T (upU u T (.slice (some ⟨b, 0, none⟩) n n)) w :=
  ⟨hG _, fun _ => ⟨b, upU_same _ _ _, hb, fun _ => ht⟩, fun e => absurd e hTI, fun e => absurd e hTS⟩
theorem tF_ix (hTI : T ≠ I) (hIS : I ≠ S) (hG : ∀ v, G I v) {b Y : Nat} (hb : wB.heap.size ≤ b) (hz : ∃ z : Int, w.cell? ⟨b, Y, none⟩ = some (.int .i64 z)) : tF T I S n wB G P I (upU u I (.pointer (some ⟨b, Y, none⟩))) w :=
  ⟨hG _, fun e => absurd e.symm hTI, fun _ => ⟨b, Y, upU_same _ _ _, hb, fun _ => hz⟩, fun e => absurd e hIS⟩
theorem tF_done {v : Value} (hTS : T ≠ S) (hIS : I ≠ S) (hG : ∀ v, G S v) (hP : P w) : tF T I S n wB G P S (upU u S v) w := ⟨hG _, fun e => absurd e.symm hTS, fun e => absurd e.symm hIS, fun _ => hP⟩
end

end Go.Proofs.Ytjdbiaoheoialaa

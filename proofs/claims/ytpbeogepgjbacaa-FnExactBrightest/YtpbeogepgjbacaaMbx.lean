/- A region that draws, in which several boxes of two cells are made and each is filled. -/
import Derived.Test.YtpbeogepgjbacaaRgv
import Derived.Test.YtpbeogepgjbacaaHom
namespace Go.Proofs.Ytpbeogepgjbacaa
open Go.RowKit

def ptr0 (M : Nat) : Value := .pointer (some ⟨M, 0, none⟩)
theorem ptr0_inj {M M' : Nat} (h : ptr0 M = ptr0 M') : M = M' := by unfold ptr0 at h; injection h with h; injection h with h; injection h
theorem Bx.lt2 {b : Nat} {v : Value} {vs : List Value} {w : World} (h : Bx b (v :: vs) w) : b < w.heap.size := World.block_lt_of_cell? w ⟨b, 0, none⟩ (h 0 v rfl).1
theorem Bx.set2 {b : Nat} {x y : Value} {w : World} (h : Bx b [x, y] w) (x' y' : Value) : Bx b [x', y'] ((w.setCell ⟨b, 0, none⟩ x').setCell ⟨b, 1, none⟩ y') := (h.set 0 x').set 1 y'
theorem kept2 (b : Nat) (w : World) (x y : Value) : Kept b w ((w.setCell ⟨b, 0, none⟩ x).setCell ⟨b, 1, none⟩ y) := ((Kept.refl b w).setCell (a := ⟨b, 0, none⟩) rfl x).setCell (a := ⟨b, 1, none⟩) rfl y
theorem below2 {B : Nat} {w w1 : World} (h : Below B w w1) {b : Nat} (hb : B ≤ b) (u v : Value) : Below B w ((w1.setCell ⟨b, 0, none⟩ u).setCell ⟨b, 1, none⟩ v) :=
  (h.setCell (p := ⟨b, 0, none⟩) hb u).setCell (p := ⟨b, 1, none⟩) hb v
/-- what stays: the boxes that the operations of As made are there, each another -/
def mR (As : List Nat) (wB : World) (u : Nat → Value) (w : World) : Prop :=
  Below wB.heap.size wB w ∧ (∀ A ∈ As, ∀ M, u A = ptr0 M → wB.heap.size ≤ M → ∃ x y, Bx M [x, y] w) ∧ (∀ A ∈ As, ∀ A' ∈ As, A ≠ A' → ∀ M, u A = ptr0 M → wB.heap.size ≤ M → u A' ≠ ptr0 M)
/-- what each operation leaves -/
def mF (As : List Nat) (ps : Nat → Option (Nat × Value × Value)) (wB : World) (G : Nat → Value → Prop) (j : Nat) (u : Nat → Value) (w : World) : Prop :=
  G j (u j) ∧ (j ∈ As → ∃ M, u j = ptr0 M ∧ wB.heap.size ≤ M) ∧ (∀ A x y, ps j = some (A, x, y) → A ∈ As ∧ ∃ M, u A = ptr0 M ∧ wB.heap.size ≤ M ∧ Bx M [x, y] w)
section
variable {As : List Nat} {ps : Nat → Option (Nat × Value × Value)} {wB : World} {G : Nat → Value → Prop} {u : Nat → Value} {w : World}
theorem mR_up (h : mR As wB u w) (i : Nat) (hi : ∀ A ∈ As, A ≠ i) (v : Value) : mR As wB (upU u i v) w := by
  refine ⟨h.1, fun A hA M hM hB => ?_, fun A hA A' hA' hne M hM hB => ?_⟩
  · rw [upU_other u v (hi A hA)] at hM
    exact h.2.1 A hA M hM hB
  · rw [upU_other u v (hi A hA)] at hM
    rw [upU_other u v (hi A' hA')]
    exact h.2.2 A hA A' hA' hne M hM hB
theorem mF_up (i : Nat) (hi : ∀ A ∈ As, A ≠ i) (v : Value) (j : Nat) (hj : j ≠ i) (h : mF As ps wB G j u w) : mF As ps wB G j (upU u i v) w := by
  obtain ⟨h1, h2, h3⟩ := h
  refine ⟨by rw [upU_other u v hj]; exact h1, fun hm => by rw [upU_other u v hj]; exact h2 hm, fun A x y hp => ?_⟩
  obtain ⟨a, M, b, c, d⟩ := h3 A x y hp
  exact ⟨a, M, by rw [upU_other u v (hi A a)]; exact b, c, d⟩
theorem mF_val (j : Nat) (hj : ∀ A ∈ As, A ≠ j) (hp : ps j = none) {v : Value} (h : G j v) : mF As ps wB G j (upU u j v) w :=
  ⟨by rw [upU_same]; exact h, fun hm => absurd rfl (hj j hm), fun A x y e => by rw [hp] at e; cases e⟩
theorem mR_al (h : mR As wB u w) {i : Nat} {x y : Value} {o : Obj} (ho : Bx w.heap.size [x, y] (w.alloc o)) : mR As wB (upU u i (ptr0 w.heap.size)) (w.alloc o) := by
  have hb := bnew w o
  refine ⟨h.1.trans (hb.mono h.1.size), fun A hA M hM hB => ?_, fun A hA A' hA' hne M hM hB => ?_⟩
  · by_cases e : A = i
    · subst e
      rw [upU_same] at hM
      rw [← ptr0_inj hM]
      exact ⟨x, y, ho⟩
    · rw [upU_other u _ e] at hM
      obtain ⟨x', y', hx⟩ := h.2.1 A hA M hM hB
      exact ⟨x', y', hx.below hb hx.lt2⟩
  · by_cases e : A = i
    · subst e
      rw [upU_same] at hM
      rw [upU_other u _ (Ne.symm hne)]
      intro hx
      obtain ⟨x', y', hx'⟩ := h.2.1 A' hA' M hx hB
      have := hx'.lt2
      have := ptr0_inj hM
      omega
    · rw [upU_other u _ e] at hM
      by_cases e' : A' = i
      · subst e'
        rw [upU_same]
        intro hx
        obtain ⟨x', y', hx'⟩ := h.2.1 A hA M hM hB
        have := hx'.lt2
        have := ptr0_inj hx
        omega
      · rw [upU_other u _ e']
        exact h.2.2 A hA A' hA' hne M hM hB
theorem mF_al {i : Nat} (o : Obj) (j : Nat) (hj : j ≠ i) (hs : ∀ x y, ps j ≠ some (i, x, y)) (h : mF As ps wB G j u w) : mF As ps wB G j (upU u i (ptr0 w.heap.size)) (w.alloc o) := by
  have hb := bnew w o
  obtain ⟨h1, h2, h3⟩ := h
  refine ⟨by rw [upU_other _ _ hj]; exact h1, fun hm => by rw [upU_other _ _ hj]; exact h2 hm, fun A x y hp => ?_⟩
  obtain ⟨a, M, b, c, d⟩ := h3 A x y hp
  refine ⟨a, M, ?_, c, d.below hb d.lt2⟩
  rw [upU_other _ _ (fun e => by subst e; exact hs x y hp)]
  exact b
theorem mF_ptr {i : Nat} (hG : ∀ v, G i v) (hp : ps i = none) {M : Nat} (hM : wB.heap.size ≤ M) : mF As ps wB G i (upU u i (ptr0 M)) w :=
  ⟨hG _, fun _ => ⟨M, upU_same _ _ _, hM⟩, fun A x y e => by rw [hp] at e; cases e⟩
/-- a box is filled -/
theorem mR_st (h : mR As wB u w) {i : Nat} (hi : ∀ A ∈ As, A ≠ i) {M : Nat} (hM : wB.heap.size ≤ M) {x0 y0 : Value} (hx : Bx M [x0, y0] w) (v x y : Value) : mR As wB (upU u i v) ((w.setCell ⟨M, 0, none⟩ x).setCell ⟨M, 1, none⟩ y) := by
  have hk := kept2 M w x y
  refine ⟨below2 h.1 hM x y, fun A hA N hN hB => ?_, (mR_up h i hi v).2.2⟩
  rw [upU_other u v (hi A hA)] at hN
  by_cases e : N = M
  · subst e
    exact ⟨x, y, hx.set2 x y⟩
  · obtain ⟨x', y', hx'⟩ := h.2.1 A hA N hN hB
    exact ⟨x', y', hx'.kept hk e⟩
theorem mF_st (hR : mR As wB u w) {i : Nat} (hi : ∀ A ∈ As, A ≠ i) {A : Nat} (hA : A ∈ As) {M : Nat} (hu : u A = ptr0 M) (hM : wB.heap.size ≤ M) (v x y : Value) (j : Nat) (hj : j ≠ i) (hs : ∀ x y, ps j ≠ some (A, x, y)) (h : mF As ps wB G j u w) :
    mF As ps wB G j (upU u i v) ((w.setCell ⟨M, 0, none⟩ x).setCell ⟨M, 1, none⟩ y) := by
  have hk := kept2 M w x y
  obtain ⟨h1, h2, h3⟩ := h
  refine ⟨by rw [upU_other u v hj]; exact h1, fun hm => by rw [upU_other u v hj]; exact h2 hm, fun A' x' y' hp => ?_⟩
  obtain ⟨a, N, b, c, d⟩ := h3 A' x' y' hp
  refine ⟨a, N, by rw [upU_other u v (hi A' a)]; exact b, c, d.kept hk (fun e => ?_)⟩
  subst e
  exact hR.2.2 A hA A' a (fun e => by subst e; exact hs _ _ hp) N hu hM b
theorem mF_done {i : Nat} (hi : ∀ A ∈ As, A ≠ i) {A : Nat} {x y : Value} (hp : ps i = some (A, x, y)) (hA : A ∈ As) {M : Nat} (hu : u A = ptr0 M) (hM : wB.heap.size ≤ M) {x0 y0 : Value} (hx : Bx M [x0, y0] w) {v : Value} (hG : G i v) :
    mF As ps wB G i (upU u i v) ((w.setCell ⟨M, 0, none⟩ x).setCell ⟨M, 1, none⟩ y) := by
  refine ⟨by rw [upU_same]; exact hG, fun hm => absurd rfl (hi i hm), fun A' x' y' hp' => ?_⟩
  rw [hp] at hp'
  cases hp'
  exact ⟨hA, M, by rw [upU_other u v (hi A hA)]; exact hu, hM, hx.set2 x y⟩
end
theorem St.boxM {w0 : World} {L : List BoxT} {O : List OwnT} {w : World} (h : St w0 L O w) {c : Nat} {vs : List Value} (hx : Bx c vs w) (h0 : w0.heap.size ≤ c) (hc : c < w.heap.size) (hn : c ∉ blocks L O) : St w0 ((c, vs) :: L) O w := by
  refine ⟨h.below, ?_, h.ow, ?_, ?_⟩
  · intro x hx'
    rcases List.mem_cons.1 hx' with rfl | hx'
    · exact hx
    · exact h.bx x hx'
  · intro b hb
    rcases List.mem_cons.1 hb with rfl | hb
    · exact ⟨h0, hc⟩
    · exact h.lt b hb
  · exact List.nodup_cons.2 ⟨hn, h.nd⟩
/-- three boxes are taken in hand -/
theorem St.three {w0 : World} {L : List BoxT} {O : List OwnT} {wB w : World} (h : St w0 L O wB) (hb : Below wB.heap.size wB w) {M1 M2 M3 : Nat} {x1 y1 x2 y2 x3 y3 : Value} (b1 : Bx M1 [x1, y1] w) (b2 : Bx M2 [x2, y2] w) (b3 : Bx M3 [x3, y3] w) (h1 : wB.heap.size ≤ M1) (h2 : wB.heap.size ≤ M2) (h3 : wB.heap.size ≤ M3) (n12 : M1 ≠ M2) (n13 : M1 ≠ M3) (n23 : M2 ≠ M3) :
    St w0 ((M1, [x1, y1]) :: (M2, [x2, y2]) :: (M3, [x3, y3]) :: L) O w := by
  have hs := h.below.size
  have hO : ∀ c ∈ blocks L O, c < wB.heap.size := fun c hc => (h.lt c hc).2
  have k3 := (h.next hb).boxM b3 (by omega) b3.lt2 (fun hm => by have := hO _ hm; omega)
  have k2 := k3.boxM b2 (by omega) b2.lt2 (fun hm => by
    rcases List.mem_cons.1 hm with e | hm
    · exact n23 e
    · have := hO _ hm; omega)
  exact k2.boxM b1 (by omega) b1.lt2 (fun hm => by
    rcases List.mem_cons.1 hm with e | hm
    · exact n12 e
    · rcases List.mem_cons.1 hm with e | hm
      · exact n13 e
      · have := hO _ hm; omega)

end Go.Proofs.Ytpbeogepgjbacaa

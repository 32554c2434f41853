/- The best fit: the program's numbers, and its region that draws. -/
import Derived.Test.YtncaekmjpfjneaaDoorMts
namespace Go.Proofs.YtncaekmjpfjneaaDoor
open Go.RowKit

/-- alike but for the turn -/
def FR (tn : Int) (A B : FT) : Prop := A.x = B.x ∧ A.y = B.y ∧ A.z = B.z ∧ A.c = B.c ∧ (B.c < 0 ∨ B.t = tn)
theorem FR.cmb {tn : Int} {A B : FT} (h : FR tn A B) (x y z q : Int) : FR tn (cmb A ⟨0, x, y, z, q⟩) (cmb B ⟨tn, x, y, z, q⟩) := by
  obtain ⟨h1, h2, h3, h4, h5⟩ := h
  unfold Go.Proofs.YtncaekmjpfjneaaDoor.cmb
  simp only [h4]
  repeat' split
  · exact ⟨h1, h2, h3, h4, h5⟩
  · exact ⟨rfl, rfl, rfl, rfl, .inr rfl⟩
  · exact ⟨h1, h2, h3, h4, h5⟩
theorem bz_fr (co : Int → Int → Int → Int) (tn r x y : Int) {A B : FT} (h : FR tn A B) : ∀ k, FR tn (bz co 0 r x y A k) (bz co tn r x y B k)
  | 0 => h
  | k + 1 => (bz_fr co tn r x y h k).cmb _ _ _ _
theorem by_fr (co : Int → Int → Int → Int) (tn r x : Int) (m : Nat) {A B : FT} (h : FR tn A B) : ∀ k, FR tn (by' co 0 r x m A k) (by' co tn r x m B k)
  | 0 => h
  | k + 1 => bz_fr co tn r x _ (by_fr co tn r x m h k) m
theorem bx_fr (co : Int → Int → Int → Int) (tn r : Int) (m : Nat) {A B : FT} (h : FR tn A B) : ∀ k, FR tn (bx co 0 r m A k) (bx co tn r m B k)
  | 0 => h
  | k + 1 => by_fr co tn r _ m (bx_fr co tn r m h k) m
theorem cmb_pos {b k : FT} (hk : 0 ≤ k.c) : 0 ≤ (cmb b k).c := by
  unfold cmb
  repeat' split
  all_goals omega
theorem bz_pos {co : Int → Int → Int → Int} (hc : ∀ x y z, 0 ≤ co x y z) (tn r x y : Int) (b : FT) {k : Nat} (hk : 1 ≤ k) : 0 ≤ (bz co tn r x y b k).c := by
  obtain ⟨j, rfl⟩ : ∃ j, k = j + 1 := ⟨k - 1, by omega⟩
  exact cmb_pos (hc _ _ _)
theorem by_pos {co : Int → Int → Int → Int} (hc : ∀ x y z, 0 ≤ co x y z) (tn r x : Int) {m : Nat} (hm : 1 ≤ m) (b : FT) {k : Nat} (hk : 1 ≤ k) : 0 ≤ (by' co tn r x m b k).c := by
  obtain ⟨j, rfl⟩ : ∃ j, k = j + 1 := ⟨k - 1, by omega⟩
  exact bz_pos hc _ _ _ _ _ hm
theorem bx_pos {co : Int → Int → Int → Int} (hc : ∀ x y z, 0 ≤ co x y z) (tn r : Int) {m : Nat} (hm : 1 ≤ m) (b : FT) {k : Nat} (hk : 1 ≤ k) : 0 ≤ (bx co tn r m b k).c := by
  obtain ⟨j, rfl⟩ : ∃ j, k = j + 1 := ⟨k - 1, by omega⟩
  exact by_pos hc _ _ _ hm _ hm
/-- the fit of one turn, as the program and as the specification have it -/
theorem fit_turn {co : Int → Int → Int → Int} (hc : ∀ x y z, 0 ≤ co x y z) (tn r : Int) {m : Nat} (hm : 1 ≤ m) {R : FT} (hR : bx co 0 r m .z0 m = R) : bx co tn r m .no m = ⟨tn, R.x, R.y, R.z, R.c⟩ ∧ 0 ≤ R.c := by
  have h := bx_fr co tn r m (A := .z0) (B := .no) ⟨rfl, rfl, rfl, rfl, .inl (by decide)⟩ m
  have hp := bx_pos hc tn r hm .no hm
  have hp0 := bx_pos hc 0 r hm .z0 hm
  rw [hR] at h hp0
  generalize bx co tn r m .no m = B at *
  obtain ⟨h1, h2, h3, h4, h5⟩ := h
  obtain ⟨t, x, y, z, c⟩ := B
  simp only at *
  refine ⟨?_, hp0⟩
  rw [h1, h2, h3, h4, h5.resolve_left (by omega)]
/-- what the program has when T turns are through -/
def mB (co : Nat → Int → Int → Int → Int) (r : Int) (m T : Nat) : FT := if T = 0 then ⟨-1, 0, 0, 0, 0⟩ else bt co r m T
theorem bt_good {co : Nat → Int → Int → Int → Int} {N : Nat} (hc : ∀ T, T < N → ∀ x y z, 0 ≤ co T x y z) (r : Int) {m : Nat} (hm : 1 ≤ m) : ∀ T, T < N → 0 ≤ (bt co r m (T + 1)).t ∧ 0 ≤ (bt co r m (T + 1)).c
  | 0, h => by
    obtain ⟨e, hp⟩ := fit_turn (hc 0 h) ((0 : Nat) : Int) r hm rfl
    rw [(bt_cmb co r m 0).2, e]
    unfold cmb
    rw [if_neg (by simp; omega), if_pos (.inl (show FT.no.c < 0 by decide))]
    exact ⟨by simp, hp⟩
  | T + 1, h => by
    obtain ⟨e, hp⟩ := fit_turn (hc (T + 1) h) ((T + 1 : Nat) : Int) r hm rfl
    have ih := bt_good hc r hm T (by omega)
    rw [(bt_cmb co r m (T + 1)).2, e]
    unfold cmb
    rw [if_neg (by simp; omega)]
    split
    · exact ⟨by simp; omega, hp⟩
    · exact ih
theorem mB_step {co : Nat → Int → Int → Int → Int} {N : Nat} (hc : ∀ T, T < N → ∀ x y z, 0 ≤ co T x y z) {T : Nat} (hT : T < N) (r : Int) {m : Nat} (hm : 1 ≤ m) {R : FT} (hR : bx (co T) 0 r m .z0 m = R) :
    mB co r m (T + 1) = if (mB co r m T).t < 0 ∨ R.c < (mB co r m T).c then ⟨(T : Int), R.x, R.y, R.z, R.c⟩ else mB co r m T := by
  obtain ⟨e, hp⟩ := fit_turn (hc T hT) (T : Int) r hm hR
  have h := (bt_cmb co r m T).2
  rw [e] at h
  unfold mB
  rw [if_neg (show ¬ T + 1 = 0 by omega), h]
  by_cases h0 : T = 0
  · subst h0
    rw [if_pos rfl]
    unfold cmb
    rw [if_neg (by simp; omega), if_pos (.inl (show FT.no.c < 0 by decide)), if_pos (.inl (by decide))]
  · rw [if_neg h0]
    obtain ⟨S, rfl⟩ : ∃ S, T = S + 1 := ⟨T - 1, by omega⟩
    have g := bt_good hc r hm S (by omega)
    generalize bt co r m (S + 1) = b at *
    unfold cmb
    rw [if_neg (by simp; omega)]
    by_cases hl : R.c < b.c
    · rw [if_pos (.inr hl), if_pos (.inr hl)]
    · rw [if_neg (by simp; omega), if_neg (by omega)]
/-- a value where the program's last turn is through -/
theorem mB_all (co : Nat → Int → Int → Int → Int) (r : Int) (m : Nat) : mB co r m 12 = bt co r m 12 := rfl

/-- what each operation leaves: a volume, a fit, a box of five -/
def mkF (wB : World) (X : Int) (n : Nat) (G : Nat → Value → Prop) (ft : Nat → Int) (R : FT) (j : Nat) (u : Nat → Value) (w : World) : Prop :=
  G j (u j) ∧ (j = 3 → u 7 ≠ undef ∨ ∃ b cp, u 3 = vVolume X X X (some ⟨b, 0, none⟩) n cp ∧ Row b n ft w) ∧ (j = 6 → ∃ M, u 6 = .pointer (some ⟨M, 0, none⟩) ∧ wB.heap.size ≤ M) ∧ (j = 7 → ∃ M, u 6 = .pointer (some ⟨M, 0, none⟩) ∧ wB.heap.size ≤ M ∧ Bx M (cF R) w)
abbrev z5 : List Value := [.int .i64 0, .int .i64 0, .int .i64 0, .int .i64 0, .int .i64 0]
/-- what stays -/
def mkR (wB : World) (u : Nat → Value) (w : World) : Prop :=
  Below wB.heap.size wB w ∧ ∀ M, u 6 = .pointer (some ⟨M, 0, none⟩) → wB.heap.size ≤ M → u 7 ≠ undef ∨ Bx M z5 w
theorem mkR_up {wB : World} {u : Nat → Value} {w w' : World} (h : mkR wB u w) (hb : Below w.heap.size w w') (i : Nat) (hi : i < 6) (v : Value) : mkR wB (upU u i v) w' := by
  refine ⟨h.1.trans (hb.mono h.1.size), fun M hM hMB => ?_⟩
  rw [upU_other u v (by omega)] at hM ⊢
  rcases h.2 M hM hMB with h1 | h1
  · exact .inl h1
  · exact .inr (h1.below hb h1.lt)
theorem mkF_up {wB : World} {X : Int} {n : Nat} {G : Nat → Value → Prop} {ft : Nat → Int} {R : FT} {u : Nat → Value} {w w' : World} (hn : 1 ≤ n) (hb : Below w.heap.size w w') (i : Nat) (hi : i < 6) (v : Value) (j : Nat) (hj : j ≠ i) (h : mkF wB X n G ft R j u w) : mkF wB X n G ft R j (upU u i v) w' := by
  obtain ⟨h1, h2, h3, h4⟩ := h
  refine ⟨by rw [upU_other u v hj]; exact h1, fun e => ?_, fun e => ?_, fun e => ?_⟩
  · rw [upU_other u v (show 7 ≠ i by omega), upU_other u v (show 3 ≠ i from fun e' => hj (e.trans e'))]
    refine (h2 e).imp id fun ⟨b, cp, e', hr⟩ => ⟨b, cp, e', hr.below hb (hr.lt hn)⟩
  · rw [upU_other u v (show 6 ≠ i by omega)]; exact h3 e
  · obtain ⟨M, a1, a2, a3⟩ := h4 e
    exact ⟨M, by rw [upU_other u v (show 6 ≠ i by omega)]; exact a1, a2, a3.below hb a3.lt⟩
theorem mkF_val {wB : World} {X : Int} {n : Nat} {G : Nat → Value → Prop} {ft : Nat → Int} {R : FT} {u : Nat → Value} {w : World} (j : Nat) (hj : j < 6) (h3 : j ≠ 3) {v : Value} (h : G j v) : mkF wB X n G ft R j (upU u j v) w :=
  ⟨by rw [upU_same]; exact h, fun e => absurd e h3, fun e => by omega, fun e => by omega⟩
theorem mkR_al {wB : World} {u : Nat → Value} {w : World} (h : mkR wB u w) (t : TypeId) : mkR wB (upU u 6 (.pointer (some ⟨w.heap.size, 0, none⟩))) (w.alloc (.cells #[.int .i64 0, .int .i64 0, .int .i64 0, .int .i64 0, .int .i64 0] t)) := by
  have hb := bnew w (.cells #[.int .i64 0, .int .i64 0, .int .i64 0, .int .i64 0, .int .i64 0] t)
  refine ⟨h.1.trans (hb.mono h.1.size), fun M hM _ => ?_⟩
  rw [upU_same] at hM
  cases hM
  exact .inr (Bx.new z5 t w)
theorem mkF_al {wB : World} {X : Int} {n : Nat} {G : Nat → Value → Prop} {ft : Nat → Int} {R : FT} {u : Nat → Value} {w : World} (hn : 1 ≤ n) (t : TypeId) (v : Value) (j : Nat) (hj : j ≠ 6) (h7 : j ≠ 7) (h : mkF wB X n G ft R j u w) :
    mkF wB X n G ft R j (upU u 6 v) (w.alloc (.cells #[.int .i64 0, .int .i64 0, .int .i64 0, .int .i64 0, .int .i64 0] t)) := by
  have hb := bnew w (.cells #[.int .i64 0, .int .i64 0, .int .i64 0, .int .i64 0, .int .i64 0] t)
  obtain ⟨h1, h2, h3, h4⟩ := h
  refine ⟨by rw [upU_other _ _ hj]; exact h1, fun e => ?_, fun e => absurd e hj, fun e => absurd e h7⟩
  rw [upU_other _ _ (show 7 ≠ 6 by omega), upU_other _ _ (show 3 ≠ 6 by omega)]
  exact (h2 e).imp id fun ⟨b, cp, e', hr⟩ => ⟨b, cp, e', hr.below hb (hr.lt hn)⟩
theorem mkF_st {wB : World} {X : Int} {n : Nat} {G : Nat → Value → Prop} {ft : Nat → Int} {R : FT} {u : Nat → Value} {w w' : World} {v : Value} (hv : v ≠ undef) (j : Nat) (hj : j ≠ 7) (h : mkF wB X n G ft R j u w) : mkF wB X n G ft R j (upU u 7 v) w' := by
  obtain ⟨h1, h2, h3, h4⟩ := h
  exact ⟨by rw [upU_other _ _ hj]; exact h1, fun e => .inl (by rw [upU_same]; exact hv), fun e => by rw [upU_other _ _ (show 6 ≠ 7 by omega)]; exact h3 e, fun e => absurd e hj⟩
theorem Bx.setF {b : Nat} {vs : List Value} {w : World} (h : Bx b vs w) {k : Nat} (hk : k < vs.length) (v : Value) : Bx b (vs.set k v) (w.setCell ⟨b, k, none⟩ v) := fun j u hu => by
  by_cases e : j = k
  · subst e
    rw [List.getElem?_set_self hk] at hu
    cases hu
    have := h j _ (List.getElem?_eq_getElem hk)
    exact ⟨World.cell?_setCell_same _ _ _ this.1, by simpa using this.2⟩
  · rw [List.getElem?_set_ne (Ne.symm e)] at hu
    have := h j u hu
    refine ⟨?_, by simpa using this.2⟩
    rw [World.cell?_setCell_other _ _ _ _ (by intro e'; exact e (congrArg Addr.off e').symm)]
    exact this.1
theorem Bx.to5 {b : Nat} {y0 y1 y2 y3 y4 : Value} {w : World} (h : Bx b [y0, y1, y2, y3, y4] w) (x0 x1 x2 x3 x4 : Value) : Bx b [x0, x1, x2, x3, x4] (set5 w b x0 x1 x2 x3 x4) :=
  ((((h.setF (k := 0) (by simp) x0).setF (k := 1) (by simp) x1).setF (k := 2) (by simp) x2).setF (k := 3) (by simp) x3).setF (k := 4) (by simp) x4
theorem mkR_st {wB : World} {u : Nat → Value} {w : World} (h : mkR wB u w) {M : Nat} (hM : wB.heap.size ≤ M) (x0 x1 x2 x3 x4 : Value) {v : Value} (hv : v ≠ undef) : mkR wB (upU u 7 v) (set5 w M x0 x1 x2 x3 x4) :=
  ⟨((((h.1.setCell (p := ⟨M, 0, none⟩) hM x0).setCell (p := ⟨M, 1, none⟩) hM x1).setCell (p := ⟨M, 2, none⟩) hM x2).setCell (p := ⟨M, 3, none⟩) hM x3).setCell (p := ⟨M, 4, none⟩) hM x4, fun _ _ _ => .inl (by rw [upU_same]; exact hv)⟩

end Go.Proofs.YtncaekmjpfjneaaDoor

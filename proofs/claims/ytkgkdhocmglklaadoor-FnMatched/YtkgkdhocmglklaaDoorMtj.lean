/- The best fit: the program. -/
import Derived.Test.YtkgkdhocmglklaaDoorMts
import Derived.Test.YtkgkdhocmglklaaDoorTni
namespace Go.Proofs.YtkgkdhocmglklaaDoor
open Go.RowKit

/-- alike but for the turn -/
def FR (tn : Int) (A B : FT) : Prop := A.x = B.x ∧ A.y = B.y ∧ A.z = B.z ∧ A.c = B.c ∧ (B.c < 0 ∨ B.t = tn)
theorem FR.cmb {tn : Int} {A B : FT} (h : FR tn A B) (x y z q : Int) : FR tn (cmb A ⟨0, x, y, z, q⟩) (cmb B ⟨tn, x, y, z, q⟩) := by
  obtain ⟨h1, h2, h3, h4, h5⟩ := h
  unfold Go.Proofs.YtkgkdhocmglklaaDoor.cmb
  simp only [h4]
  repeat' split
  · exact ⟨h1, h2, h3, h4, h5⟩
  · exact ⟨rfl, rfl, rfl, rfl, .inr rfl⟩
  · exact ⟨h1, h2, h3, h4, h5⟩
theorem bz_fr (co : Int → Int → Int → Int) (tn r x y : Int) {A B : FT} (h : FR tn A B) : ∀ k, FR tn (bz co 0 r x y A k) (bz co tn r x y B k)
  | 0 => h
  | k + 1 => (bz_fr co tn r x y h k).cmb _ _ _ _
theorem by_fr (co : Int → Int → Int → Int) (tn r x : Int) (m : Nat) {A B : FT} (h : FR tn A B) : ∀ k, FR tn (by' co 0 r x m A k) (by' co tn r x m B k)
  | 0 => h
  | k + 1 => bz_fr co tn r x _ (by_fr co tn r x m h k) m
theorem bx_fr (co : Int → Int → Int → Int) (tn r : Int) (m : Nat) {A B : FT} (h : FR tn A B) : ∀ k, FR tn (bx co 0 r m A k) (bx co tn r m B k)
  | 0 => h
  | k + 1 => by_fr co tn r _ m (bx_fr co tn r m h k) m
theorem cmb_pos {b k : FT} (hk : 0 ≤ k.c) : 0 ≤ (cmb b k).c := by
  unfold cmb
  repeat' split
  all_goals omega
theorem bz_pos {co : Int → Int → Int → Int} (hc : ∀ x y z, 0 ≤ co x y z) (tn r x y : Int) (b : FT) {k : Nat} (hk : 1 ≤ k) : 0 ≤ (bz co tn r x y b k).c := by
  obtain ⟨j, rfl⟩ : ∃ j, k = j + 1 := ⟨k - 1, by omega⟩
  exact cmb_pos (hc _ _ _)
theorem by_pos {co : Int → Int → Int → Int} (hc : ∀ x y z, 0 ≤ co x y z) (tn r x : Int) {m : Nat} (hm : 1 ≤ m) (b : FT) {k : Nat} (hk : 1 ≤ k) : 0 ≤ (by' co tn r x m b k).c := by
  obtain ⟨j, rfl⟩ : ∃ j, k = j + 1 := ⟨k - 1, by omega⟩
  exact bz_pos hc _ _ _ _ _ hm
theorem bx_pos {co : Int → Int → Int → Int} (hc : ∀ x y z, 0 ≤ co x y z) (tn r : Int) {m : Nat} (hm : 1 ≤ m) (b : FT) {k : Nat} (hk : 1 ≤ k) : 0 ≤ (bx co tn r m b k).c := by
  obtain ⟨j, rfl⟩ : ∃ j, k = j + 1 := ⟨k - 1, by omega⟩
  exact by_pos hc _ _ _ hm _ hm
/-- the fit of one turn, as the program and as the specification have it -/
theorem fit_turn {co : Int → Int → Int → Int} (hc : ∀ x y z, 0 ≤ co x y z) (tn r : Int) {m : Nat} (hm : 1 ≤ m) {R : FT} (hR : bx co 0 r m .z0 m = R) : bx co tn r m .no m = ⟨tn, R.x, R.y, R.z, R.c⟩ ∧ 0 ≤ R.c := by
  have h := bx_fr co tn r m (A := .z0) (B := .no) ⟨rfl, rfl, rfl, rfl, .inl (by decide)⟩ m
  have hp := bx_pos hc tn r hm .no hm
  have hp0 := bx_pos hc 0 r hm .z0 hm
  rw [hR] at h hp0
  generalize bx co tn r m .no m = B at *
  obtain ⟨h1, h2, h3, h4, h5⟩ := h
  obtain ⟨t, x, y, z, c⟩ := B
  simp only at *
  refine ⟨?_, hp0⟩
  rw [h1, h2, h3, h4, h5.resolve_left (by omega)]
/-- what the program has when T turns are through -/
def mB (co : Nat → Int → Int → Int → Int) (r : Int) (m T : Nat) : FT := if T = 0 then ⟨-1, 0, 0, 0, 0⟩ else bt co r m T
theorem bt_good {co : Nat → Int → Int → Int → Int} {N : Nat} (hc : ∀ T, T < N → ∀ x y z, 0 ≤ co T x y z) (r : Int) {m : Nat} (hm : 1 ≤ m) : ∀ T, T < N → 0 ≤ (bt co r m (T + 1)).t ∧ 0 ≤ (bt co r m (T + 1)).c
  | 0, h => by
    obtain ⟨e, hp⟩ := fit_turn (hc 0 h) ((0 : Nat) : Int) r hm rfl
    rw [(bt_cmb co r m 0).2, e]
    unfold cmb
    rw [if_neg (by simp; omega), if_pos (.inl (show FT.no.c < 0 by decide))]
    exact ⟨by simp, hp⟩
  | T + 1, h => by
    obtain ⟨e, hp⟩ := fit_turn (hc (T + 1) h) ((T + 1 : Nat) : Int) r hm rfl
    have ih := bt_good hc r hm T (by omega)
    rw [(bt_cmb co r m (T + 1)).2, e]
    unfold cmb
    rw [if_neg (by simp; omega)]
    split
    · exact ⟨by simp; omega, hp⟩
    · exact ih
theorem mB_step {co : Nat → Int → Int → Int → Int} {N : Nat} (hc : ∀ T, T < N → ∀ x y z, 0 ≤ co T x y z) {T : Nat} (hT : T < N) (r : Int) {m : Nat} (hm : 1 ≤ m) {R : FT} (hR : bx (co T) 0 r m .z0 m = R) :
    mB co r m (T + 1) = if (mB co r m T).t < 0 ∨ R.c < (mB co r m T).c then ⟨(T : Int), R.x, R.y, R.z, R.c⟩ else mB co r m T := by
  obtain ⟨e, hp⟩ := fit_turn (hc T hT) (T : Int) r hm hR
  have h := (bt_cmb co r m T).2
  rw [e] at h
  unfold mB
  rw [if_neg (show ¬ T + 1 = 0 by omega), h]
  by_cases h0 : T = 0
  · subst h0
    rw [if_pos rfl]
    unfold cmb
    rw [if_neg (by simp; omega), if_pos (.inl (show FT.no.c < 0 by decide)), if_pos (.inl (by decide))]
  · rw [if_neg h0]
    obtain ⟨S, rfl⟩ : ∃ S, T = S + 1 := ⟨T - 1, by omega⟩
    have g := bt_good hc r hm S (by omega)
    generalize bt co r m (S + 1) = b at *
    unfold cmb
    rw [if_neg (by simp; omega)]
    by_cases hl : R.c < b.c
    · rw [if_pos (.inr hl), if_pos (.inr hl)]
    · rw [if_neg (by simp; omega), if_neg (by omega)]
/-- a value where the program's last turn is through -/
theorem mB_all (co : Nat → Int → Int → Int → Int) (r : Int) (m : Nat) : mB co r m 12 = bt co r m 12 := rfl

/-- what each operation leaves: a volume, a fit, a box of five -/
def mkF (wB : World) (X : Int) (n : Nat) (G : Nat → Value → Prop) (ft : Nat → Int) (R : FT) (j : Nat) (u : Nat → Value) (w : World) : Prop :=
  G j (u j) ∧ (j = 3 → u 7 ≠ undef ∨ ∃ b cp, u 3 = vVolume X X X (some ⟨b, 0, none⟩) n cp ∧ Row b n ft w) ∧ (j = 6 → ∃ M, u 6 = .pointer (some ⟨M, 0, none⟩) ∧ wB.heap.size ≤ M) ∧ (j = 7 → ∃ M, u 6 = .pointer (some ⟨M, 0, none⟩) ∧ wB.heap.size ≤ M ∧ Bx M (cF R) w)
abbrev z5 : List Value := [.int .i64 0, .int .i64 0, .int .i64 0, .int .i64 0, .int .i64 0]
/-- what stays -/
def mkR (wB : World) (u : Nat → Value) (w : World) : Prop :=
  Below wB.heap.size wB w ∧ ∀ M, u 6 = .pointer (some ⟨M, 0, none⟩) → wB.heap.size ≤ M → u 7 ≠ undef ∨ Bx M z5 w
theorem mkR_up {wB : World} {u : Nat → Value} {w w' : World} (h : mkR wB u w) (hb : Below w.heap.size w w') (i : Nat) (hi : i < 6) (v : Value) : mkR wB (upU u i v) w' := by
  refine ⟨h.1.trans (hb.mono h.1.size), fun M hM hMB => ?_⟩
  rw [upU_other u v (by omega)] at hM ⊢
  rcases h.2 M hM hMB with h1 | h1
  · exact .inl h1
  · exact .inr (h1.below hb h1.lt)
theorem mkF_up {wB : World} {X : Int} {n : Nat} {G : Nat → Value → Prop} {ft : Nat → Int} {R : FT} {u : Nat → Value} {w w' : World} (hn : 1 ≤ n) (hb : Below w.heap.size w w') (i : Nat) (hi : i < 6) (v : Value) (j : Nat) (hj : j ≠ i) (h : mkF wB X n G ft R j u w) : mkF wB X n G ft R j (upU u i v) w' := by
  obtain ⟨h1, h2, h3, h4⟩ := h
  refine ⟨by rw [upU_other u v hj]; exact h1, fun e => ?_, fun e => ?_, fun e => ?_⟩
  · rw [upU_other u v (show 7 ≠ i by omega), upU_other u v (show 3 ≠ i from fun e' => hj (e.trans e'))]
    refine (h2 e).imp id fun ⟨b, cp, e', hr⟩ => ⟨b, cp, e', hr.below hb (hr.lt hn)⟩
  · rw [upU_other u v (show 6 ≠ i by omega)]; exact h3 e
  · obtain ⟨M, a1, a2, a3⟩ := h4 e
    exact ⟨M, by rw [upU_other u v (show 6 ≠ i by omega)]; exact a1, a2, a3.below hb a3.lt⟩
theorem mkF_val {wB : World} {X : Int} {n : Nat} {G : Nat → Value → Prop} {ft : Nat → Int} {R : FT} {u : Nat → Value} {w : World} (j : Nat) (hj : j < 6) (h3 : j ≠ 3) {v : Value} (h : G j v) : mkF wB X n G ft R j (upU u j v) w :=
  ⟨by rw [upU_same]; exact h, fun e => absurd e h3, fun e => by omega, fun e => by omega⟩
theorem mkR_al {wB : World} {u : Nat → Value} {w : World} (h : mkR wB u w) (t : TypeId) : mkR wB (upU u 6 (.pointer (some ⟨w.heap.size, 0, none⟩))) (w.alloc (.cells #[.int .i64 0, .int .i64 0, .int .i64 0, .int .i64 0, .int .i64 0] t)) := by
  have hb := bnew w (.cells #[.int .i64 0, .int .i64 0, .int .i64 0, .int .i64 0, .int .i64 0] t)
  refine ⟨h.1.trans (hb.mono h.1.size), fun M hM _ => ?_⟩
  rw [upU_same] at hM
  cases hM
  exact .inr (Bx.new z5 t w)
theorem mkF_al {wB : World} {X : Int} {n : Nat} {G : Nat → Value → Prop} {ft : Nat → Int} {R : FT} {u : Nat → Value} {w : World} (hn : 1 ≤ n) (t : TypeId) (v : Value) (j : Nat) (hj : j ≠ 6) (h7 : j ≠ 7) (h : mkF wB X n G ft R j u w) :
    mkF wB X n G ft R j (upU u 6 v) (w.alloc (.cells #[.int .i64 0, .int .i64 0, .int .i64 0, .int .i64 0, .int .i64 0] t)) := by
  have hb := bnew w (.cells #[.int .i64 0, .int .i64 0, .int .i64 0, .int .i64 0, .int .i64 0] t)
  obtain ⟨h1, h2, h3, h4⟩ := h
  refine ⟨by rw [upU_other _ _ hj]; exact h1, fun e => ?_, fun e => absurd e hj, fun e => absurd e h7⟩
  rw [upU_other _ _ (show 7 ≠ 6 by omega), upU_other _ _ (show 3 ≠ 6 by omega)]
  exact (h2 e).imp id fun ⟨b, cp, e', hr⟩ => ⟨b, cp, e', hr.below hb (hr.lt hn)⟩
theorem mkF_st {wB : World} {X : Int} {n : Nat} {G : Nat → Value → Prop} {ft : Nat → Int} {R : FT} {u : Nat → Value} {w w' : World} {v : Value} (hv : v ≠ undef) (j : Nat) (hj : j ≠ 7) (h : mkF wB X n G ft R j u w) : mkF wB X n G ft R j (upU u 7 v) w' := by
  obtain ⟨h1, h2, h3, h4⟩ := h
  exact ⟨by rw [upU_other _ _ hj]; exact h1, fun e => .inl (by rw [upU_same]; exact hv), fun e => by rw [upU_other _ _ (show 6 ≠ 7 by omega)]; exact h3 e, fun e => absurd e hj⟩
theorem Bx.setF {b : Nat} {vs : List Value} {w : World} (h : Bx b vs w) {k : Nat} (hk : k < vs.length) (v : Value) : Bx b (vs.set k v) (w.setCell ⟨b, k, none⟩ v) := fun j u hu => by
  by_cases e : j = k
  · subst e
    rw [List.getElem?_set_self hk] at hu
    cases hu
    have := h j _ (List.getElem?_eq_getElem hk)
    exact ⟨World.cell?_setCell_same _ _ _ this.1, by simpa using this.2⟩
  · rw [List.getElem?_set_ne (Ne.symm e)] at hu
    have := h j u hu
    refine ⟨?_, by simpa using this.2⟩
    rw [World.cell?_setCell_other _ _ _ _ (by intro e'; exact e (congrArg Addr.off e').symm)]
    exact this.1
theorem Bx.to5 {b : Nat} {y0 y1 y2 y3 y4 : Value} {w : World} (h : Bx b [y0, y1, y2, y3, y4] w) (x0 x1 x2 x3 x4 : Value) : Bx b [x0, x1, x2, x3, x4] (set5 w b x0 x1 x2 x3 x4) :=
  ((((h.setF (k := 0) (by simp) x0).setF (k := 1) (by simp) x1).setF (k := 2) (by simp) x2).setF (k := 3) (by simp) x3).setF (k := 4) (by simp) x4
theorem mkR_st {wB : World} {u : Nat → Value} {w : World} (h : mkR wB u w) {M : Nat} (hM : wB.heap.size ≤ M) (x0 x1 x2 x3 x4 : Value) {v : Value} (hv : v ≠ undef) : mkR wB (upU u 7 v) (set5 w M x0 x1 x2 x3 x4) :=
  ⟨((((h.1.setCell (p := ⟨M, 0, none⟩) hM x0).setCell (p := ⟨M, 1, none⟩) hM x1).setCell (p := ⟨M, 2, none⟩) hM x2).setCell (p := ⟨M, 3, none⟩) hM x3).setCell (p := ⟨M, 4, none⟩) hM x4, fun _ _ _ => .inl (by rw [upU_same]; exact hv)⟩

end Go.Proofs.YtkgkdhocmglklaaDoor

namespace Go.Proofs.YtkgkdhocmglklaaDoor
open Go.RowKit

set_option maxRecDepth 100000 in
set_option maxHeartbeats 8000000 in
theorem implMatch_any (X Y Z : Int) (a : Option Addr) (n cap : Nat) (f : Nat → Int) (hl : n ≤ 1048576) (X' Y' Z' : Int) (a' : Option Addr) (n' cap' : Nat) (f' : Nat → Int) (hl' : n' ≤ 1048576) (r : Int) (w : World) (hTb : Tbl w) (h : Px a n f w) (h' : Px a' n' f' w) :
    Calls Tryd.prog 10 #[vVolume X Y Z a n cap, vVolume X' Y' Z' a' n' cap', .int .i64 r] w fun e w' => e = .returned (vF (matV X Y Z n f X' Y' Z' n' f' r)) ∧ Below w.heap.size w w' := by
  have HS0 := hide ((((St.start w).box [.int .i64 X, .int .i64 Y, .int .i64 Z, .slice a n cap] 26).box' [.int .i64 X', .int .i64 Y', .int .i64 Z', .slice a' n' cap'] 26 (b := w.heap.size + 1) (by simp)).box' [.int .i64 0, .int .i64 0, .int .i64 0, .int .i64 0, .int .i64 0] 34 (b := w.heap.size + 2) (by simp))
  have HP0 := hide h
  have HQ0 := hide h'
  have HTB := hide hTb
  have cL := fun w' hw hw' => areLikeCubes_any X Y Z a n cap f hl X' Y' Z' a' n' cap' f' hl' w' hw hw'
  have cI := fun w' => within_any r 0 2 w'
  clear h h' hTb
  obtain ⟨i0, i1, i2, i3⟩ := HS0.out.im4 2 rfl
  obtain ⟨j0, j1, j2, j3⟩ := HS0.out.im4 1 rfl
  go_enter Tryd.func10, Tryd.ntmps10
  go_wp2_with fail
  refine (cL _ (HP0.out.below HS0.out.below) (HQ0.out.below HS0.out.below)).mono ?_
  rintro e w1 ⟨rfl, hb⟩
  have HS1 := hide (HS0.out.next hb)
  clear hb HS0 cL i0 i1 i2 i3 j0 j1 j2 j3
  cases hlik : likB X Y Z n f X' Y' Z' n' f'
  · have HV := hide (mat_no (r := r) (show (likB X Y Z n f X' Y' Z' n' f' && inB r 0 2) = false by rw [hlik]; rfl))
    obtain ⟨g0, g1, g2, g3, g4⟩ := HS1.out.im5 0 rfl
    obtain ⟨d0, d1, d2, d3, d4⟩ := HS1.out.fr5 0 rfl
    have HE := hide (HS1.out.fill5 (L1 := []) (.int .i64 (-1)) (.int .i64 0) (.int .i64 0) (.int .i64 0) (.int .i64 (-1))).below
    clear HS1 hlik
    go_wp2_with fail
    exact bodyPost_ret (v := vF .no) (by simp [results, Tryd.results10, go_sem, g0, g1, g2, g3, g4, FT.no]) rfl ⟨by rw [HV.out], HE.out⟩
  go_wp2_with fail
  refine (cI _).mono ?_
  rintro e w2 ⟨rfl, h1⟩
  obtain rfl := h1.symm
  cases hin : inB r 0 2
  · have HV := hide (mat_no (r := r) (show (likB X Y Z n f X' Y' Z' n' f' && inB r 0 2) = false by rw [hlik, hin]; rfl))
    obtain ⟨g0, g1, g2, g3, g4⟩ := HS1.out.im5 0 rfl
    obtain ⟨d0, d1, d2, d3, d4⟩ := HS1.out.fr5 0 rfl
    have HE := hide (HS1.out.fill5 (L1 := []) (.int .i64 (-1)) (.int .i64 0) (.int .i64 0) (.int .i64 0) (.int .i64 (-1))).below
    clear HS1 hlik hin
    go_wp2_with fail
    exact bodyPost_ret (v := vF .no) (by simp [results, Tryd.results10, go_sem, g0, g1, g2, g3, g4, FT.no]) rfl ⟨by rw [HV.out], HE.out⟩
  have HV := hide (mat_yes (r := r) (show (likB X Y Z n f X' Y' Z' n' f' && inB r 0 2) = true by rw [hlik, hin]; rfl))
  have hr := inB_iffF.1 hin
  clear hin cI
  obtain ⟨hcA, hcB, hXX, hX6⟩ := lik_parts hlik
  obtain ⟨ea1, ea2, hX, hnX, hn2⟩ := cubB_parts hcA
  obtain ⟨eb1, eb2, -, hnX', -⟩ := cubB_parts hcB
  subst ea1 ea2 hXX eb1 eb2
  obtain rfl : n = n' := by omega
  have hn1 := cub_posF hcA
  have hfA := cub_in hcA
  obtain ⟨m, hm⟩ : ∃ m : Nat, (m : Int) = 2 * r + 1 := ⟨(2 * r + 1).toNat, by omega⟩
  have hm' : (2 * r + 1).toNat = m := by omega
  rw [hm'] at HV
  have HM := hide hm
  have HM1 : Hid (1 ≤ m) := by show _ ≤ _; omega
  clear hm hm' hlik hX6 hnX'
  have HFB : Hid (∀ T, T < 12 → ∀ k, k < n → -4095 ≤ tvs (tgT (tqT T) X) f' n k ∧ tvs (tgT (tqT T) X) f' n k ≤ 4095) := fun T hT => cub_in (cub_turnF (tq_ok T hT) hcB)
  have HCT : Hid (∀ T, T < 12 → ∀ a9 c9 w', Px a9 n f' w' → Calls Tryd.prog 8 #[vVolume X X X a9 n c9, tv (tbA.getD (T * 4) 0) (tbA.getD (T * 4 + 1) 0) (tbA.getD (T * 4 + 2) 0) (tbA.getD (T * 4 + 3) 0)] w' fun e w'' => ∃ b' cp', e = .returned (vVolume X X X (some ⟨b', 0, none⟩) n cp') ∧ Row b' n (tvs (tgT (tqT T) X) f' n) w'' ∧ Below w'.heap.size w' w'') := fun T hT a9 c9 w' hw => turnI_any X n f' hcB _ _ _ _ (tq_ok T hT) a9 c9 w' hw
  have HCB : Hid (∀ T, T < 12 → ∀ a9 c9 w', Px a n f w' → Px a9 n (tvs (tgT (tqT T) X) f' n) w' → Calls Tryd.prog 33 #[vVolume X X X a n cap, vVolume X X X a9 n c9, .int .i64 r] w' fun e w'' => e = .returned (vF (bx (mtC f f' X n T) 0 r m .z0 m)) ∧ Below w'.heap.size w' w'') := fun T hT a9 c9 w' hw hw' => bestShift_any X a n cap f a9 c9 _ hX hnX hn2 hfA (HFB.out T hT) r hr m HM.out w' hw hw'
  have HG : Hid (∀ T, T < 12 → ∀ x y z, 0 ≤ mtC f f' X n T x y z) := fun T hT x y z => (cst_bd hX hnX hfA (HFB.out T hT) x y z n (Nat.le_refl _)).1
  clear hcA hcB hfA HFB hnX hn2
  generalize mtC f f' X n = co at *
  have HS2 := hide (HS1.out.box (cF ⟨-1, 0, 0, 0, 0⟩) 34)
  go_upto_region 4 with fail
  generalize hw2 : w1.alloc (.cells (cF ⟨-1, 0, 0, 0, 0⟩).toArray 34) = w2 at HS2
  have hw2' : w1.alloc (.cells #[.int .i64 (-1), .int .i64 0, .int .i64 0, .int .i64 0, .int .i64 0] 34) = w2 := hw2
  try rw [hw2']
  clear hw2 hw2' HS1
  generalize w1.heap.size = Q at *
  have HR := hide (tb_range (HTB.out.below HS2.out.below (Nat.le_refl _)))
  have HIX : Hid (∀ T : Nat, T < 12 → ∀ w', (Instr.index 63 (.agg (ints tbA).toArray) (.int .i64 (T : Int))).run Tryd.prog w' = .ok (tv (tbA.getD (T * 4) 0) (tbA.getD (T * 4 + 1) 0) (tbA.getD (T * 4 + 2) 0) (tbA.getD (T * 4 + 3) 0)) w') := fun T hT w' => by
    have := tb_index T hT w'
    rw [Nat.mul_comm 4 T] at this
    exact this
  have HU := hide tb_info
  generalize hST : ints tbA = ST at HR HIX HU
  clear hST
  go_wp2_with (refine wpList_load_mid rfl 63 (.global 0) rfl 0 0 rfl ST _ HR.out tb_under rfl HU.out ?_)
  generalize ST.toArray = TA at *
  clear HR HU
  go_wp2_with fail
  go_loopw [23, 10] (fun s p wr => ∃ T : Nat, T ≤ 12 ∧ s = .int .i64 (T : Int) ∧ (∀ M, p = .pointer (some ⟨M, 0, none⟩) → M < wr.heap.size) ∧ St w [(Q, cF (mB co r m T)), (w.heap.size + 2, [.int .i64 0, .int .i64 0, .int .i64 0, .int .i64 0, .int .i64 0]), (w.heap.size + 1, [.int .i64 X, .int .i64 X, .int .i64 X, .slice a' n cap']), (w.heap.size, [.int .i64 X, .int .i64 X, .int .i64 X, .slice a n cap])] [] wr) (fun s _ _ => (12 - intOf s).toNat)
  case atStart => exact ⟨0, by omega, rfl, fun M hM => (by cases hM), HS2.out⟩
  case round =>
    obtain ⟨T, hT, rfl, hold, hs⟩ := hrel
    clear HS2
    have HS := hide hs
    by_cases hTl : T < 12
    · have hix := HIX.out T hTl
      have cT := HCT.out T hTl
      obtain ⟨t0, ht0⟩ : ∃ t0, t0 = tbA.getD (T * 4) 0 := ⟨_, rfl⟩
      obtain ⟨t1, ht1⟩ : ∃ t1, t1 = tbA.getD (T * 4 + 1) 0 := ⟨_, rfl⟩
      obtain ⟨t2, ht2⟩ : ∃ t2, t2 = tbA.getD (T * 4 + 2) 0 := ⟨_, rfl⟩
      obtain ⟨t3, ht3⟩ : ∃ t3, t3 = tbA.getD (T * 4 + 3) 0 := ⟨_, rfl⟩
      rw [← ht0, ← ht1, ← ht2, ← ht3] at hix cT
      clear ht0 ht1 ht2 ht3
      have HBN := hide (bnew wr (.cells #[.int .i64 t0, .int .i64 t1, .int .i64 t2, .int .i64 t3] 28))
      have BT : Hid (Bx wr.heap.size [.int .i64 t0, .int .i64 t1, .int .i64 t2, .int .i64 t3] (wr.alloc (.cells #[.int .i64 t0, .int .i64 t1, .int .i64 t2, .int .i64 t3] 28))) := Bx.new [.int .i64 t0, .int .i64 t1, .int .i64 t2, .int .i64 t3] 28 wr
      have HOLD : Hid (∀ M, u10 = .pointer (some ⟨M, 0, none⟩) → M < (wr.alloc (.cells #[.int .i64 t0, .int .i64 t1, .int .i64 t2, .int .i64 t3] 28)).heap.size) := fun M hM => by have := hold M hM; simp; omega
      clear hold hs
      go_upto_region 7 with fail
      generalize hwX : wr.alloc (.cells #[.int .i64 t0, .int .i64 t1, .int .i64 t2, .int .i64 t3] 28) = wX at *
      clear hwX
      have HSX := hide (HS.out.next HBN.out)
      clear HBN HS
      generalize wr.heap.size = P9 at *
      have BA : Hid (Bx w.heap.size [.int .i64 X, .int .i64 X, .int .i64 X, .slice a n cap] wX) := fun j v hv => ⟨HSX.out.cell 3 rfl j hv, HSX.out.free 3 rfl j hv⟩
      have BB : Hid (Bx (w.heap.size + 1) [.int .i64 X, .int .i64 X, .int .i64 X, .slice a' n cap'] wX) := fun j v hv => ⟨HSX.out.cell 2 rfl j hv, HSX.out.free 2 rfl j hv⟩
      have HP := hide (HP0.out.below HSX.out.below)
      have HQ := hide (HQ0.out.below HSX.out.below)
      obtain ⟨R, hR⟩ : ∃ R, R = bx (co T) 0 r m .z0 m := ⟨_, rfl⟩
      have HSTEP := hide (mB_step HG.out hTl r HM1.out hR.symm)
      obtain ⟨ft, hft⟩ : ∃ ft, ft = tvs (tgT (tqT T) X) f' n := ⟨_, rfl⟩
      have cB := HCB.out T hTl
      rw [← hft] at cT cB
      rw [← hR] at cB
      clear hft hR hix
      obtain ⟨G, hG⟩ : ∃ G : Nat → Value → Prop, G = (fun j v => match j, v with | 0, v => v = vVolume X X X a n cap | 1, v => v = vVolume X X X a' n cap' | 2, v => v = tv t0 t1 t2 t3 | 4, v => v = .int .i64 r | 5, v => v = vF R | _, _ => True) := ⟨_, rfl⟩
      have G0 : Hid (∀ v, G 0 v ↔ v = vVolume X X X a n cap) := fun v => by rw [hG]; exact Iff.rfl
      have G1 : Hid (∀ v, G 1 v ↔ v = vVolume X X X a' n cap') := fun v => by rw [hG]; exact Iff.rfl
      have G2 : Hid (∀ v, G 2 v ↔ v = tv t0 t1 t2 t3) := fun v => by rw [hG]; exact Iff.rfl
      have G3 : Hid (∀ v, G 3 v) := fun v => by rw [hG]; trivial
      have G4 : Hid (∀ v, G 4 v ↔ v = .int .i64 r) := fun v => by rw [hG]; exact Iff.rfl
      have G5 : Hid (∀ v, G 5 v ↔ v = vF R) := fun v => by rw [hG]; exact Iff.rfl
      have G6 : Hid (∀ v, G 6 v ∧ G 7 v) := fun v => by rw [hG]; exact ⟨trivial, trivial⟩
      clear hG
      refine region_opsU (mkR wX) (mkF wX X n G ft R) (by kernel_rfl) (by kernel_rfl) (by kernel_rfl) ?_ ?_ ?_
      · refine ⟨(Below.refl _ _).drew, fun M hM hMB => ?_⟩
        have := HOLD.out M (Eq.trans (Eq.symm (by kernel_rfl)) hM)
        omega
      · refine ⟨?_, ?_, ?_, ?_, ?_, ?_, ?_, ?_, trivial⟩
        · intro u w21 au hau hu hF hp' K hK
          have t3 : au.tmps[3]?.getD undef = .pointer (some ⟨w.heap.size, 0, none⟩) := by rw [hau.out]; kernel_rfl
          have bx := BA.out.below hF.1 BA.out.lt
          obtain ⟨x0, -⟩ := bx 0 _ rfl
          obtain ⟨x1, -⟩ := bx 1 _ rfl
          obtain ⟨x2, -⟩ := bx 2 _ rfl
          obtain ⟨x3, -⟩ := bx 3 _ rfl
          clear bx
          refine step_plain rfl ?_
          go_simp
          exact hK.out (vVolume X X X a n cap) _ (mkR_up hF (Below.refl _ _) 0 (by omega) _) (mkF_val 0 (by omega) (by omega) ((G0.out _).2 rfl)) (fun j hj _ h => mkF_up hn1 (Below.refl _ _) 0 (by omega) _ j hj h)
        · intro u w21 au hau hu hF hp' K hK
          have t4 : au.tmps[4]?.getD undef = .pointer (some ⟨w.heap.size + 1, 0, none⟩) := by rw [hau.out]; kernel_rfl
          have bx := BB.out.below hF.1 BB.out.lt
          obtain ⟨x0, -⟩ := bx 0 _ rfl
          obtain ⟨x1, -⟩ := bx 1 _ rfl
          obtain ⟨x2, -⟩ := bx 2 _ rfl
          obtain ⟨x3, -⟩ := bx 3 _ rfl
          clear bx
          refine step_plain rfl ?_
          go_simp
          exact hK.out (vVolume X X X a' n cap') _ (mkR_up hF (Below.refl _ _) 1 (by omega) _) (mkF_val 1 (by omega) (by omega) ((G1.out _).2 rfl)) (fun j hj _ h => mkF_up hn1 (Below.refl _ _) 1 (by omega) _ j hj h)
        · intro u w21 au hau hu hF hp' K hK
          have t9 : au.tmps[9]?.getD undef = .pointer (some ⟨P9, 0, none⟩) := by rw [hau.out]; kernel_rfl
          have bx := BT.out.below hF.1 BT.out.lt
          obtain ⟨x0, -⟩ := bx 0 _ rfl
          obtain ⟨x1, -⟩ := bx 1 _ rfl
          obtain ⟨x2, -⟩ := bx 2 _ rfl
          obtain ⟨x3, -⟩ := bx 3 _ rfl
          clear bx
          refine step_plain rfl ?_
          go_simp
          exact hK.out (tv t0 t1 t2 t3) _ (mkR_up hF (Below.refl _ _) 2 (by omega) _) (mkF_val 2 (by omega) (by omega) ((G2.out _).2 rfl)) (fun j hj _ h => mkF_up hn1 (Below.refl _ _) 2 (by omega) _ j hj h)
        · intro u w21 au hau hu hF hp' K hK
          have h1 : u 1 = vVolume X X X a' n cap' := (G1.out _).1 (PreF.get hp' 1 (by kernel_rfl)).1
          have t28 : au.tmps[28]?.getD undef = u 1 := by rw [hau.out]; kernel_rfl
          rw [h1] at t28
          have h2 : u 2 = tv t0 t1 t2 t3 := (G2.out _).1 (PreF.get hp' 2 (by kernel_rfl)).1
          have t29 : au.tmps[29]?.getD undef = u 2 := by rw [hau.out]; kernel_rfl
          rw [h2] at t29
          have c := cT a' cap' w21 (HQ.out.below hF.1)
          refine step_plain rfl ?_
          go_simp
          refine c.mono ?_
          rintro e w22 ⟨b9, c9, rfl, hr9, hb9⟩
          exact hK.out (vVolume X X X (some ⟨b9, 0, none⟩) n c9) _ (mkR_up hF hb9 3 (by omega) _) ⟨G3.out _, fun _ => .inr ⟨b9, c9, upU_same _ _ _, hr9⟩, fun e => by omega, fun e => by omega⟩ (fun j hj _ h => mkF_up hn1 hb9 3 (by omega) _ j hj h)
        · intro u w21 au hau hu hF hp' K hK
          have t2 : au.tmps[2]?.getD undef = .int .i64 r := by rw [hau.out]; kernel_rfl
          refine step_plain rfl ?_
          go_simp
          exact hK.out (.int .i64 r) _ (mkR_up hF (Below.refl _ _) 4 (by omega) _) (mkF_val 4 (by omega) (by omega) ((G4.out _).2 rfl)) (fun j hj _ h => mkF_up hn1 (Below.refl _ _) 4 (by omega) _ j hj h)
        · intro u w21 au hau hu hF hp' K hK
          have h0 : u 0 = vVolume X X X a n cap := (G0.out _).1 (PreF.get hp' 0 (by kernel_rfl)).1
          have t27 : au.tmps[27]?.getD undef = u 0 := by rw [hau.out]; kernel_rfl
          rw [h0] at t27
          have h4 : u 4 = .int .i64 r := (G4.out _).1 (PreF.get hp' 4 (by kernel_rfl)).1
          have t31 : au.tmps[31]?.getD undef = u 4 := by rw [hau.out]; kernel_rfl
          rw [h4] at t31
          have h7 : u 7 = undef := (hu.out 7 (by decide) (.inr (by kernel_rfl))).trans (by kernel_rfl)
          obtain ⟨b8, c8, h3, r8⟩ := ((PreF.get hp' 3 (by kernel_rfl)).2.1 rfl).resolve_left (fun h => h h7)
          have t30 : au.tmps[30]?.getD undef = u 3 := by rw [hau.out]; kernel_rfl
          rw [h3] at t30
          have c := cB (some ⟨b8, 0, none⟩) c8 w21 (HP.out.below hF.1) r8.px
          refine step_plain rfl ?_
          go_simp
          refine c.mono ?_
          rintro e w22 ⟨rfl, hb9⟩
          exact hK.out (vF R) _ (mkR_up hF hb9 5 (by omega) _) (mkF_val 5 (by omega) (by omega) ((G5.out _).2 rfl)) (fun j hj _ h => mkF_up hn1 hb9 5 (by omega) _ j hj h)
        · intro u w21 au hau hu hF hp' K hK
          refine step_plain rfl ?_
          go_simp
          exact hK.out (.pointer (some ⟨w21.heap.size, 0, none⟩)) _ (mkR_al hF _) ⟨(G6.out _).1, fun e => by omega, fun _ => ⟨_, upU_same _ _ _, hF.1.size⟩, fun e => by omega⟩ (fun j hj hf h => mkF_al hn1 _ _ j hj (fun e => by subst e; exact absurd (Eq.trans (Eq.symm (by kernel_rfl)) hf) Bool.false_ne_true) h)
        · intro u w21 au hau hu hF hp' K hK
          have h7 : u 7 = undef := (hu.out 7 (by decide) (.inl rfl)).trans (by kernel_rfl)
          obtain ⟨M, h6, hMB⟩ := (PreF.get hp' 6 (by kernel_rfl)).2.2.1 rfl
          have h5 : u 5 = vF R := (G5.out _).1 (PreF.get hp' 5 (by kernel_rfl)).1
          have t32 : au.tmps[32]?.getD undef = u 5 := by rw [hau.out]; kernel_rfl
          rw [h5] at t32
          have hbx := (hF.2 M h6 hMB).resolve_left (fun h => h h7)
          have t10 : au.tmps[10]?.getD undef = u 6 := by rw [hau.out]; kernel_rfl
          rw [h6] at t10
          obtain ⟨x0, y0⟩ := hbx 0 _ rfl
          obtain ⟨x1, y1⟩ := hbx 1 _ rfl
          obtain ⟨x2, y2⟩ := hbx 2 _ rfl
          obtain ⟨x3, y3⟩ := hbx 3 _ rfl
          obtain ⟨x4, y4⟩ := hbx 4 _ rfl
          refine step_plain rfl ?_
          go_simp
          exact hK.out (.bool true) _ (mkR_st hF hMB _ _ _ _ _ (by simp [undef])) ⟨(G6.out _).2, fun e => by omega, fun e => by omega, fun _ => ⟨M, (upU_other _ _ (by omega)).trans h6, hMB, hbx.to5 _ _ _ _ _⟩⟩ (fun j hj _ h => mkF_st (by simp [undef]) j hj h)
      · intro u w30 hF hall
        obtain ⟨M9, h6, hBM, bx⟩ := (hall 7 (by decide)).2.2.2 rfl
        have HF30 := hide hF.1
        have BX := hide bx
        have HBM := hide hBM
        clear hF hall bx hBM G0 G1 G2 G3 G4 G5 G6
        simp only [rgPut, Act.put, h6]
        clear h6
        go_simp
        have HS9 := hide (HSX.out.next HF30.out)
        have hQX : Q < wX.heap.size := World.block_lt_of_cell? _ _ (HSX.out.im5 0 rfl).1
        have HQM : Hid (M9 ≠ Q) := by have := HBM.out; show _ ≠ _; omega
        have HLT : Hid (∀ M, (Value.pointer (some ⟨M9, 0, none⟩)) = .pointer (some ⟨M, 0, none⟩) → M < w30.heap.size) := fun M hM => by cases hM; exact BX.out.lt
        obtain ⟨x0, -⟩ := BX.out 0 _ rfl
        obtain ⟨x1, -⟩ := BX.out 1 _ rfl
        obtain ⟨x2, -⟩ := BX.out 2 _ rfl
        obtain ⟨x3, -⟩ := BX.out 3 _ rfl
        obtain ⟨x4, -⟩ := BX.out 4 _ rfl
        clear HSX hQX BA BB BT HP HQ cT cB HF30 HOLD
        generalize mB co r m T = S at *
        obtain ⟨S0, S1, S2, S3, S4⟩ := S
        obtain ⟨R0, R1, R2, R3, R4⟩ := R
        obtain ⟨b0, b1, b2, b3, b4⟩ := HS9.out.im5 0 rfl
        obtain ⟨d0, d1, d2, d3, d4⟩ := HS9.out.fr5 0 rfl
        have HLT2 : Hid (∀ v0 v1 v2 v3 v4 v5, M9 < ((set5 w30 Q v0 v1 v2 v3 v4).setCell ⟨Q, 0, none⟩ v5).heap.size) := fun _ _ _ _ _ _ => by have := BX.out.lt; simpa using this
        have HFL := hide (St.fill (L1 := []) (HS9.out.fill5 (L1 := []) (.int .i64 R0) (.int .i64 R1) (.int .i64 R2) (.int .i64 R3) (.int .i64 R4)) 0 (.int .i64 (T : Int)))
        by_cases hc : S0 < 0
        · have HB : Hid (mB co r m (T + 1) = ⟨(T : Int), R1, R2, R3, R4⟩) := HSTEP.out.trans (if_pos (.inl hc))
          go_wp2_with fail
          exact ⟨⟨T + 1, by omega, by simp, fun M hM => (by cases hM; exact HLT2.out _ _ _ _ _ _), by rw [HB.out]; exact HFL.out⟩, by simp [intOf] <;> omega⟩
        · by_cases hl9 : R4 < S4
          · have HB : Hid (mB co r m (T + 1) = ⟨(T : Int), R1, R2, R3, R4⟩) := HSTEP.out.trans (if_pos (.inr hl9))
            go_wp2_with fail
            exact ⟨⟨T + 1, by omega, by simp, fun M hM => (by cases hM; exact HLT2.out _ _ _ _ _ _), by rw [HB.out]; exact HFL.out⟩, by simp [intOf] <;> omega⟩
          · have HB : Hid (mB co r m (T + 1) = ⟨S0, S1, S2, S3, S4⟩) := HSTEP.out.trans (if_neg (by simp; omega))
            go_wp2_with fail
            exact ⟨⟨T + 1, by omega, by simp, HLT.out, by rw [HB.out]; exact HS9.out⟩, by simp [intOf] <;> omega⟩
    · obtain rfl : T = 12 := by omega
      rw [mB_all] at HS
      clear hs hold
      generalize hRR : bt co r m 12 = R at HS
      rw [hRR] at HV
      clear hRR
      obtain ⟨R0, R1, R2, R3, R4⟩ := R
      obtain ⟨b0, b1, b2, b3, b4⟩ := HS.out.im5 0 rfl
      obtain ⟨g0, g1, g2, g3, g4⟩ := HS.out.im5 1 rfl
      obtain ⟨d0, d1, d2, d3, d4⟩ := HS.out.fr5 1 rfl
      have HE := hide (HS.out.fill5 (L1 := [_]) (.int .i64 R0) (.int .i64 R1) (.int .i64 R2) (.int .i64 R3) (.int .i64 R4)).below
      clear HS
      go_wp2_with fail
      exact bodyPost_ret (v := vF ⟨R0, R1, R2, R3, R4⟩) (by simp [results, Tryd.results10, go_sem, g0, g1, g2, g3, g4]) rfl ⟨by rw [HV.out], HE.out⟩

end Go.Proofs.YtkgkdhocmglklaaDoor

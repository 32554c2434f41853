/- Draws of two at once. -/
import Derived.Test.YtggiegfkmkaaeaaDoorDtu
import Derived.Test.YtggiegfkmkaaeaaDoorRgi
import Derived.Deep.DeepCutAuto
namespace Go.Proofs.YtggiegfkmkaaeaaDoor
open Go.RowKit

/-- numbers of 64 bits -/
def I4 (z0 z1 z2 z3 : Int) : Prop := I64 z0 ∧ I64 z1 ∧ I64 z2 ∧ I64 z3
/-- what each operation leaves: a box's four values are told, a turn is drawn, both are stored -/
def dpF (p R1 R2 : Nat) (v0 v1 v2 v3 : Value) (j : Nat) (u : Nat → Value) (w : World) : Prop :=
  match j with
  | 0 => u 0 = .agg #[v0, v1, v2, v3]
  | 1 => u 1 = .pointer (some ⟨p, 0, none⟩)
  | 2 => ∃ z0 z1 z2 z3, u 2 = tv z0 z1 z2 z3 ∧ I4 z0 z1 z2 z3
  | 3 => Bx R1 [v0, v1, v2, v3] w
  | 4 => ∃ z0 z1 z2 z3, u 2 = tv z0 z1 z2 z3 ∧ I4 z0 z1 z2 z3 ∧ Bx R2 [.int .i64 z0, .int .i64 z1, .int .i64 z2, .int .i64 z3] w
  | _ => True
/-- what stays throughout -/
structure dpR (w0 : World) (p : Nat) (a : Option Addr) (len cap R1 R2 X : Nat) (v0 v1 v2 v3 : Value) (w : World) : Prop where
  cur : Cur p a len cap w
  below : Below w0.heap.size w0 w
  x : Bx X [v0, v1, v2, v3] w
  r1 : ∃ y0 y1 y2 y3, Bx R1 [y0, y1, y2, y3] w
  r2 : ∃ y0 y1 y2 y3, Bx R2 [y0, y1, y2, y3] w
  sz : w0.heap.size + 4 ≤ w.heap.size
/-- the blocks, apart from one another -/
structure dpB (w0 : World) (p : Nat) (a : Option Addr) (len R1 R2 X : Nat) : Prop where
  r1 : R1 = w0.heap.size
  r2 : R2 = w0.heap.size + 1
  hp : p = w0.heap.size + 2
  x : w0.heap.size + 2 < X
  hab : len = 0 ∨ ∀ b off, a = some ⟨b, off, none⟩ → b < w0.heap.size
theorem dpF_stab {p R1 R2 : Nat} {v0 v1 v2 v3 : Value} {w w' : World} (u : Nat → Value) (i : Nat) (v : Value) (j : Nat) (hj : j ≠ i) (h4 : j = 4 → i ≠ 2) (k1 : ∀ vs, j = 3 → Bx R1 vs w → Bx R1 vs w') (k2 : ∀ vs, j = 4 → Bx R2 vs w → Bx R2 vs w') (h : dpF p R1 R2 v0 v1 v2 v3 j u w) : dpF p R1 R2 v0 v1 v2 v3 j (upU u i v) w' := by
  match j, hj, h, h4, k1, k2 with
  | 0, hj, h, _, _, _ => exact (upU_other u v hj).trans h
  | 1, hj, h, _, _, _ => exact (upU_other u v hj).trans h
  | 2, hj, h, _, _, _ => obtain ⟨z0, z1, z2, z3, h1, h2⟩ := h; exact ⟨z0, z1, z2, z3, (upU_other u v hj).trans h1, h2⟩
  | 3, hj, h, _, k1, _ => exact k1 _ rfl h
  | 4, hj, h, h4, _, k2 => obtain ⟨z0, z1, z2, z3, h1, h2, h3⟩ := h; exact ⟨z0, z1, z2, z3, (upU_other u v (Ne.symm (h4 rfl))).trans h1, h2, k2 _ rfl h3⟩
  | _ + 5, _, _, _, _, _ => trivial
/-- four cells of a box are written -/
abbrev set4 (w : World) (b : Nat) (x0 x1 x2 x3 : Value) : World := (((w.setCell ⟨b, 0, none⟩ x0).setCell ⟨b, 1, none⟩ x1).setCell ⟨b, 2, none⟩ x2).setCell ⟨b, 3, none⟩ x3
theorem Bx.far4 {b c : Nat} {vs : List Value} {w : World} (h : Bx b vs w) (hq : c ≠ b) (x0 x1 x2 x3 : Value) : Bx b vs (set4 w c x0 x1 x2 x3) := by
  have far : ∀ {w : World} {k : Nat} {v : Value}, Bx b vs w → Bx b vs (w.setCell ⟨c, k, none⟩ v) := fun {w k v} h j u hu => by
    have := h j u hu
    refine ⟨?_, by simpa using this.2⟩
    rw [World.cell?_setCell_other _ _ _ _ (by intro e; exact hq (congrArg Addr.block e))]
    exact this.1
  exact far (far (far (far h)))
theorem Bx.to4 {b : Nat} {y0 y1 y2 y3 : Value} {w : World} (h : Bx b [y0, y1, y2, y3] w) (x0 x1 x2 x3 : Value) : Bx b [x0, x1, x2, x3] (set4 w b x0 x1 x2 x3) := by
  have h0 := h 0 _ rfl
  have h1 := h 1 _ rfl
  have h2 := h 2 _ rfl
  have h3 := h 3 _ rfl
  intro j v hv
  match j, hv with
  | 0, hv =>
    cases hv
    refine ⟨?_, by simpa using h0.2⟩
    rw [World.cell?_setCell_other _ _ _ _ (by simp), World.cell?_setCell_other _ _ _ _ (by simp), World.cell?_setCell_other _ _ _ _ (by simp)]
    exact World.cell?_setCell_same _ _ _ h0.1
  | 1, hv =>
    cases hv
    refine ⟨?_, by simpa using h1.2⟩
    rw [World.cell?_setCell_other _ _ _ _ (by simp), World.cell?_setCell_other _ _ _ _ (by simp)]
    exact World.cell?_setCell_same _ _ _ (by rw [World.cell?_setCell_other _ _ _ _ (by simp)]; exact h1.1)
  | 2, hv =>
    cases hv
    refine ⟨?_, by simpa using h2.2⟩
    rw [World.cell?_setCell_other _ _ _ _ (by simp)]
    exact World.cell?_setCell_same _ _ _ (by rw [World.cell?_setCell_other _ _ _ _ (by simp), World.cell?_setCell_other _ _ _ _ (by simp)]; exact h2.1)
  | 3, hv =>
    cases hv
    refine ⟨?_, by simpa using h3.2⟩
    exact World.cell?_setCell_same _ _ _ (by rw [World.cell?_setCell_other _ _ _ _ (by simp), World.cell?_setCell_other _ _ _ _ (by simp), World.cell?_setCell_other _ _ _ _ (by simp)]; exact h3.1)
theorem below_set4 {B : Nat} {w0 w : World} (h : Below B w0 w) {b : Nat} (hb : B ≤ b) (x0 x1 x2 x3 : Value) : Below B w0 (set4 w b x0 x1 x2 x3) :=
  (((h.setCell (p := ⟨b, 0, none⟩) hb x0).setCell (p := ⟨b, 1, none⟩) hb x1).setCell (p := ⟨b, 2, none⟩) hb x2).setCell (p := ⟨b, 3, none⟩) hb x3
theorem Cur.box4 {p : Nat} {a : Option Addr} {len cap : Nat} {w : World} (h : Cur p a len cap w) {b : Nat} (hb : b ≠ p) (hab : len = 0 ∨ ∀ b' off, a = some ⟨b', off, none⟩ → b' ≠ b) (x0 x1 x2 x3 : Value) : Cur p a len cap (set4 w b x0 x1 x2 x3) := by
  have one : ∀ {w : World} {k : Nat} {v : Value}, Cur p a len cap w → Cur p a len cap (w.setCell ⟨b, k, none⟩ v) := fun {w k v} h => by
    obtain ⟨h0, ⟨i, hi, h1⟩, ⟨y, h2⟩, f1, f2, hs, hby⟩ := h
    have f : ∀ (q : Addr) (u : Value), q.block ≠ b → w.cell? q = some u → (w.setCell ⟨b, k, none⟩ v).cell? q = some u := fun q u hq hu => by
      rw [World.cell?_setCell_other _ _ _ _ (by intro e; exact hq (by rw [← e]))]; exact hu
    refine ⟨f _ _ (Ne.symm hb) h0, ⟨i, hi, f _ _ (Ne.symm hb) h1⟩, ⟨y, f _ _ (Ne.symm hb) h2⟩, by simpa using f1, by simpa using f2, hs, ?_⟩
    rcases hby with hby | ⟨b', off, ha, hne, hby⟩
    · exact .inl hby
    · rcases hab with h0 | hab
      · exact .inl h0
      · refine .inr ⟨b', off, ha, hne, fun k hk => ?_⟩
        obtain ⟨z, z0, z1, hz⟩ := hby k hk
        exact ⟨z, z0, z1, f _ _ (hab b' off ha) hz⟩
  exact one (one (one (one h)))

theorem dpR.set {w0 : World} {p : Nat} {a : Option Addr} {len cap R1 R2 X : Nat} {v0 v1 v2 v3 : Value} {w : World} (h : dpR w0 p a len cap R1 R2 X v0 v1 v2 v3 w) (hB : dpB w0 p a len R1 R2 X) {R : Nat} (hR : R = R1 ∨ R = R2) (x0 x1 x2 x3 : Value) : dpR w0 p a len cap R1 R2 X v0 v1 v2 v3 (set4 w R x0 x1 x2 x3) := by
  obtain ⟨e1, e2, e3, e4, e5⟩ := hB
  have hR0 : w0.heap.size ≤ R ∧ R ≠ p ∧ R ≠ X := by rcases hR with rfl | rfl <;> omega
  refine ⟨h.cur.box4 hR0.2.1 (e5.imp id fun h b off e => by have := h b off e; omega) _ _ _ _, below_set4 h.below hR0.1 _ _ _ _, h.x.far4 hR0.2.2 _ _ _ _, ?_, ?_, by simpa using h.sz⟩
  · obtain ⟨y0, y1, y2, y3, hy⟩ := h.r1
    by_cases e : R = R1
    · subst e; exact ⟨_, _, _, _, hy.to4 x0 x1 x2 x3⟩
    · exact ⟨_, _, _, _, hy.far4 e x0 x1 x2 x3⟩
  · obtain ⟨y0, y1, y2, y3, hy⟩ := h.r2
    by_cases e : R = R2
    · subst e; exact ⟨_, _, _, _, hy.to4 x0 x1 x2 x3⟩
    · exact ⟨_, _, _, _, hy.far4 e x0 x1 x2 x3⟩
theorem dpR.drew {w0 : World} {p : Nat} {a : Option Addr} {len cap R1 R2 X : Nat} {v0 v1 v2 v3 : Value} {w : World} (h : dpR w0 p a len cap R1 R2 X v0 v1 v2 v3 w) : dpR w0 p a len cap R1 R2 X v0 v1 v2 v3 w.drew :=
  ⟨h.cur.drewN 1, h.below.drew, h.x, h.r1, h.r2, h.sz⟩
theorem dpR.step {w0 : World} {p : Nat} {a : Option Addr} {len cap R1 R2 X : Nat} {v0 v1 v2 v3 : Value} {w w' : World} (h : dpR w0 p a len cap R1 R2 X v0 v1 v2 v3 w) (hB : dpB w0 p a len R1 R2 X) (hc : Cur p a len cap w') (hk : Kept p w w') : dpR w0 p a len cap R1 R2 X v0 v1 v2 v3 w' := by
  obtain ⟨e1, e2, e3, e4, e5⟩ := hB
  have hs := h.below.size
  refine ⟨hc, h.below.trans (hk.below (by omega) hs), h.x.kept hk (by omega), ?_, ?_, Nat.le_trans h.sz hk.size⟩
  · obtain ⟨y0, y1, y2, y3, hy⟩ := h.r1; exact ⟨_, _, _, _, hy.kept hk (by omega)⟩
  · obtain ⟨y0, y1, y2, y3, hy⟩ := h.r2; exact ⟨_, _, _, _, hy.kept hk (by omega)⟩

theorem bytes_lt {a : Option Addr} {len : Nat} {w : World} (h : Bytes a len w) {B : Nat} (hB : w.heap.size ≤ B) : len = 0 ∨ ∀ b off, a = some ⟨b, off, none⟩ → b < B := by
  by_cases h0 : len = 0
  · exact .inl h0
  · refine .inr fun b off e => ?_
    rcases h.2 with h1 | ⟨b', off', ha, hb⟩
    · exact absurd h1 h0
    · obtain ⟨z, _, _, hz⟩ := hb 0 (by omega)
      rw [e] at ha
      cases ha
      exact Nat.lt_of_lt_of_le (World.block_lt_of_cell? w _ hz) hB

/-- two turns are drawn -/
def DrM (w : World) (e : Ending) (w' : World) : Prop :=
  ∃ x0 x1 x2 x3 y0 y1 y2 y3 : Int, e = .returned (.tuple #[tv x0 x1 x2 x3, tv y0 y1 y2 y3]) ∧ I4 x0 x1 x2 x3 ∧ I4 y0 y1 y2 y3 ∧ Below w.heap.size w w'

theorem I4.of {z0 z1 z2 z3 : Int} (h0 : -2 ≤ z0 ∧ z0 ≤ 2) (h1 : -9223372036854775808 ≤ z1 ∧ z1 ≤ 9223372036854775807) (h2 : -2 ≤ z2 ∧ z2 ≤ 2) (h3 : -2 ≤ z3 ∧ z3 ≤ 2) : I4 z0 z1 z2 z3 := by
  unfold I4 I64; omega

set_option maxRecDepth 100000 in
set_option maxHeartbeats 2000000 in
theorem drawTurnMul_any (a : Option Addr) (len cap : Nat) (w : World) (h : Bytes a len w) :
    Calls Tryd.prog 11 #[.slice a len cap] w (DrM w) := by
  have HAB := hide (bytes_lt h (B := w.heap.size) (Nat.le_refl _))
  obtain ⟨w1, hw1⟩ : ∃ w1, w1 = (w.alloc (cTurn 0 0 0 0 30)).alloc (cTurn 0 0 0 0 30) := ⟨_, rfl⟩
  have hb1 : Below w.heap.size w w1 := by rw [hw1]; exact (bnew _ _).alloc (by simp) _
  have hs1 : w1.heap.size = w.heap.size + 2 := by rw [hw1]; simp
  have r1 : Bx w.heap.size [.int .i64 0, .int .i64 0, .int .i64 0, .int .i64 0] w1 := by
    rw [hw1]; exact (Bx.new [.int .i64 0, .int .i64 0, .int .i64 0, .int .i64 0] 30 w).below (bnew _ _) (by simp)
  have r2 : Bx (w.heap.size + 1) [.int .i64 0, .int .i64 0, .int .i64 0, .int .i64 0] w1 := by
    rw [hw1]
    have := Bx.new [.int .i64 0, .int .i64 0, .int .i64 0, .int .i64 0] 30 (w.alloc (cTurn 0 0 0 0 30))
    rwa [show (w.alloc (cTurn 0 0 0 0 30)).heap.size = w.heap.size + 1 by simp] at this
  have hy1 := h.below hb1
  have hn := new_any a len cap w1 hy1
  have HBY := hide hy1
  have HB1 := hide hb1
  have HR1 := hide r1
  have HR2 := hide r2
  have HS1 := hide hs1
  clear h hb1 r1 r2 hs1 hy1
  go_enter Tryd.func11, Tryd.ntmps11
  go_upto_region 1 with fail
  rw [← hw1]
  clear hw1
  go_wp2_with fail
  refine hn.mono ?_
  rintro e w2 ⟨x, rfl, rfl⟩
  have hc := cur_new a len cap w1 HBY.out x
  have hb2 := bnew w1 (.cells #[.slice a len cap, .int .i64 0, .int .i64 x] 71)
  have hs2 : (w1.alloc (.cells #[.slice a len cap, .int .i64 0, .int .i64 x] 71)).heap.size = w.heap.size + 3 := by have := HS1.out; simp; omega
  have hs1 := HS1.out
  have HB2 := hide (HB1.out.trans (hb2.mono (by omega)))
  have HR1' := hide (HR1.out.below hb2 (by omega))
  have HR2' := hide (HR2.out.below hb2 (by omega))
  have HC2 := hide hc
  have HS2 := hide hs2
  rw [hs1] at HC2
  rw [hs1]
  clear hn hc hb2 hs2 hs1 HBY HB1 HR1 HR2 HS1
  generalize hw2 : w1.alloc (.cells #[.slice a len cap, .int .i64 0, .int .i64 x] 71) = w2 at *
  clear hw2
  obtain ⟨p, hp⟩ : ∃ p, p = w.heap.size + 2 := ⟨_, rfl⟩
  rw [← hp] at HC2
  rw [← hp]
  have hpp : p < w2.heap.size := by have := HS2.out; omega
  have cD := fun w' h h1 h2 => l10DrawAny_any p a len cap w' h h1 h2
  have HP := hide hp
  have c1 := cD w2 HC2.out hpp (HAB.out.imp id fun h b off e => by have := h b off e; have := HS2.out; omega)
  clear hp
  go_wp2_with fail
  refine c1.mono ?_
  rintro e w3 ⟨y0, y1, y2, y3, rfl, b0, b1, b2, b3, hc, hk⟩
  have hb3 := bnew w3 (cTurn y0 y1 y2 y3 30)
  have hz := hk.size
  have hs2 := HS2.out
  have hp := HP.out
  have HBp : Hid (dpB w p a len w.heap.size (w.heap.size + 1) w3.heap.size) := ⟨rfl, rfl, hp, by omega, HAB.out⟩
  have HD : Hid (dpR w p a len cap w.heap.size (w.heap.size + 1) w3.heap.size (.int .i64 y0) (.int .i64 y1) (.int .i64 y2) (.int .i64 y3) (w3.alloc (cTurn y0 y1 y2 y3 30))) :=
    ⟨hc.below hb3, (HB2.out.trans (hk.below (by omega) (by omega))).trans (hb3.mono (by omega)), Bx.new [.int .i64 y0, .int .i64 y1, .int .i64 y2, .int .i64 y3] 30 w3,
      ⟨_, _, _, _, (HR1'.out.kept hk (by omega)).below hb3 (by omega)⟩, ⟨_, _, _, _, (HR2'.out.kept hk (by omega)).below hb3 (by omega)⟩, by simp; omega⟩
  have HI4 := hide (I4.of b0 b1 b2 b3)
  clear c1 hc hk hb3 hz hs2 hp b0 b1 b2 b3 HB2 HR1' HR2' HC2 HS2 hpp
  go_upto_region 3 with fail
  generalize hw4 : w3.alloc (cTurn y0 y1 y2 y3 30) = w4 at *
  clear hw4
  generalize w3.heap.size = X at *
  generalize hR2 : w.heap.size + 1 = R2 at *
  have HR2 := hide hR2
  clear hR2
  refine region_ops (dpR w p a len cap w.heap.size R2 X (.int .i64 y0) (.int .i64 y1) (.int .i64 y2) (.int .i64 y3)) (dpF p w.heap.size R2 (.int .i64 y0) (.int .i64 y1) (.int .i64 y2) (.int .i64 y3)) (by kernel_rfl) (by kernel_rfl) (by kernel_rfl) ?_ ?_ ?_
  · exact HD.out.drew
  · refine ⟨?_, ?_, ?_, ?_, ?_, trivial⟩
    · intro u w5 au hau _ hF hp' K hK
      obtain ⟨x0, -⟩ := hF.x 0 _ rfl
      obtain ⟨x1, -⟩ := hF.x 1 _ rfl
      obtain ⟨x2, -⟩ := hF.x 2 _ rfl
      obtain ⟨x3, -⟩ := hF.x 3 _ rfl
      have t5 : au.tmps[5]?.getD undef = .pointer (some ⟨X, 0, none⟩) := by rw [hau.out]; kernel_rfl
      refine step_plain rfl ?_
      go_simp
      exact hK.out (tv y0 y1 y2 y3) _ hF (upU_same _ _ _) (fun j hj _ h => dpF_stab u 0 _ j hj (by omega) (fun _ _ h => h) (fun _ _ h => h) h)
    · intro u w5 au hau _ hF hp' K hK
      have t4 : au.tmps[4]?.getD undef = .pointer (some ⟨p, 0, none⟩) := by rw [hau.out]; kernel_rfl
      refine step_plain rfl ?_
      go_simp
      exact hK.out (.pointer (some ⟨p, 0, none⟩)) _ hF (upU_same _ _ _) (fun j hj _ h => dpF_stab u 1 _ j hj (by omega) (fun _ _ h => h) (fun _ _ h => h) h)
    · intro u w5 au hau _ hF hp' K hK
      obtain ⟨h1, -⟩ := hp'
      have h1' : u 1 = .pointer (some ⟨p, 0, none⟩) := h1
      have t11 : au.tmps[11]?.getD undef = u 1 := by rw [hau.out]; kernel_rfl
      rw [h1'] at t11
      have c := cD w5 hF.cur (by have := hF.sz; have := HBp.out.hp; omega) (HAB.out.imp id fun h b off e => by have := h b off e; have := hF.sz; omega)
      refine step_plain rfl ?_
      go_simp
      refine c.mono ?_
      rintro e w6 ⟨z0, z1, z2, z3, rfl, b0, b1, b2, b3, hc, hk⟩
      exact hK.out (tv z0 z1 z2 z3) _ (hF.step HBp.out hc hk) ⟨z0, z1, z2, z3, upU_same _ _ _, I4.of b0 b1 b2 b3⟩ (fun j hj hf h => dpF_stab u 2 _ j hj (fun e => by subst e; exact absurd (Eq.trans (Eq.symm (by kernel_rfl)) hf) Bool.false_ne_true) (fun _ _ h => h.kept hk (by have := HBp.out.hp; omega)) (fun _ _ h => h.kept hk (by have := HBp.out.hp; have := HBp.out.r2; omega)) h)
    · intro u w5 au hau _ hF hp' K hK
      have h0 : u 0 = tv y0 y1 y2 y3 := PreF.get hp' 0 (by kernel_rfl)
      have t2 : au.tmps[2]?.getD undef = .pointer (some ⟨w.heap.size, 0, none⟩) := by rw [hau.out]; kernel_rfl
      have t10 : au.tmps[10]?.getD undef = u 0 := by rw [hau.out]; kernel_rfl
      rw [h0] at t10
      obtain ⟨q0, q1, q2, q3, hq⟩ := hF.r1
      obtain ⟨x0, f0⟩ := hq 0 _ rfl
      obtain ⟨x1, f1⟩ := hq 1 _ rfl
      obtain ⟨x2, f2⟩ := hq 2 _ rfl
      obtain ⟨x3, f3⟩ := hq 3 _ rfl
      refine step_plain rfl ?_
      go_simp
      exact hK.out undef _ (hF.set HBp.out (.inl rfl) _ _ _ _) (hq.to4 _ _ _ _) (fun j hj _ h => dpF_stab u 3 _ j hj (by omega) (fun _ e => absurd e hj) (fun _ _ h => h.far4 (by have := HBp.out.r2; omega) _ _ _ _) h)
    · intro u w5 au hau _ hF hp' K hK
      obtain ⟨z0, z1, z2, z3, h2, hz⟩ : ∃ z0 z1 z2 z3, u 2 = tv z0 z1 z2 z3 ∧ I4 z0 z1 z2 z3 := PreF.get hp' 2 (by kernel_rfl)
      have t3 : au.tmps[3]?.getD undef = .pointer (some ⟨R2, 0, none⟩) := by rw [hau.out]; kernel_rfl
      have t12 : au.tmps[12]?.getD undef = u 2 := by rw [hau.out]; kernel_rfl
      rw [h2] at t12
      obtain ⟨q0, q1, q2, q3, hq⟩ := hF.r2
      obtain ⟨x0, f0⟩ := hq 0 _ rfl
      obtain ⟨x1, f1⟩ := hq 1 _ rfl
      obtain ⟨x2, f2⟩ := hq 2 _ rfl
      obtain ⟨x3, f3⟩ := hq 3 _ rfl
      have HZ := hide hz
      clear hz
      refine step_plain rfl ?_
      go_simp
      exact hK.out undef _ (hF.set HBp.out (.inr rfl) _ _ _ _) ⟨z0, z1, z2, z3, (upU_other _ _ (by omega)).trans h2, HZ.out, hq.to4 _ _ _ _⟩ (fun j hj _ h => dpF_stab u 4 _ j hj (by omega) (fun _ _ h => h.far4 (by have := HBp.out.r2; omega) _ _ _ _) (fun _ e => absurd e hj) h)
  · intro u w5 hF hall
    obtain ⟨x0, f0⟩ := (hall 3 (by decide) : Bx _ _ _) 0 _ rfl
    obtain ⟨x1, f1⟩ := (hall 3 (by decide) : Bx _ _ _) 1 _ rfl
    obtain ⟨x2, f2⟩ := (hall 3 (by decide) : Bx _ _ _) 2 _ rfl
    obtain ⟨x3, f3⟩ := (hall 3 (by decide) : Bx _ _ _) 3 _ rfl
    obtain ⟨z0, z1, z2, z3, h2, hz, hq⟩ : ∃ z0 z1 z2 z3, u 2 = tv z0 z1 z2 z3 ∧ I4 z0 z1 z2 z3 ∧ Bx R2 [.int .i64 z0, .int .i64 z1, .int .i64 z2, .int .i64 z3] w5 := hall 4 (by decide)
    obtain ⟨g0, d0⟩ := hq 0 _ rfl
    obtain ⟨g1, d1⟩ := hq 1 _ rfl
    obtain ⟨g2, d2⟩ := hq 2 _ rfl
    obtain ⟨g3, d3⟩ := hq 3 _ rfl
    have HZ := hide hz
    have HE := hide hF.below
    clear hF hall hq hz HD
    simp only [rgPut, Act.put]
    go_simp
    go_wp2_with fail
    exact bodyPost_ret (v := .tuple #[tv y0 y1 y2 y3, tv z0 z1 z2 z3]) (by simp [results, Tryd.results11, go_sem, x0, x1, x2, x3, g0, g1, g2, g3]) rfl ⟨y0, y1, y2, y3, z0, z1, z2, z3, rfl, HI4.out, HZ.out, HE.out⟩

end Go.Proofs.YtggiegfkmkaaeaaDoor

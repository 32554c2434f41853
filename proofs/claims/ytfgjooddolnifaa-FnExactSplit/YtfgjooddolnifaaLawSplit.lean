/- The law on Split, walked. -/
import Derived.Test.YtfgjooddolnifaaSpl
namespace Go.Proofs.Ytfgjooddolnifaa
open Ieee Go.RowKit
attribute [local go_sem] run_store_float alloc_drewN setCell_drewN shape?_drewN

/-- both arguments in their boxes; what lies below B is as it was -/
def Lp (n a b c d B : Nat) (w1 w : World) : Prop :=
  w.cell? ⟨n, 0, none⟩ = some (.float .f64 a) ∧ w.cell? ⟨n, 1, none⟩ = some (.float .f64 b) ∧ w.cell? ⟨n + 1, 0, none⟩ = some (.float .f64 c) ∧ w.cell? ⟨n + 1, 1, none⟩ = some (.float .f64 d) ∧ B ≤ w.heap.size ∧ Below B w1 w ∧ n + 2 ≤ B
theorem Lp.step {n a b c d B : Nat} {w1 w w' : World} (hb : Below w.heap.size w w') (h : Lp n a b c d B w1 w) : Lp n a b c d B w1 w' := by
  obtain ⟨h1, h2, h3, h4, hs, hB, hn⟩ := h
  have g : ∀ k j, k < n + 2 → w'.cell? ⟨k, j, none⟩ = w.cell? ⟨k, j, none⟩ := fun k j hk => hb.cell (p := ⟨k, j, none⟩) (by show k < _; omega)
  exact ⟨(g _ _ (by omega)).trans h1, (g _ _ (by omega)).trans h2, (g _ _ (by omega)).trans h3, (g _ _ (by omega)).trans h4, Nat.le_trans hs hb.size, hB.trans (hb.mono hs), hn⟩
theorem Lp.alloc {n a b c d B : Nat} {w1 w : World} (h : Lp n a b c d B w1 w) (o : Obj) : Lp n a b c d B w1 (w.alloc o) := h.step (bnew _ _)
theorem Lp.drew {n a b c d B : Nat} {w1 w : World} (h : Lp n a b c d B w1 w) : Lp n a b c d B w1 w.drew := h.step (Below.refl _ _).drew
theorem Lp.set {n a b c d B k j : Nat} {w1 w : World} {v : Value} (h : Lp n a b c d B w1 w) (hk : B ≤ k) : Lp n a b c d B w1 (w.setCell ⟨k, j, none⟩ v) := by
  obtain ⟨h1, h2, h3, h4, hs, hB, hn⟩ := h
  have o : ∀ q i : Nat, q < n + 2 → (w.setCell ⟨k, j, none⟩ v).cell? ⟨q, i, none⟩ = w.cell? ⟨q, i, none⟩ := fun q i hq => World.cell?_setCell_other w _ _ _ (by simp; try omega)
  exact ⟨(o _ _ (by omega)).trans h1, (o _ _ (by omega)).trans h2, (o _ _ (by omega)).trans h3, (o _ _ (by omega)).trans h4, by simpa using hs, hB.setCell (by show B ≤ k; omega) _, hn⟩
theorem Lp.start (a b c d : Nat) (T : TypeId) (w : World) : Lp w.heap.size a b c d (w.heap.size + 2) ((w.alloc (.cells #[.float .f64 a, .float .f64 b] T)).alloc (.cells #[.float .f64 c, .float .f64 d] T)) ((w.alloc (.cells #[.float .f64 a, .float .f64 b] T)).alloc (.cells #[.float .f64 c, .float .f64 d] T)) := by
  refine ⟨?_, ?_, ?_, ?_, ?_, Below.refl _ _, Nat.le_refl _⟩ <;> simp [go_sem]
/-- from here on -/
theorem Lp.anew {n a b c d B : Nat} {w1 w : World} (h : Lp n a b c d B w1 w) : Lp n a b c d w.heap.size w w :=
  ⟨h.1, h.2.1, h.2.2.1, h.2.2.2.1, Nat.le_refl _, Below.refl _ _, Nat.le_trans h.2.2.2.2.2.2 h.2.2.2.2.1⟩
/-- a pair in a box -/
def Pc (b p q : Nat) (w : World) : Prop := w.cell? ⟨b, 0, none⟩ = some (.float .f64 p) ∧ w.cell? ⟨b, 1, none⟩ = some (.float .f64 q)
theorem Pc.below {b p q B : Nat} {w w' : World} (h : Pc b p q w) (hb : Below B w w') (hl : b < B) : Pc b p q w' :=
  ⟨(hb.cell (p := ⟨b, 0, none⟩) hl).trans h.1, (hb.cell (p := ⟨b, 1, none⟩) hl).trans h.2⟩
/-- what Split's answers are -/
def SplitV (a b c d p q r s : Nat) : Prop :=
  ∃ x y z t, Res .add a c x ∧ Res .add b d y ∧ Res .mul x 4602678819172646912 p ∧ Res .mul y 4602678819172646912 q ∧ Res .add a (fneg c) z ∧ Res .add b (fneg d) t ∧ Res .mul z 4602678819172646912 r ∧ Res .mul t 4602678819172646912 s
theorem SplitV.same {a b c d p q r s p' q' r' s' : Nat} (h : SplitV a b c d p q r s) (h' : SplitV a b c d p' q' r' s') : same p p' ∧ same q q' ∧ same r r' ∧ same s s' := by
  obtain ⟨x, y, z, t, m1, m2, m3, m4, m5, m6, m7, m8⟩ := h
  obtain ⟨x', y', z', t', k1, k2, k3, k4, k5, k6, k7, k8⟩ := h'
  exact ⟨m3.congr aMul (m1.congr aAdd (same_rfl _) (same_rfl _) k1) (same_rfl _) k3, m4.congr aMul (m2.congr aAdd (same_rfl _) (same_rfl _) k2) (same_rfl _) k4,
    m7.congr aMul (m5.congr aAdd (same_rfl _) (same_rfl _) k5) (same_rfl _) k7, m8.congr aMul (m6.congr aAdd (same_rfl _) (same_rfl _) k6) (same_rfl _) k8⟩
theorem alloc_there (w : World) (o : Obj) (a : Addr) (h : (w.cell? a).isSome = true) : (w.alloc o).cell? a = w.cell? a := by
  obtain ⟨v, hv⟩ := Option.isSome_iff_exists.1 h
  exact World.cell?_alloc_lt w o a (World.block_lt_of_cell? w _ hv)
theorem alloc_froz (w : World) (o : Obj) (a : Addr) (h : (w.cell? a).isSome = true) : (w.alloc o).frozen? a = w.frozen? a := by
  obtain ⟨v, hv⟩ := Option.isSome_iff_exists.1 h
  exact (bnew w o).frozen (World.block_lt_of_cell? w _ hv)
attribute [local go_sem] alloc_there alloc_froz

set_option maxHeartbeats 40000000 in
theorem fnExactSplit_walk (a b c d : Nat) (w : World) :
    Calls Try.prog 6 #[cx a b, cx c d] w fun e w' => e = .returned (.bool true) ∧ Below w.heap.size w w' := by
  have H0 := hide (Lp.start a b c d 49 w)
  have cS := specSplit_any a b c d
  have cI := implSplit_any a b c d
  go_enter Try.func6, Try.ntmps6
  go_upto_region 1 with fail
  go_cut [5, 6] (fun sx sy wc => ∃ bx bY p q r s, sx = .pointer (some ⟨bx, 0, none⟩) ∧ sy = .pointer (some ⟨bY, 0, none⟩) ∧ Pc bx p q wc ∧ Pc bY r s wc ∧ SplitV a b c d p q r s ∧ Lp w.heap.size a b c d (w.heap.size + 2) ((w.alloc (.cells #[.float .f64 a, .float .f64 b] 49)).alloc (.cells #[.float .f64 c, .float .f64 d] 49)) wc)
  case first =>
    go_region_held (fun w' => w'.cell? ⟨w.heap.size, 0, none⟩ = some (.float .f64 a) ∧ w'.cell? ⟨w.heap.size, 1, none⟩ = some (.float .f64 b) ∧ w'.cell? ⟨w.heap.size + 1, 0, none⟩ = some (.float .f64 c) ∧ w'.cell? ⟨w.heap.size + 1, 1, none⟩ = some (.float .f64 d) ∧ w.heap.size + 2 ≤ w'.heap.size ∧ Below (w.heap.size + 2) ((w.alloc (.cells #[.float .f64 a, .float .f64 b] 49)).alloc (.cells #[.float .f64 c, .float .f64 d] 49)) w' ∧ w.heap.size + 2 ≤ w.heap.size + 2)
      ((show Lp w.heap.size a b c d (w.heap.size + 2) ((w.alloc (.cells #[.float .f64 a, .float .f64 b] 49)).alloc (.cells #[.float .f64 c, .float .f64 d] 49)) _; (repeat (first | with_reducible exact H0.out | with_reducible exact HSs.out | with_reducible refine Lp.alloc ?_ _ | with_reducible refine Lp.drew ?_ | with_reducible refine Lp.set ?_ (by first | omega | (simp; try omega)))); done))
      (first
        | (go_at_call 28; refine (toCx_exact _ _ _).mono ?_; rintro e wt ⟨rfl, rfl⟩)
        | (go_at_call 27; (with_reducible refine (cS _).mono ?_); rintro e wS ⟨p, q, r, s, x, y, z, t, rfl, m1, m2, m3, m4, m5, m6, m7, m8, hbS⟩; obtain ⟨qs1, qs2⟩ := bcell hbS; have u2 := qs1 (w.heap.size + 2) 0; (try simp [go_sem] at u2); (first | (guard_hyp u2 : wS.cell? ⟨w.heap.size + 2, 0, none⟩ = some (Value.float FloatKind.f64 0); have v2 := qs1 (w.heap.size + 2) 1; simp [go_sem] at v2; have s2 := qs2 (w.heap.size + 2) 0; simp [go_sem] at s2; have t2 := qs2 (w.heap.size + 2) 1; simp [go_sem] at t2; have y2 : ¬ w.heap.size + 2 = wS.heap.size := Nat.ne_of_lt (World.block_lt_of_cell? wS ⟨w.heap.size + 2, 0, none⟩ u2); have x2 : ¬ wS.heap.size = w.heap.size + 2 := fun h => y2 h.symm) | clear u2 | skip); have u3 := qs1 (w.heap.size + 3) 0; (try simp [go_sem] at u3); (first | (guard_hyp u3 : wS.cell? ⟨w.heap.size + 3, 0, none⟩ = some (Value.float FloatKind.f64 0); have v3 := qs1 (w.heap.size + 3) 1; simp [go_sem] at v3; have s3 := qs2 (w.heap.size + 3) 0; simp [go_sem] at s3; have t3 := qs2 (w.heap.size + 3) 1; simp [go_sem] at t3; have y3 : ¬ w.heap.size + 3 = wS.heap.size := Nat.ne_of_lt (World.block_lt_of_cell? wS ⟨w.heap.size + 3, 0, none⟩ u3); have x3 : ¬ wS.heap.size = w.heap.size + 3 := fun h => y3 h.symm) | clear u3 | skip); have u4 := qs1 (w.heap.size + 4) 0; (try simp [go_sem] at u4); (first | (guard_hyp u4 : wS.cell? ⟨w.heap.size + 4, 0, none⟩ = some (Value.float FloatKind.f64 0); have v4 := qs1 (w.heap.size + 4) 1; simp [go_sem] at v4; have s4 := qs2 (w.heap.size + 4) 0; simp [go_sem] at s4; have t4 := qs2 (w.heap.size + 4) 1; simp [go_sem] at t4; have y4 : ¬ w.heap.size + 4 = wS.heap.size := Nat.ne_of_lt (World.block_lt_of_cell? wS ⟨w.heap.size + 4, 0, none⟩ u4); have x4 : ¬ wS.heap.size = w.heap.size + 4 := fun h => y4 h.symm) | clear u4 | skip); have u5 := qs1 (w.heap.size + 5) 0; (try simp [go_sem] at u5); (first | (guard_hyp u5 : wS.cell? ⟨w.heap.size + 5, 0, none⟩ = some (Value.float FloatKind.f64 0); have v5 := qs1 (w.heap.size + 5) 1; simp [go_sem] at v5; have s5 := qs2 (w.heap.size + 5) 0; simp [go_sem] at s5; have t5 := qs2 (w.heap.size + 5) 1; simp [go_sem] at t5; have y5 : ¬ w.heap.size + 5 = wS.heap.size := Nat.ne_of_lt (World.block_lt_of_cell? wS ⟨w.heap.size + 5, 0, none⟩ u5); have x5 : ¬ wS.heap.size = w.heap.size + 5 := fun h => y5 h.symm) | clear u5 | skip); have u6 := qs1 (w.heap.size + 6) 0; (try simp [go_sem] at u6); (first | (guard_hyp u6 : wS.cell? ⟨w.heap.size + 6, 0, none⟩ = some (Value.float FloatKind.f64 0); have v6 := qs1 (w.heap.size + 6) 1; simp [go_sem] at v6; have s6 := qs2 (w.heap.size + 6) 0; simp [go_sem] at s6; have t6 := qs2 (w.heap.size + 6) 1; simp [go_sem] at t6; have y6 : ¬ w.heap.size + 6 = wS.heap.size := Nat.ne_of_lt (World.block_lt_of_cell? wS ⟨w.heap.size + 6, 0, none⟩ u6); have x6 : ¬ wS.heap.size = w.heap.size + 6 := fun h => y6 h.symm) | clear u6 | skip); have u7 := qs1 (w.heap.size + 7) 0; (try simp [go_sem] at u7); (first | (guard_hyp u7 : wS.cell? ⟨w.heap.size + 7, 0, none⟩ = some (Value.float FloatKind.f64 0); have v7 := qs1 (w.heap.size + 7) 1; simp [go_sem] at v7; have s7 := qs2 (w.heap.size + 7) 0; simp [go_sem] at s7; have t7 := qs2 (w.heap.size + 7) 1; simp [go_sem] at t7; have y7 : ¬ w.heap.size + 7 = wS.heap.size := Nat.ne_of_lt (World.block_lt_of_cell? wS ⟨w.heap.size + 7, 0, none⟩ u7); have x7 : ¬ wS.heap.size = w.heap.size + 7 := fun h => y7 h.symm) | clear u7 | skip); have u8 := qs1 (w.heap.size + 8) 0; (try simp [go_sem] at u8); (first | (guard_hyp u8 : wS.cell? ⟨w.heap.size + 8, 0, none⟩ = some (Value.float FloatKind.f64 0); have v8 := qs1 (w.heap.size + 8) 1; simp [go_sem] at v8; have s8 := qs2 (w.heap.size + 8) 0; simp [go_sem] at s8; have t8 := qs2 (w.heap.size + 8) 1; simp [go_sem] at t8; have y8 : ¬ w.heap.size + 8 = wS.heap.size := Nat.ne_of_lt (World.block_lt_of_cell? wS ⟨w.heap.size + 8, 0, none⟩ u8); have x8 : ¬ wS.heap.size = w.heap.size + 8 := fun h => y8 h.symm) | clear u8 | skip); have u9 := qs1 (w.heap.size + 9) 0; (try simp [go_sem] at u9); (first | (guard_hyp u9 : wS.cell? ⟨w.heap.size + 9, 0, none⟩ = some (Value.float FloatKind.f64 0); have v9 := qs1 (w.heap.size + 9) 1; simp [go_sem] at v9; have s9 := qs2 (w.heap.size + 9) 0; simp [go_sem] at s9; have t9 := qs2 (w.heap.size + 9) 1; simp [go_sem] at t9; have y9 : ¬ w.heap.size + 9 = wS.heap.size := Nat.ne_of_lt (World.block_lt_of_cell? wS ⟨w.heap.size + 9, 0, none⟩ u9); have x9 : ¬ wS.heap.size = w.heap.size + 9 := fun h => y9 h.symm) | clear u9 | skip); clear qs1 qs2; have HSs := hide (Lp.step hbS (by assumption) : Lp w.heap.size a b c d (w.heap.size + 2) ((w.alloc (.cells #[.float .f64 a, .float .f64 b] 49)).alloc (.cells #[.float .f64 c, .float .f64 d] 49)) wS); have ls := HSs.out.2.2.2.2.1; have ms := hide (⟨x, y, z, t, m1, m2, m3, m4, m5, m6, m7, m8⟩ : SplitV a b c d p q r s); clear m1 m2 m3 m4 m5 m6 m7 m8))
    all_goals
      go_wp2_with fail
      go_meet
      exact ⟨_, _, p, q, r, s, rfl, rfl, by first | (constructor <;> (simp [go_sem, *]; done)), by first | (constructor <;> (simp [go_sem, *]; done)), ms.out, by assumption⟩
  case rest =>
    obtain ⟨b5, b6, p, q, r, s, rfl, rfl, hp5, hp6, hv, hl⟩ := hcut
    have l5 : b5 < wc.heap.size := World.block_lt_of_cell? _ _ hp5.1
    have l6 : b6 < wc.heap.size := World.block_lt_of_cell? _ _ hp6.1
    have HV := hide hv
    have HL := hide hl
    have HP5 := hide hp5
    have HP6 := hide hp6
    have H1 := hide hl.anew
    obtain ⟨k1, k2, k3, k4, -⟩ := hl
    clear H0 cS hv hp5 hp6
    go_upto_region 2 with fail
    go_cut [7, 8] (fun sx sy wd => ∃ bx bY p q r s, sx = .pointer (some ⟨bx, 0, none⟩) ∧ sy = .pointer (some ⟨bY, 0, none⟩) ∧ Pc bx p q wd ∧ Pc bY r s wd ∧ SplitV a b c d p q r s ∧ Lp w.heap.size a b c d (wc.heap.size) (wc) wd)
    case first =>
      clear HV HL HP5 HP6
      go_region_held (fun w' => w'.cell? ⟨w.heap.size, 0, none⟩ = some (.float .f64 a) ∧ w'.cell? ⟨w.heap.size, 1, none⟩ = some (.float .f64 b) ∧ w'.cell? ⟨w.heap.size + 1, 0, none⟩ = some (.float .f64 c) ∧ w'.cell? ⟨w.heap.size + 1, 1, none⟩ = some (.float .f64 d) ∧ wc.heap.size ≤ w'.heap.size ∧ Below (wc.heap.size) (wc) w' ∧ w.heap.size + 2 ≤ wc.heap.size)
        ((show Lp w.heap.size a b c d (wc.heap.size) (wc) _; (repeat (first | with_reducible exact H1.out | with_reducible exact HSs.out | with_reducible refine Lp.alloc ?_ _ | with_reducible refine Lp.drew ?_ | with_reducible refine Lp.set ?_ (by first | omega | (simp; try omega)))); done))
        (first
          | (go_at_call 28; refine (toCx_exact _ _ _).mono ?_; rintro e wt ⟨rfl, rfl⟩)
          | (go_at_call 29; (with_reducible refine (cI _).mono ?_); rintro e wS ⟨p, q, r, s, x, y, z, t, rfl, m1, m2, m3, m4, m5, m6, m7, m8, hbS⟩; obtain ⟨qs1, qs2⟩ := bcell hbS; have u0 := qs1 (wc.heap.size) 0; (try simp [go_sem] at u0); (first | (guard_hyp u0 : wS.cell? ⟨wc.heap.size, 0, none⟩ = some (Value.float FloatKind.f64 0); have v0 := qs1 (wc.heap.size) 1; simp [go_sem] at v0; have s0 := qs2 (wc.heap.size) 0; simp [go_sem] at s0; have t0 := qs2 (wc.heap.size) 1; simp [go_sem] at t0; have y0 : ¬ wc.heap.size = wS.heap.size := Nat.ne_of_lt (World.block_lt_of_cell? wS ⟨wc.heap.size, 0, none⟩ u0); have x0 : ¬ wS.heap.size = wc.heap.size := fun h => y0 h.symm) | clear u0 | skip); have u1 := qs1 (wc.heap.size + 1) 0; (try simp [go_sem] at u1); (first | (guard_hyp u1 : wS.cell? ⟨wc.heap.size + 1, 0, none⟩ = some (Value.float FloatKind.f64 0); have v1 := qs1 (wc.heap.size + 1) 1; simp [go_sem] at v1; have s1 := qs2 (wc.heap.size + 1) 0; simp [go_sem] at s1; have t1 := qs2 (wc.heap.size + 1) 1; simp [go_sem] at t1; have y1 : ¬ wc.heap.size + 1 = wS.heap.size := Nat.ne_of_lt (World.block_lt_of_cell? wS ⟨wc.heap.size + 1, 0, none⟩ u1); have x1 : ¬ wS.heap.size = wc.heap.size + 1 := fun h => y1 h.symm) | clear u1 | skip); have u2 := qs1 (wc.heap.size + 2) 0; (try simp [go_sem] at u2); (first | (guard_hyp u2 : wS.cell? ⟨wc.heap.size + 2, 0, none⟩ = some (Value.float FloatKind.f64 0); have v2 := qs1 (wc.heap.size + 2) 1; simp [go_sem] at v2; have s2 := qs2 (wc.heap.size + 2) 0; simp [go_sem] at s2; have t2 := qs2 (wc.heap.size + 2) 1; simp [go_sem] at t2; have y2 : ¬ wc.heap.size + 2 = wS.heap.size := Nat.ne_of_lt (World.block_lt_of_cell? wS ⟨wc.heap.size + 2, 0, none⟩ u2); have x2 : ¬ wS.heap.size = wc.heap.size + 2 := fun h => y2 h.symm) | clear u2 | skip); have u3 := qs1 (wc.heap.size + 3) 0; (try simp [go_sem] at u3); (first | (guard_hyp u3 : wS.cell? ⟨wc.heap.size + 3, 0, none⟩ = some (Value.float FloatKind.f64 0); have v3 := qs1 (wc.heap.size + 3) 1; simp [go_sem] at v3; have s3 := qs2 (wc.heap.size + 3) 0; simp [go_sem] at s3; have t3 := qs2 (wc.heap.size + 3) 1; simp [go_sem] at t3; have y3 : ¬ wc.heap.size + 3 = wS.heap.size := Nat.ne_of_lt (World.block_lt_of_cell? wS ⟨wc.heap.size + 3, 0, none⟩ u3); have x3 : ¬ wS.heap.size = wc.heap.size + 3 := fun h => y3 h.symm) | clear u3 | skip); have u4 := qs1 (wc.heap.size + 4) 0; (try simp [go_sem] at u4); (first | (guard_hyp u4 : wS.cell? ⟨wc.heap.size + 4, 0, none⟩ = some (Value.float FloatKind.f64 0); have v4 := qs1 (wc.heap.size + 4) 1; simp [go_sem] at v4; have s4 := qs2 (wc.heap.size + 4) 0; simp [go_sem] at s4; have t4 := qs2 (wc.heap.size + 4) 1; simp [go_sem] at t4; have y4 : ¬ wc.heap.size + 4 = wS.heap.size := Nat.ne_of_lt (World.block_lt_of_cell? wS ⟨wc.heap.size + 4, 0, none⟩ u4); have x4 : ¬ wS.heap.size = wc.heap.size + 4 := fun h => y4 h.symm) | clear u4 | skip); have u5 := qs1 (wc.heap.size + 5) 0; (try simp [go_sem] at u5); (first | (guard_hyp u5 : wS.cell? ⟨wc.heap.size + 5, 0, none⟩ = some (Value.float FloatKind.f64 0); have v5 := qs1 (wc.heap.size + 5) 1; simp [go_sem] at v5; have s5 := qs2 (wc.heap.size + 5) 0; simp [go_sem] at s5; have t5 := qs2 (wc.heap.size + 5) 1; simp [go_sem] at t5; have y5 : ¬ wc.heap.size + 5 = wS.heap.size := Nat.ne_of_lt (World.block_lt_of_cell? wS ⟨wc.heap.size + 5, 0, none⟩ u5); have x5 : ¬ wS.heap.size = wc.heap.size + 5 := fun h => y5 h.symm) | clear u5 | skip); have u6 := qs1 (wc.heap.size + 6) 0; (try simp [go_sem] at u6); (first | (guard_hyp u6 : wS.cell? ⟨wc.heap.size + 6, 0, none⟩ = some (Value.float FloatKind.f64 0); have v6 := qs1 (wc.heap.size + 6) 1; simp [go_sem] at v6; have s6 := qs2 (wc.heap.size + 6) 0; simp [go_sem] at s6; have t6 := qs2 (wc.heap.size + 6) 1; simp [go_sem] at t6; have y6 : ¬ wc.heap.size + 6 = wS.heap.size := Nat.ne_of_lt (World.block_lt_of_cell? wS ⟨wc.heap.size + 6, 0, none⟩ u6); have x6 : ¬ wS.heap.size = wc.heap.size + 6 := fun h => y6 h.symm) | clear u6 | skip); have u7 := qs1 (wc.heap.size + 7) 0; (try simp [go_sem] at u7); (first | (guard_hyp u7 : wS.cell? ⟨wc.heap.size + 7, 0, none⟩ = some (Value.float FloatKind.f64 0); have v7 := qs1 (wc.heap.size + 7) 1; simp [go_sem] at v7; have s7 := qs2 (wc.heap.size + 7) 0; simp [go_sem] at s7; have t7 := qs2 (wc.heap.size + 7) 1; simp [go_sem] at t7; have y7 : ¬ wc.heap.size + 7 = wS.heap.size := Nat.ne_of_lt (World.block_lt_of_cell? wS ⟨wc.heap.size + 7, 0, none⟩ u7); have x7 : ¬ wS.heap.size = wc.heap.size + 7 := fun h => y7 h.symm) | clear u7 | skip); clear qs1 qs2; have HSs := hide (Lp.step hbS (by assumption) : Lp w.heap.size a b c d (wc.heap.size) (wc) wS); have ls := HSs.out.2.2.2.2.1; have ms := hide (⟨x, y, z, t, m1, m2, m3, m4, m5, m6, m7, m8⟩ : SplitV a b c d p q r s); clear m1 m2 m3 m4 m5 m6 m7 m8))
      all_goals
        go_wp2_with fail
        go_meet
        exact ⟨_, _, p, q, r, s, rfl, rfl, by first | (constructor <;> (simp [go_sem, *]; done)), by first | (constructor <;> (simp [go_sem, *]; done)), ms.out, by assumption⟩
    case rest =>
      obtain ⟨b7, b8, p', q', r', s', rfl, rfl, hp7, hp8, hv, hl⟩ := hcut
      have l8 : b8 < wc.heap.size := World.block_lt_of_cell? _ _ hp8.1
      have HB := hide (((((Below.refl w.heap.size w).alloc (Nat.le_refl _) _).alloc (by simp) _).trans (HL.out.2.2.2.2.2.1.mono (by omega))).trans (hl.2.2.2.2.2.1.mono (by have := HL.out.2.2.2.2.1; omega)))
      obtain ⟨e1, e2, e3, e4⟩ := hv.same HV.out
      obtain ⟨g1, g2⟩ := hp7
      obtain ⟨g3, g4⟩ := hp8
      obtain ⟨g5, g6⟩ := HP5.out.below hl.2.2.2.2.2.1 l5
      have HP6' := hide (HP6.out.below hl.2.2.2.2.2.1 l6)
      have HP8 : Hid (Pc b8 r' s' wc) := ⟨g3, g4⟩
      have E1 := hide e1
      have E2 := hide e2
      clear e1 e2 HV HL HP5 HP6 H1 k1 k2 k3 k4 hv hl cI g3 g4
      go_wp2_with fail
      refine (eqCx_any _ _ _ _ E1.out E2.out _).mono ?_
      rintro e w5 ⟨rfl, hb5⟩
      obtain ⟨g3, g4⟩ := HP8.out.below hb5 l8
      obtain ⟨g7, g8⟩ := HP6'.out.below hb5 (World.block_lt_of_cell? _ _ HP6'.out.1)
      have HB5 := hide (bnext HB.out (Nat.le_refl _) hb5)
      clear hb5 HB HP8 HP6' g1 g2 g5 g6
      go_wp2_with fail
      refine (eqCx_any _ _ _ _ e3 e4 _).mono ?_
      rintro e w6 ⟨rfl, hb6⟩
      have HB6 := hide (bnext HB5.out (Nat.le_refl _) hb6)
      clear hb6 HB5 g3 g4 g7 g8
      go_wp2_with fail
      go_ret
      exact ⟨rfl, HB6.out⟩

end Go.Proofs.Ytfgjooddolnifaa

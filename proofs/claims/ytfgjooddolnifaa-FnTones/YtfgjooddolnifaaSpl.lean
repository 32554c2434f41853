/- Water and fat: both programs of Split. -/
import Derived.Test.YtfgjooddolnifaaFad
import Derived.Test.YtfgjooddolnifaaHol
import Derived.Deep.RegionHeld
import Derived.Deep.DeepCutAuto
namespace Go.Proofs.Ytfgjooddolnifaa
open Ieee Go.RowKit
attribute [local go_sem] run_store_float run_fadd run_fsub run_fmul run_fquo run_cadd alloc_drewN setCell_drewN shape?_drewN run_fneg

theorem times_spec (a b c : Nat) (w : World) :
    Calls Try.prog 43 #[cx a b, .float .f64 c] w fun e w' => ∃ r s, e = .returned (cx r s) ∧ Below w.heap.size w w' ∧ Res .mul a c r ∧ Res .mul b c s := by
  go_enter Try.func43, Try.ntmps43
  go_wp2
  go_returns
  exact ⟨_, _, rfl, below_drewN (by go_grown) _, fval_res _ _ _ _, fval_res _ _ _ _⟩

theorem times_impl (a b c : Nat) (w : World) :
    Calls Try.prog 46 #[cx a b, .float .f64 c] w fun e w' => ∃ r s, e = .returned (cx r s) ∧ Below w.heap.size w w' ∧ Res .mul a c r ∧ Res .mul b c s := by
  go_enter Try.func46, Try.ntmps46
  go_wp2
  go_returns
  exact ⟨_, _, rfl, below_drewN (by go_grown) _, fval_res _ _ _ _, fval_res _ _ _ _⟩

/-- what the walk of Split keeps: both arguments in their boxes, room for both answers, nothing else touched -/
def Sp (n a b c d : Nat) (w0 w : World) : Prop :=
  w.cell? ⟨n, 0, none⟩ = some (.float .f64 a) ∧ w.cell? ⟨n, 1, none⟩ = some (.float .f64 b) ∧ w.cell? ⟨n + 1, 0, none⟩ = some (.float .f64 c) ∧ w.cell? ⟨n + 1, 1, none⟩ = some (.float .f64 d) ∧
  (w.cell? ⟨n + 2, 0, none⟩).isSome = true ∧ (w.cell? ⟨n + 2, 1, none⟩).isSome = true ∧ (w.cell? ⟨n + 3, 0, none⟩).isSome = true ∧ (w.cell? ⟨n + 3, 1, none⟩).isSome = true ∧
  w.frozen? ⟨n + 2, 0, none⟩ = false ∧ w.frozen? ⟨n + 2, 1, none⟩ = false ∧ w.frozen? ⟨n + 3, 0, none⟩ = false ∧ w.frozen? ⟨n + 3, 1, none⟩ = false ∧ Below n w0 w ∧ n ≤ w0.heap.size ∧ n + 4 ≤ w.heap.size
theorem Sp.step {n a b c d : Nat} {w0 w w' : World} (hb : Below w.heap.size w w') (h : Sp n a b c d w0 w) : Sp n a b c d w0 w' := by
  obtain ⟨h1, h2, h3, h4, i1, i2, i3, i4, f1, f2, f3, f4, B, hn, hs⟩ := h
  have g : ∀ k j, k < n + 4 → w'.cell? ⟨k, j, none⟩ = w.cell? ⟨k, j, none⟩ := fun k j hk => hb.cell (p := ⟨k, j, none⟩) (by show k < _; omega)
  have gf : ∀ k j, k < n + 4 → w'.frozen? ⟨k, j, none⟩ = w.frozen? ⟨k, j, none⟩ := fun k j hk => hb.frozen (p := ⟨k, j, none⟩) (by show k < _; omega)
  unfold Sp
  rw [g _ _ (by omega), g _ _ (by omega), g _ _ (by omega), g _ _ (by omega), g _ _ (by omega), g _ _ (by omega), g _ _ (by omega), g _ _ (by omega), gf _ _ (by omega), gf _ _ (by omega), gf _ _ (by omega), gf _ _ (by omega)]
  exact ⟨h1, h2, h3, h4, i1, i2, i3, i4, f1, f2, f3, f4, bnext B hn hb, hn, Nat.le_trans hs hb.size⟩
theorem Sp.set {n a b c d k j : Nat} {w0 w : World} {v : Value} (h : Sp n a b c d w0 w) (h2 : n + 2 ≤ k) (h3 : k < n + 4) : Sp n a b c d w0 (w.setCell ⟨k, j, none⟩ v) := by
  obtain ⟨e1, e2, e3, e4, i1, i2, i3, i4, f1, f2, f3, f4, B, hn, hs⟩ := h
  have o : ∀ q i : Nat, q < n + 2 → (w.setCell ⟨k, j, none⟩ v).cell? ⟨q, i, none⟩ = w.cell? ⟨q, i, none⟩ := fun q i hq => World.cell?_setCell_other w _ _ _ (by simp; try omega)
  have s : ∀ q i : Nat, (w.cell? ⟨q, i, none⟩).isSome = true → ((w.setCell ⟨k, j, none⟩ v).cell? ⟨q, i, none⟩).isSome = true := fun q i hq => by
    by_cases e : (⟨k, j, none⟩ : Addr) = ⟨q, i, none⟩
    · rw [← e] at hq ⊢
      obtain ⟨u, hu⟩ := Option.isSome_iff_exists.1 hq
      rw [World.cell?_setCell_same w _ _ hu]; rfl
    · rw [World.cell?_setCell_other w _ _ _ e]; exact hq
  exact ⟨(o _ _ (by omega)).trans e1, (o _ _ (by omega)).trans e2, (o _ _ (by omega)).trans e3, (o _ _ (by omega)).trans e4, s _ _ i1, s _ _ i2, s _ _ i3, s _ _ i4, by simpa using f1, by simpa using f2, by simpa using f3, by simpa using f4, B.setCell (by show n ≤ k; omega) _, hn, by simpa using hs⟩
theorem Sp.bel {n a b c d : Nat} {w0 w : World} (h : Sp n a b c d w0 w) : Below n w0 w := h.2.2.2.2.2.2.2.2.2.2.2.2.1
theorem Sp.drew {n a b c d : Nat} {w0 w : World} (h : Sp n a b c d w0 w) : Sp n a b c d w0 w.drew := h.step ((Below.refl _ _).drew)
theorem Sp.start (a b c d : Nat) (T : TypeId) (w : World) : Sp w.heap.size a b c d w ((((w.alloc (.cells #[.float .f64 a, .float .f64 b] T)).alloc (.cells #[.float .f64 c, .float .f64 d] T)).alloc (.cells #[.float .f64 0, .float .f64 0] T)).alloc (.cells #[.float .f64 0, .float .f64 0] T)) := by
  refine ⟨?_, ?_, ?_, ?_, ?_, ?_, ?_, ?_, ?_, ?_, ?_, ?_, ?_, Nat.le_refl _, ?_⟩
  any_goals first | (simp [go_sem]; done) | go_grown

/-- what a store of a float does to a cell that is there -/
theorem run_store_there (P : Program) (w : World) (a : Addr) (m : Mode) (k : FloatKind) (b : Nat) (h1 : (w.cell? a).isSome = true) (h2 : w.frozen? a = false) : (store a (.float k b) m).run P w = .ok () (w.setCell a (.float k b)) := by
  obtain ⟨u, hu⟩ := Option.isSome_iff_exists.1 h1
  rw [run_store_float, stored, hu, h2]; rfl

/-- what Split answers -/
def SplitR (a b c d : Nat) (w : World) (e : Ending) (w' : World) : Prop :=
  ∃ p q r s x y z t, e = .returned (.tuple #[cx p q, cx r s]) ∧ Res .add a c x ∧ Res .add b d y ∧ Res .mul x 4602678819172646912 p ∧ Res .mul y 4602678819172646912 q ∧
    Res .add a (fneg c) z ∧ Res .add b (fneg d) t ∧ Res .mul z 4602678819172646912 r ∧ Res .mul t 4602678819172646912 s ∧ Below w.heap.size w w'

attribute [-go_sem] run_store_float run_fadd run_fsub run_fmul run_fquo run_cadd run_fneg
attribute [local go_sem] run_store_there

set_option maxHeartbeats 1000000 in
theorem specSplit_any (a b c d : Nat) (w : World) : Calls Try.prog 27 #[cx a b, cx c d] w (SplitR a b c d w) := by
  have cA := add_spec_b a b c d
  have cB := add_spec_b a b (fneg c) (fneg d)
  have cT : ∀ w, Calls Try.prog 45 #[cx c d, .int .i64 2] w fun e w' => e = .returned (cx (fneg c) (fneg d)) ∧ Below w.heap.size w w' := fun w => turn_spec c d 2 w
  have HS := hide (Sp.start a b c d 34 w).drew
  go_enter Try.func27, Try.ntmps27
  go_upto_region 1 with fail
  go_region_held (fun w' => w'.cell? ⟨w.heap.size, 0, none⟩ = some (.float .f64 a) ∧ w'.cell? ⟨w.heap.size, 1, none⟩ = some (.float .f64 b) ∧ w'.cell? ⟨w.heap.size + 1, 0, none⟩ = some (.float .f64 c) ∧ w'.cell? ⟨w.heap.size + 1, 1, none⟩ = some (.float .f64 d) ∧ (w'.cell? ⟨w.heap.size + 2, 0, none⟩).isSome = true ∧ (w'.cell? ⟨w.heap.size + 2, 1, none⟩).isSome = true ∧ (w'.cell? ⟨w.heap.size + 3, 0, none⟩).isSome = true ∧ (w'.cell? ⟨w.heap.size + 3, 1, none⟩).isSome = true ∧ w'.frozen? ⟨w.heap.size + 2, 0, none⟩ = false ∧ w'.frozen? ⟨w.heap.size + 2, 1, none⟩ = false ∧ w'.frozen? ⟨w.heap.size + 3, 0, none⟩ = false ∧ w'.frozen? ⟨w.heap.size + 3, 1, none⟩ = false ∧ Below w.heap.size w w' ∧ w.heap.size ≤ w.heap.size ∧ w.heap.size + 4 ≤ w'.heap.size)
    ((first | exact HS.out | exact Sp.step (by assumption) (by assumption) | exact Sp.set (Sp.set (by assumption) (by omega) (by omega)) (by omega) (by omega)))
    (first
      | (go_at_call 44; (with_reducible refine (cA _).mono ?_); rintro e wA ⟨rA, sA, rfl, hbA, hrA, hsA⟩)
      | (go_at_call 44; (with_reducible refine (cB _).mono ?_); rintro e wB ⟨rB, sB, rfl, hbB, hrB, hsB⟩)
      | (go_at_call 45; (with_reducible refine (cT _).mono ?_); rintro e wT ⟨rfl, hbT⟩)
      | (go_at_call 43; (with_reducible refine (times_spec rA sA _ _).mono ?_); rintro e wC ⟨rC, sC, rfl, hbC, hrC, hsC⟩; obtain ⟨-, -, -, -, i1C, i2C, i3C, i4C, f1C, f2C, f3C, f4C, -⟩ := (Sp.step hbC (by assumption) : Sp w.heap.size a b c d w wC))
      | (go_at_call 43; (with_reducible refine (times_spec rB sB _ _).mono ?_); rintro e wD ⟨rD, sD, rfl, hbD, hrD, hsD⟩; obtain ⟨-, -, -, -, i1D, i2D, i3D, i4D, f1D, f2D, f3D, f4D, -⟩ := (Sp.step hbD (by assumption) : Sp w.heap.size a b c d w wD)))
  all_goals
    go_wp2_with fail
    refine bodyPost_ret (v := .tuple #[cx rC sC, cx rD sD]) ?_ rfl ⟨rC, sC, rD, sD, rA, sA, rB, sB, rfl, hrA, hsA, hrC, hsC, hrB, hsB, hrD, hsD, Sp.bel (a := a) (b := b) (c := c) (d := d) (by assumption)⟩
    simp [results, Try.results27, go_sem, *]

set_option maxHeartbeats 1000000 in
theorem implSplit_any (a b c d : Nat) (w : World) : Calls Try.prog 29 #[cx a b, cx c d] w (SplitR a b c d w) := by
  have cA := add_impl_b a b c d
  have cB := add_impl_b a b (fneg c) (fneg d)
  have cT : ∀ w, Calls Try.prog 48 #[cx c d, .int .i64 2] w fun e w' => e = .returned (cx (fneg c) (fneg d)) ∧ Below w.heap.size w w' := fun w => turn_impl c d 2 w
  have HS := hide (Sp.start a b c d 34 w).drew
  go_enter Try.func29, Try.ntmps29
  go_upto_region 1 with fail
  go_region_held (fun w' => w'.cell? ⟨w.heap.size, 0, none⟩ = some (.float .f64 a) ∧ w'.cell? ⟨w.heap.size, 1, none⟩ = some (.float .f64 b) ∧ w'.cell? ⟨w.heap.size + 1, 0, none⟩ = some (.float .f64 c) ∧ w'.cell? ⟨w.heap.size + 1, 1, none⟩ = some (.float .f64 d) ∧ (w'.cell? ⟨w.heap.size + 2, 0, none⟩).isSome = true ∧ (w'.cell? ⟨w.heap.size + 2, 1, none⟩).isSome = true ∧ (w'.cell? ⟨w.heap.size + 3, 0, none⟩).isSome = true ∧ (w'.cell? ⟨w.heap.size + 3, 1, none⟩).isSome = true ∧ w'.frozen? ⟨w.heap.size + 2, 0, none⟩ = false ∧ w'.frozen? ⟨w.heap.size + 2, 1, none⟩ = false ∧ w'.frozen? ⟨w.heap.size + 3, 0, none⟩ = false ∧ w'.frozen? ⟨w.heap.size + 3, 1, none⟩ = false ∧ Below w.heap.size w w' ∧ w.heap.size ≤ w.heap.size ∧ w.heap.size + 4 ≤ w'.heap.size)
    ((first | exact HS.out | exact Sp.step (by assumption) (by assumption) | exact Sp.set (Sp.set (by assumption) (by omega) (by omega)) (by omega) (by omega)))
    (first
      | (go_at_call 47; (with_reducible refine (cA _).mono ?_); rintro e wA ⟨rA, sA, rfl, hbA, hrA, hsA⟩)
      | (go_at_call 47; (with_reducible refine (cB _).mono ?_); rintro e wB ⟨rB, sB, rfl, hbB, hrB, hsB⟩)
      | (go_at_call 48; (with_reducible refine (cT _).mono ?_); rintro e wT ⟨rfl, hbT⟩)
      | (go_at_call 46; (with_reducible refine (times_impl rA sA _ _).mono ?_); rintro e wC ⟨rC, sC, rfl, hbC, hrC, hsC⟩; obtain ⟨-, -, -, -, i1C, i2C, i3C, i4C, f1C, f2C, f3C, f4C, -⟩ := (Sp.step hbC (by assumption) : Sp w.heap.size a b c d w wC))
      | (go_at_call 46; (with_reducible refine (times_impl rB sB _ _).mono ?_); rintro e wD ⟨rD, sD, rfl, hbD, hrD, hsD⟩; obtain ⟨-, -, -, -, i1D, i2D, i3D, i4D, f1D, f2D, f3D, f4D, -⟩ := (Sp.step hbD (by assumption) : Sp w.heap.size a b c d w wD)))
  all_goals
    go_wp2_with fail
    refine bodyPost_ret (v := .tuple #[cx rC sC, cx rD sD]) ?_ rfl ⟨rC, sC, rD, sD, rA, sA, rB, sB, rfl, hrA, hsA, hrC, hsC, hrB, hsB, hrD, hsD, Sp.bel (a := a) (b := b) (c := c) (d := d) (by assumption)⟩
    simp [results, Try.results29, go_sem, *]

end Go.Proofs.Ytfgjooddolnifaa

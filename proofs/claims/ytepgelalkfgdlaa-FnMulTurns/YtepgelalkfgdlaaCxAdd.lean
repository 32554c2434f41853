/- The law FnExactCxAdd, walked. -/
import Derived.Test.YtepgelalkfgdlaaAdd
import Derived.Test.YtepgelalkfgdlaaCxTurn
import Derived.Deep.DeepCutAuto
import Derived.Deep.RegionHeld
namespace Go.Proofs.Ytepgelalkfgdlaa
open Ieee Go.RowKit
attribute [local go_sem] run_store_float alloc_drewN setCell_drewN shape?_drewN

/-- behind a call that leaves what was there, and behind a new block: a cell that is there is read as before -/
theorem bfacts {W w1 : World} (hb : Below W.heap.size W w1) : (∀ b o, (W.cell? ⟨b, o, none⟩).isSome = true → w1.cell? ⟨b, o, none⟩ = W.cell? ⟨b, o, none⟩) ∧ (∀ b o, (W.cell? ⟨b, o, none⟩).isSome = true → w1.frozen? ⟨b, o, none⟩ = W.frozen? ⟨b, o, none⟩) := by
  refine ⟨fun b o h => hb.cell (p := ⟨b, o, none⟩) ?_, fun b o h => hb.frozen (p := ⟨b, o, none⟩) ?_⟩
  all_goals
    obtain ⟨v, hv⟩ := Option.isSome_iff_exists.1 h
    exact World.block_lt_of_cell? W _ hv
theorem alloc_there (w : World) (o : Obj) (a : Addr) (h : (w.cell? a).isSome = true) : (w.alloc o).cell? a = w.cell? a := by
  obtain ⟨v, hv⟩ := Option.isSome_iff_exists.1 h
  exact World.cell?_alloc_lt w o a (World.block_lt_of_cell? w _ hv)
attribute [local go_sem] alloc_there

theorem add_spec_b (a b c d : Nat) (w : World) :
    Calls Try.prog 42 #[cx a b, cx c d] w fun e w' => ∃ r s, e = .returned (cx r s) ∧ Below w.heap.size w w' ∧ Res .add a c r ∧ Res .add b d s := by
  refine (add_spec a b c d w).mono ?_
  rintro e w1 ⟨r, s, n, rfl, rfl, h1, h2⟩
  exact ⟨r, s, rfl, below_drewN (by go_grown) _, h1, h2⟩

theorem add_impl_b (a b c d : Nat) (w : World) :
    Calls Try.prog 40 #[cx a b, cx c d] w fun e w' => ∃ r s, e = .returned (cx r s) ∧ Below w.heap.size w w' ∧ Res .add a c r ∧ Res .add b d s := by
  refine (add_impl a b c d w).mono ?_
  rintro e w1 ⟨r, s, n, rfl, rfl, h1, h2⟩
  exact ⟨r, s, rfl, below_drewN (by go_grown) _, h1, h2⟩

/-- the four cells of two boxes, one behind the other -/
def Held (n a b c d : Nat) (w : World) : Prop :=
  w.cell? ⟨n, 0, none⟩ = some (.float .f64 a) ∧ w.cell? ⟨n, 1, none⟩ = some (.float .f64 b) ∧ w.cell? ⟨n + 1, 0, none⟩ = some (.float .f64 c) ∧ w.cell? ⟨n + 1, 1, none⟩ = some (.float .f64 d)

theorem Held.below {n a b c d : Nat} {w w' : World} (h : Held n a b c d w) (hb : Below w.heap.size w w') : Held n a b c d w' := by
  obtain ⟨h1, h2, h3, h4⟩ := h
  have f : ∀ (p : Addr) (v : Value), w.cell? p = some v → w'.cell? p = some v := fun p v h => by
    rw [hb.cell (World.block_lt_of_cell? w p h)]; exact h
  exact ⟨f _ _ h1, f _ _ h2, f _ _ h3, f _ _ h4⟩

theorem Held.calls {n a b c d f : Nat} {args : Array Value} {w : World} {Q : Ending → World → Prop} (h : Held n a b c d w)
    (hc : Calls Try.prog f args w fun e w' => Q e w' ∧ Below w.heap.size w w') : Calls Try.prog f args w fun e w' => (Q e w' ∧ Below w.heap.size w w') ∧ Held n a b c d w' :=
  hc.mono fun _ _ hq => ⟨hq, h.below hq.2⟩

theorem Held.alloc {n a b c d : Nat} {w : World} (h : Held n a b c d w) (o : Obj) : Held n a b c d (w.alloc o) :=
  h.below ((Below.refl _ _).alloc (Nat.le_refl _) o)
theorem Held.drew {n a b c d : Nat} {w : World} (h : Held n a b c d w) : Held n a b c d w.drew := h
theorem Held.drewN {n a b c d : Nat} {w : World} (h : Held n a b c d w) (m : Nat) : Held n a b c d (w.drewN m) := h
theorem Held.start (a b c d : Nat) (w : World) : Held w.heap.size a b c d ((w.alloc (cell54 a b)).alloc (cell54 c d)) := by
  unfold Held; simp [go_sem]
theorem Held.of_below {a b c d : Nat} {w w' : World} (h : Below (w.heap.size + 2) ((w.alloc (cell54 a b)).alloc (cell54 c d)) w') : Held w.heap.size a b c d w' := by
  obtain ⟨h1, h2, h3, h4⟩ := Held.start a b c d w
  exact ⟨(h.cell (by simp)).trans h1, (h.cell (by simp)).trans h2, (h.cell (by simp)).trans h3, (h.cell (by simp)).trans h4⟩

/-- what the walk wants to know of the two boxes behind a call -/
theorem Held.facts {n a b c d : Nat} {w w' : World} (h : Held n a b c d w) (hb : Below w.heap.size w w') :
    w'.cell? ⟨n, 0, none⟩ = some (.float .f64 a) ∧ w'.cell? ⟨n, 1, none⟩ = some (.float .f64 b) ∧ w'.cell? ⟨n + 1, 0, none⟩ = some (.float .f64 c) ∧ w'.cell? ⟨n + 1, 1, none⟩ = some (.float .f64 d) ∧
    n < w'.heap.size ∧ n + 1 < w'.heap.size ∧ ¬ w'.heap.size = n ∧ ¬ w'.heap.size = n + 1 ∧ ¬ n = w'.heap.size ∧ ¬ n + 1 = w'.heap.size := by
  obtain ⟨k1, k2, k3, k4⟩ := h.below hb
  have z1 := World.block_lt_of_cell? _ _ k3
  simp only at z1
  exact ⟨k1, k2, k3, k4, by omega, z1, by omega, by omega, by omega, by omega⟩

set_option maxHeartbeats 2000000 in
theorem fnExactCxAdd_walk (a b c d : Nat) (w : World) :
    Calls Try.prog 12 #[cx a b, cx c d] w fun e w' => e = .returned (.bool true) ∧ Below w.heap.size w w' := by
  have H0 := Held.start a b c d w
  go_enter Try.func12, Try.ntmps12
  go_upto_region 1 with fail
  go_cut [5] (fun s5 wc => ∃ blk r s, s5 = .pointer (some ⟨blk, 0, none⟩) ∧ w.heap.size + 2 ≤ blk ∧ blk < wc.heap.size ∧ wc.cell? ⟨blk, 0, none⟩ = some (.float .f64 r) ∧ wc.cell? ⟨blk, 1, none⟩ = some (.float .f64 s) ∧ Res .add a c r ∧ Res .add b d s ∧ Below (w.heap.size + 2) ((w.alloc (cell54 a b)).alloc (cell54 c d)) wc)
  case first =>
    go_region_held (fun w' => w'.cell? ⟨w.heap.size, 0, none⟩ = some (.float .f64 a) ∧ w'.cell? ⟨w.heap.size, 1, none⟩ = some (.float .f64 b) ∧ w'.cell? ⟨w.heap.size + 1, 0, none⟩ = some (.float .f64 c) ∧ w'.cell? ⟨w.heap.size + 1, 1, none⟩ = some (.float .f64 d)) (first | assumption | (simp [go_sem]; done) | go_keep)
      (first | (go_at_call 43; refine (toCx_exact _ _ _).mono ?_; rintro e w1 ⟨rfl, rfl⟩) | (go_at_call 42; refine (add_spec _ _ _ _ _).mono ?_; rintro e w1 ⟨r, s, n, rfl, rfl, hr, hs⟩))
    all_goals
      go_wp2_with fail
      go_meet
      refine ⟨_, r, s, rfl, by omega, by simp; try omega, by simp [go_sem], by simp [go_sem], hr, hs, below_drewN (by go_grown) _⟩
  case rest =>
    obtain ⟨blk, r, s, rfl, hb1, hb2, c1, c2, hr, hs, B1⟩ := hcut
    have hz : w.heap.size + 2 ≤ wc.heap.size := by omega
    clear H0
    have H0 := Held.of_below B1
    obtain ⟨k1, k2, k3, k4⟩ := H0
    have H0 := Held.of_below B1
    go_upto_region 2 with fail
    go_cut [6] (fun s6 wd => ∃ blk' r' s', s6 = .pointer (some ⟨blk', 0, none⟩) ∧ wd.cell? ⟨blk', 0, none⟩ = some (.float .f64 r') ∧ wd.cell? ⟨blk', 1, none⟩ = some (.float .f64 s') ∧ wd.cell? ⟨blk, 0, none⟩ = some (.float .f64 r) ∧ wd.cell? ⟨blk, 1, none⟩ = some (.float .f64 s) ∧ Res .add a c r' ∧ Res .add b d s' ∧ Below wc.heap.size wc wd)
    case first =>
      clear B1 hb1 hr hs
      go_region_held (fun w' => w'.cell? ⟨w.heap.size, 0, none⟩ = some (.float .f64 a) ∧ w'.cell? ⟨w.heap.size, 1, none⟩ = some (.float .f64 b) ∧ w'.cell? ⟨w.heap.size + 1, 0, none⟩ = some (.float .f64 c) ∧ w'.cell? ⟨w.heap.size + 1, 1, none⟩ = some (.float .f64 d)) ((show Held w.heap.size a b c d _; repeat (first | with_reducible assumption | with_reducible apply Held.drew | with_reducible apply Held.drewN | with_reducible apply Held.alloc)))
        (first | (go_at_call 43; refine (toCx_exact _ _ _).mono ?_; rintro e w1 ⟨rfl, rfl⟩) | (go_at_call 40; refine (add_impl _ _ _ _ _).mono ?_; rintro e w1 ⟨r', s', n, rfl, rfl, hr, hs⟩))
      all_goals
        go_wp2_with fail
        go_meet
        exact ⟨_, r', s', rfl, by simp [go_sem], by simp [go_sem], (Below.cell (B := wc.heap.size) (p := ⟨blk, 0, none⟩) (below_drewN (by go_grown) _) hb2).trans c1, (Below.cell (B := wc.heap.size) (p := ⟨blk, 1, none⟩) (below_drewN (by go_grown) _) hb2).trans c2, hr, hs, below_drewN (by go_grown) _⟩
    case rest =>
      obtain ⟨blk', r', s', rfl, d1, d2, d3, d4, hr', hs', B2⟩ := hcut
      have e1 := hr'.congr aAdd (same_rfl _) (same_rfl _) hr
      have e2 := hs'.congr aAdd (same_rfl _) (same_rfl _) hs
      clear hr hs hr' hs' c1 c2 k1 k2 k3 k4 H0
      rename_i wd
      go_wp2_with fail
      refine (eqCx_any _ _ _ _ e1 e2 _).mono ?_
      rintro e w5 ⟨rfl, hb5⟩
      go_wp2_with fail
      go_ret
      have q0 : Below w.heap.size w ((w.alloc (cell54 a b)).alloc (cell54 c d)) := by go_grown
      have q2 := B2.size
      refine ⟨rfl, (q0.trans (B1.mono (by omega))).trans ((B2.mono (by omega)).trans (hb5.mono (by omega)))⟩

end Go.Proofs.Ytepgelalkfgdlaa

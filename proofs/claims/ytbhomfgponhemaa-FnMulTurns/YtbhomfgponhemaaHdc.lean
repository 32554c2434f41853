/- The cells of two boxes, held. -/
import Derived.Test.YtbhomfgponhemaaFad
import Derived.Deep.DeepCutAuto
import Derived.Deep.RegionHeld
namespace Go.Proofs.Ytbhomfgponhemaa
open Ieee Go.RowKit
attribute [local go_sem] run_store_float alloc_drewN setCell_drewN shape?_drewN

/-- behind a call that leaves what was there, and behind a new block: a cell that is there is read as before -/
theorem bfacts {W w1 : World} (hb : Below W.heap.size W w1) : (∀ b o, (W.cell? ⟨b, o, none⟩).isSome = true → w1.cell? ⟨b, o, none⟩ = W.cell? ⟨b, o, none⟩) ∧ (∀ b o, (W.cell? ⟨b, o, none⟩).isSome = true → w1.frozen? ⟨b, o, none⟩ = W.frozen? ⟨b, o, none⟩) := by
  refine ⟨fun b o h => hb.cell (p := ⟨b, o, none⟩) ?_, fun b o h => hb.frozen (p := ⟨b, o, none⟩) ?_⟩
  all_goals
    obtain ⟨v, hv⟩ := Option.isSome_iff_exists.1 h
    exact World.block_lt_of_cell? W _ hv
theorem alloc_there (w : World) (o : Obj) (a : Addr) (h : (w.cell? a).isSome = true) : (w.alloc o).cell? a = w.cell? a := by
  obtain ⟨v, hv⟩ := Option.isSome_iff_exists.1 h
  exact World.cell?_alloc_lt w o a (World.block_lt_of_cell? w _ hv)
attribute [local go_sem] alloc_there

/-- the four cells of two boxes, one behind the other -/
def Held (n a b c d : Nat) (w : World) : Prop :=
  w.cell? ⟨n, 0, none⟩ = some (.float .f64 a) ∧ w.cell? ⟨n, 1, none⟩ = some (.float .f64 b) ∧ w.cell? ⟨n + 1, 0, none⟩ = some (.float .f64 c) ∧ w.cell? ⟨n + 1, 1, none⟩ = some (.float .f64 d)

theorem Held.below {n a b c d : Nat} {w w' : World} (h : Held n a b c d w) (hb : Below w.heap.size w w') : Held n a b c d w' := by
  obtain ⟨h1, h2, h3, h4⟩ := h
  have f : ∀ (p : Addr) (v : Value), w.cell? p = some v → w'.cell? p = some v := fun p v h => by
    rw [hb.cell (World.block_lt_of_cell? w p h)]; exact h
  exact ⟨f _ _ h1, f _ _ h2, f _ _ h3, f _ _ h4⟩

theorem Held.calls {n a b c d f : Nat} {args : Array Value} {w : World} {Q : Ending → World → Prop} (h : Held n a b c d w)
    (hc : Calls Try.prog f args w fun e w' => Q e w' ∧ Below w.heap.size w w') : Calls Try.prog f args w fun e w' => (Q e w' ∧ Below w.heap.size w w') ∧ Held n a b c d w' :=
  hc.mono fun _ _ hq => ⟨hq, h.below hq.2⟩

theorem Held.alloc {n a b c d : Nat} {w : World} (h : Held n a b c d w) (o : Obj) : Held n a b c d (w.alloc o) :=
  h.below ((Below.refl _ _).alloc (Nat.le_refl _) o)
theorem Held.drew {n a b c d : Nat} {w : World} (h : Held n a b c d w) : Held n a b c d w.drew := h
theorem Held.drewN {n a b c d : Nat} {w : World} (h : Held n a b c d w) (m : Nat) : Held n a b c d (w.drewN m) := h
theorem Held.start (a b c d : Nat) (w : World) : Held w.heap.size a b c d ((w.alloc (cellL a b)).alloc (cellL c d)) := by
  unfold Held; simp [go_sem]
theorem Held.of_below {a b c d : Nat} {w w' : World} (h : Below (w.heap.size + 2) ((w.alloc (cellL a b)).alloc (cellL c d)) w') : Held w.heap.size a b c d w' := by
  obtain ⟨h1, h2, h3, h4⟩ := Held.start a b c d w
  exact ⟨(h.cell (by simp)).trans h1, (h.cell (by simp)).trans h2, (h.cell (by simp)).trans h3, (h.cell (by simp)).trans h4⟩

/-- what the walk wants to know of the two boxes behind a call -/
theorem Held.facts {n a b c d : Nat} {w w' : World} (h : Held n a b c d w) (hb : Below w.heap.size w w') :
    w'.cell? ⟨n, 0, none⟩ = some (.float .f64 a) ∧ w'.cell? ⟨n, 1, none⟩ = some (.float .f64 b) ∧ w'.cell? ⟨n + 1, 0, none⟩ = some (.float .f64 c) ∧ w'.cell? ⟨n + 1, 1, none⟩ = some (.float .f64 d) ∧
    n < w'.heap.size ∧ n + 1 < w'.heap.size ∧ ¬ w'.heap.size = n ∧ ¬ w'.heap.size = n + 1 ∧ ¬ n = w'.heap.size ∧ ¬ n + 1 = w'.heap.size := by
  obtain ⟨k1, k2, k3, k4⟩ := h.below hb
  have z1 := World.block_lt_of_cell? _ _ k3
  simp only at z1
  exact ⟨k1, k2, k3, k4, by omega, z1, by omega, by omega, by omega, by omega⟩

end Go.Proofs.Ytbhomfgponhemaa

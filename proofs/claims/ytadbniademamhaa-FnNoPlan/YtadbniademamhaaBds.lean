/- Lists of bounds: the law's own sizes, copies, comparisons. -/
import Derived.Test.YtadbniademamhaaHom
import Derived.Deep.RegionHeld
import Derived.BigRegion
namespace Go.Proofs.Ytadbniademamhaa
open Go.RowKit

/-- a bound as a value -/
abbrev vBd (x : Option Addr) (l c : Nat) (b : Int) : Value := .agg #[.slice x l c, .int .i64 b]
/-- the sum of the lengths -/
def sumN (ln : Nat → Nat) : Nat → Nat
  | 0 => 0
  | m + 1 => sumN ln m + ln m
theorem sumN_le {ln : Nat → Nat} : ∀ {k m : Nat}, k < m → ln k ≤ sumN ln m
  | k, m + 1, h => by
    unfold sumN
    by_cases e : k = m
    · subst e; omega
    · have := sumN_le (ln := ln) (k := k) (m := m) (by omega); omega
theorem cell_kept {w w' : World} {b j : Nat} {v : Value} (hb : Below w.heap.size w w') (h : w.cell? ⟨b, j, none⟩ = some v) : w'.cell? ⟨b, j, none⟩ = some v :=
  (hb.cell (p := ⟨b, j, none⟩) (World.block_lt_of_cell? w _ h)).trans h
/-- a list of bounds is there -/
def PxB (a : Option Addr) (m : Nat) (ad : Nat → Option Addr) (ln cp : Nat → Nat) (F : Nat → Nat → Int) (Bv : Nat → Int) (w : World) : Prop :=
  (m = 0 ∨ ∃ b off, a = some ⟨b, off, none⟩ ∧ ∀ i, i < m → w.cell? ⟨b, off + i * 2, none⟩ = some (.slice (ad i) (ln i) (cp i)) ∧ w.cell? ⟨b, off + i * 2 + 1, none⟩ = some (.int .i64 (Bv i))) ∧ ∀ i, i < m → Px (ad i) (ln i) (F i) w
theorem PxB.below {a : Option Addr} {m : Nat} {ad : Nat → Option Addr} {ln cp : Nat → Nat} {F : Nat → Nat → Int} {Bv : Nat → Int} {w w' : World} (h : PxB a m ad ln cp F Bv w) (hb : Below w.heap.size w w') : PxB a m ad ln cp F Bv w' := by
  obtain ⟨h1, h2⟩ := h
  refine ⟨?_, fun i hi => (h2 i hi).below hb⟩
  rcases h1 with h1 | ⟨b, off, ha, hc⟩
  · exact .inl h1
  · exact .inr ⟨b, off, ha, fun i hi => ⟨cell_kept hb (hc i hi).1, cell_kept hb (hc i hi).2⟩⟩
theorem PxB.at {a : Option Addr} {m i : Nat} {ad : Nat → Option Addr} {ln cp : Nat → Nat} {F : Nat → Nat → Int} {Bv : Nat → Int} {w : World} (h : PxB a m ad ln cp F Bv w) (hi : i < m) :
    ∃ b off, a = some ⟨b, off, none⟩ ∧ w.cell? ⟨b, off + i * 2, none⟩ = some (.slice (ad i) (ln i) (cp i)) ∧ w.cell? ⟨b, off + i * 2 + 1, none⟩ = some (.int .i64 (Bv i)) := by
  rcases h.1 with h1 | ⟨b, off, ha, hc⟩
  · omega
  · exact ⟨b, off, ha, (hc i hi).1, (hc i hi).2⟩

set_option maxRecDepth 100000 in
theorem make_Bd (n : Nat) (h : n ≤ 1048576) (w : World) :
    (Instr.makeSlice 24 (.int .i64 n) (.int .i64 n)).run Try.prog w = .ok (.slice (some ⟨w.heap.size, 0, none⟩) n n) (w.alloc (.cells (madeCells #[.slice none 0 0, .int .i64 0] (n * 2)) 30)) := by
  have := run_make (P := Try.prog) w 24 30 _ (vBd none 0 0 0) Try.underlying24 rfl rfl .i64 .i64 n n (by omega) (by omega) (by show (32 : Int) * _ ≤ _; omega) (by omega)
  rw [this]
  show Result.ok (Value.slice _ (n : Int).toNat (n : Int).toNat) (w.alloc (.cells (madeCells (Value.cells (vBd none 0 0 0)) ((n : Int).toNat * 2)) 30)) = _
  rw [Int.toNat_natCast]
  rfl
theorem made_Bd (n k : Nat) (h : k < n) : ∃ z, (madeCells #[Value.slice none 0 0, Value.int .i64 0] n)[k]? = some z := by
  unfold madeCells
  rw [Array.getElem?_map, Array.getElem?_range, if_pos h]
  exact ⟨_, rfl⟩
/-- a row of bounds that is being filled: the first k are there -/
def PtB (o m k : Nat) (B : Nat → Nat) (ln : Nat → Nat) (Bv : Nat → Int) (w : World) : Prop :=
  ∀ j, j < m → (∃ z0 z1, w.cell? ⟨o, j * 2, none⟩ = some z0 ∧ w.cell? ⟨o, j * 2 + 1, none⟩ = some z1 ∧ (j < k → z0 = .slice (some ⟨B j, 0, none⟩) (ln j) (ln j) ∧ z1 = .int .i64 (Bv j))) ∧ w.frozen? ⟨o, j * 2, none⟩ = false ∧ w.frozen? ⟨o, j * 2 + 1, none⟩ = false
theorem ptB_new (m : Nat) (B : Nat → Nat) (ln : Nat → Nat) (Bv : Nat → Int) (t : TypeId) (w : World) : PtB w.heap.size m 0 B ln Bv (w.alloc (.cells (madeCells #[.slice none 0 0, .int .i64 0] (m * 2)) t)) := fun j hj => by
  obtain ⟨z0, h0⟩ := made_Bd (m * 2) (j * 2) (by omega)
  obtain ⟨z1, h1⟩ := made_Bd (m * 2) (j * 2 + 1) (by omega)
  exact ⟨⟨z0, z1, by simp [go_sem, h0], by simp [go_sem, h1], fun h => absurd h (Nat.not_lt_zero _)⟩, by simp [go_sem], by simp [go_sem]⟩
theorem PtB.below {o m k : Nat} {B ln : Nat → Nat} {Bv : Nat → Int} {w w' : World} (h : PtB o m k B ln Bv w) (hb : Below w.heap.size w w') (ho : o < w.heap.size) : PtB o m k B ln Bv w' := fun j hj => by
  obtain ⟨⟨z0, z1, c0, c1, e⟩, f0, f1⟩ := h j hj
  exact ⟨⟨z0, z1, cell_kept hb c0, cell_kept hb c1, e⟩, (hb.frozen (p := ⟨o, j * 2, none⟩) ho).trans f0, (hb.frozen (p := ⟨o, j * 2 + 1, none⟩) ho).trans f1⟩
theorem PtB.step {o m k : Nat} {B ln : Nat → Nat} {Bv : Nat → Int} {w : World} (h : PtB o m k B ln Bv w) (hk : k < m) (g : Nat) :
    PtB o m (k + 1) (fun i => if i = k then g else B i) ln Bv ((w.setCell ⟨o, k * 2, none⟩ (.slice (some ⟨g, 0, none⟩) (ln k) (ln k))).setCell ⟨o, k * 2 + 1, none⟩ (.int .i64 (Bv k))) := fun j hj => by
  obtain ⟨⟨z0, z1, c0, c1, e⟩, f0, f1⟩ := h j hj
  refine ⟨?_, by simpa using f0, by simpa using f1⟩
  by_cases hjk : j = k
  · subst hjk
    refine ⟨.slice (some ⟨g, 0, none⟩) (ln j) (ln j), .int .i64 (Bv j), ?_, ?_, fun _ => ⟨by simp, rfl⟩⟩
    · rw [World.cell?_setCell_other _ _ _ _ (by simp)]
      exact World.cell?_setCell_same _ _ _ c0
    · refine World.cell?_setCell_same _ _ _ (u := z1) ?_
      rw [World.cell?_setCell_other _ _ _ _ (by simp)]
      exact c1
  · refine ⟨z0, z1, ?_, ?_, fun hj2 => ?_⟩
    · rw [World.cell?_setCell_other _ _ _ _ (by simp; try omega), World.cell?_setCell_other _ _ _ _ (by simp; try omega)]; exact c0
    · rw [World.cell?_setCell_other _ _ _ _ (by simp; try omega), World.cell?_setCell_other _ _ _ _ (by simp; try omega)]; exact c1
    · obtain ⟨e0, e1⟩ := e (by omega)
      refine ⟨?_, e1⟩
      show z0 = Value.slice (some ⟨if j = k then g else B j, 0, none⟩) (ln j) (ln j)
      rw [if_neg hjk]; exact e0

end Go.Proofs.Ytadbniademamhaa

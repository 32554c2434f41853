/- Right lists of elements: the program's three functions, at lists of at most so many. -/
import Derived.Test.YteadhhhhnihoaaaElw
import Derived.BigRegion
namespace Go.Proofs.Yteadhhhhnihoaaa
open Go.RowKit

theorem C6.newP (e : El) (x : Option Addr) (c : Nat) (ty : TypeId) (w : World) : C6 w.heap.size 0 e x c (w.alloc (.cells #[.int .i64 e.g, .int .i64 e.n, .int .i64 e.k, .string e.t, .slice x e.ln c, .int .i64 e.s] ty)) := by
  refine ⟨?_, ?_, ?_, ?_, ?_, ?_⟩ <;> simp [go_sem]

/-- a piece of a list of elements -/
theorem PxE.piece {a : Option Addr} {m : Nat} {ad : Nat → Option Addr} {cp : Nat → Nat} {E : Nat → El} {w : World} (h : PxE a m ad cp E w) {b off : Nat} (ha : a = some ⟨b, off, none⟩) (p q : Nat) (hpq : p + q ≤ m) :
    PxE (some ⟨b, off + p * 6, none⟩) q (fun i => ad (p + i)) (fun i => cp (p + i)) (fun i => E (p + i)) w := by
  obtain ⟨h1, h2⟩ := h
  refine ⟨?_, fun i hi => h2 (p + i) (by omega)⟩
  rcases h1 with h1 | ⟨b', off', ha', hc⟩
  · exact .inl (by omega)
  · rw [ha] at ha'
    cases ha'
    refine .inr ⟨b, off + p * 6, rfl, fun i hi => ?_⟩
    have := hc (p + i) (by omega)
    rw [show off + p * 6 + i * 6 = off + (p + i) * 6 by omega]
    exact this

/-- what the program's three functions answer of lists of at most N elements -/
def AskL (N : Nat) : Prop := ∀ (a : Option Addr) (m cap : Nat) (ad : Nat → Option Addr) (cp : Nat → Nat) (E : Nat → El) (d : Int) (w : World), m ≤ N → m ≤ 2000 → m ≤ cap → (∀ i, i < m → (E i).ln ≤ 1048576) → 1 ≤ d → d ≤ 9 → PxE a m ad cp E w →
  Calls Try.prog 36 #[.slice a m cap, .int .i64 d] w fun e w' => e = .returned (.bool (lev E 0 m d false (-1))) ∧ Below w.heap.size w w'
def AskI (N : Nat) : Prop := ∀ (a : Option Addr) (m cap : Nat) (ad : Nat → Option Addr) (cp : Nat → Nat) (E : Nat → El) (d : Int) (w : World), m ≤ N → m ≤ 2000 → m ≤ cap → (∀ i, i < m → (E i).ln ≤ 1048576) → 1 ≤ d → d ≤ 9 → PxE a m ad cp E w →
  Calls Try.prog 50 #[.slice a m cap, .int .i64 d] w fun e w' => e = .returned (.bool (lev E 0 m d true (-1))) ∧ Below w.heap.size w w'
/-- what the first element says of itself -/
def fstB (E : Nat → El) (m : Nat) (d : Int) : Bool :=
  decide (d ≤ 8) && decide (0 ≤ (E 0).s ∧ (E 0).s ≤ (m : Int) - 1) && valB (E 0).k (E 0).t (E 0).ln (E 0).f &&
  (if (E 0).k = 5 then lev E 1 (nxt E 0) (d + 1) true (-1) else if (E 0).k = 6 then lev E 1 (nxt E 0) (d + 1) false (-1) else decide ((E 0).s = 0))
def AskF (N : Nat) : Prop := ∀ (a : Option Addr) (m cap : Nat) (ad : Nat → Option Addr) (cp : Nat → Nat) (E : Nat → El) (d : Int) (w : World), 0 < m → m ≤ N → m ≤ 2000 → m ≤ cap → (∀ i, i < m → (E i).ln ≤ 1048576) → 1 ≤ d → d ≤ 9 → PxE a m ad cp E w →
  Calls Try.prog 48 #[.slice a m cap, .int .i64 d] w fun e w' => e = .returned (.bool (fstB E m d)) ∧ Below w.heap.size w w'

/-- where a piece of a list of elements begins -/
def cutA (b off cap p : Nat) : Option Addr := if cap = p then some ⟨b, off, none⟩ else some ⟨b, off + p * 6, none⟩
theorem add6 (b off p : Nat) : (⟨b, off, none⟩ : Addr).add (p * 6) = ⟨b, off + p * 6, none⟩ := by unfold Addr.add; split <;> simp_all
theorem cut_from (b off m cap p : Nat) (hp : p ≤ m) (w : World) : (Instr.slice 32 (.slice (some ⟨b, off, none⟩) m cap) (some (.int .i64 (p : Int))) none none).run Try.prog w = .ok (.slice (cutA b off cap p) (m - p) (cap - p)) w := by
  have hsz : (Go.sizeOf 53).run Try.prog w = .ok 6 w := by kernel_rfl
  have hb := fun code => run_sliceBound (P := Try.prog) w .i64 (p : Int) m code (by omega) (by omega)
  simp only [Instr.slice, Instr.sliceBounds, Sem.run_bind, run_underlying Try.underlying32, Result.andThen, Sem.run_pure, hb, hsz, Int.toNat_natCast]
  unfold cutA
  simp only [Option.map_some, add6]
theorem cut_mid (b off m cap S : Nat) (hp : 1 + S ≤ cap) (w : World) : (Instr.slice 32 (.slice (some ⟨b, off, none⟩) m cap) (some (.int .i64 1)) (some (.int .i64 (1 + (S : Int)))) none).run Try.prog w = .ok (.slice (cutA b off cap 1) S (cap - 1)) w := by
  have hsz : (Go.sizeOf 53).run Try.prog w = .ok 6 w := by kernel_rfl
  have hb := fun code => run_sliceBound (P := Try.prog) w .i64 (1 + (S : Int)) cap code (by omega) (by omega)
  have hb2 := fun code => run_sliceBound (P := Try.prog) w .i64 (1 : Int) (1 + S) code (by omega) (by omega)
  have e1 : (1 + (S : Int)).toNat = 1 + S := by omega
  have e2 : (1 : Int).toNat = 1 := rfl
  simp only [Instr.slice, Instr.sliceBounds, Sem.run_bind, run_underlying Try.underlying32, Result.andThen, Sem.run_pure, hb, e1, hb2, e2, hsz]
  unfold cutA
  have := add6 b off 1
  rw [show 1 + S - 1 = S by omega]
  simp only [Option.map_some, this]
theorem cut_from1 (b off m cap S : Nat) (hp : 1 + S ≤ m) (w : World) : (Instr.slice 32 (.slice (some ⟨b, off, none⟩) m cap) (some (.int .i64 (1 + (S : Int)))) none none).run Try.prog w = .ok (.slice (cutA b off cap (1 + S)) (m - (1 + S)) (cap - (1 + S))) w := by
  have hsz : (Go.sizeOf 53).run Try.prog w = .ok 6 w := by kernel_rfl
  have hb := fun code => run_sliceBound (P := Try.prog) w .i64 (1 + (S : Int)) m code (by omega) (by omega)
  have e1 : (1 + (S : Int)).toNat = 1 + S := by omega
  simp only [Instr.slice, Instr.sliceBounds, Sem.run_bind, run_underlying Try.underlying32, Result.andThen, Sem.run_pure, hb, hsz, e1]
  unfold cutA
  simp only [Option.map_some, add6]
theorem PxE.cut {m cap : Nat} {b off : Nat} {ad : Nat → Option Addr} {cp : Nat → Nat} {E : Nat → El} {w : World} (h : PxE (some ⟨b, off, none⟩) m ad cp E w) (hc : m ≤ cap) (p q : Nat) (hpq : p + q ≤ m) :
    PxE (cutA b off cap p) q (fun i => ad (p + i)) (fun i => cp (p + i)) (fun i => E (p + i)) w := by
  unfold cutA
  by_cases e : cap = p
  · rw [if_pos e]
    obtain rfl : q = 0 := by omega
    exact ⟨.inl rfl, fun i hi => absurd hi (Nat.not_lt_zero _)⟩
  · rw [if_neg e]
    exact h.piece rfl p q hpq

end Go.Proofs.Yteadhhhhnihoaaa

/- The cursor of the draws: what is known of it, and what a draw leaves as it was. -/
import Derived.Test.YtbhomfgponhemaaZFrom2
import Derived.BigQuiet
import Derived.Deep.QuietTactic
namespace Go.Proofs.Ytbhomfgponhemaa.Z
open Ieee Go.RowKit Fl

/-- what was there before stays, but for the block p -/
structure Kept (p : Nat) (w w' : World) : Prop where
  os : w'.os = w.os
  tape : w'.tape = w.tape
  output : w'.output = w.output
  size : w.heap.size ≤ w'.heap.size
  block : ∀ k, k < w.heap.size → k ≠ p → w'.heap[k]? = w.heap[k]?

theorem Kept.of_below {p : Nat} {w w' : World} (h : Below w.heap.size w w') : Kept p w w' := ⟨h.os, h.tape, h.output, h.size, fun k hk _ => h.block k hk⟩
theorem Kept.refl (p : Nat) (w : World) : Kept p w w := Kept.of_below (Below.refl _ _)
theorem Kept.trans {p : Nat} {a b c : World} (h : Kept p a b) (k : Kept p b c) : Kept p a c :=
  ⟨k.os.trans h.os, k.tape.trans h.tape, k.output.trans h.output, Nat.le_trans h.size k.size, fun j hj hp => (k.block j (Nat.lt_of_lt_of_le hj h.size) hp).trans (h.block j hj hp)⟩
theorem Kept.below {p B : Nat} {w w' : World} (h : Kept p w w') (h1 : B ≤ p) (h2 : B ≤ w.heap.size) : Below B w w' :=
  ⟨h.os, h.tape, h.output, h.size, fun k hk => h.block k (Nat.lt_of_lt_of_le hk h2) (by omega)⟩
theorem Kept.cell {p : Nat} {w w' : World} (h : Kept p w w') {a : Addr} {v : Value} (hp : a.block ≠ p) (hv : w.cell? a = some v) : w'.cell? a = some v := by
  rw [World.cell?_of_block (w := w) (h.block a.block (World.block_lt_of_cell? w a hv) hp)]; exact hv
theorem Kept.setCell {p : Nat} {w w' : World} (h : Kept p w w') {a : Addr} (hp : a.block = p) (v : Value) : Kept p w (w'.setCell a v) :=
  ⟨h.os, h.tape, h.output, by simpa using h.size, fun k hk hk2 => (Below.heap_setCell w' a v k (by omega)).trans (h.block k hk hk2)⟩
theorem Kept.drewN {p : Nat} {w w' : World} (h : Kept p w w') (n : Nat) : Kept p w (w'.drewN n) := ⟨h.os, h.tape, h.output, h.size, h.block⟩

/-- the cursor at block p over the bytes of a slice -/
structure Cur (p : Nat) (a : Option Addr) (len cap : Nat) (w : World) : Prop where
  head : w.cell? ⟨p, 0, none⟩ = some (.slice a len cap)
  at_ : ∃ i : Nat, i ≤ len ∧ w.cell? ⟨p, 1, none⟩ = some (.int .i64 i)
  hash : ∃ h : Int, w.cell? ⟨p, 2, none⟩ = some (.int .i64 h)
  free1 : w.frozen? ⟨p, 1, none⟩ = false
  free2 : w.frozen? ⟨p, 2, none⟩ = false
  small : len ≤ maxLen
  bytes : len = 0 ∨ ∃ b off, a = some ⟨b, off, none⟩ ∧ b ≠ p ∧ ∀ k, k < len → ∃ z : Int, 0 ≤ z ∧ z ≤ 255 ∧ w.cell? ⟨b, off + k, none⟩ = some (.int .u8 z)

theorem Cur.drewN {p : Nat} {a : Option Addr} {len cap : Nat} {w : World} (h : Cur p a len cap w) (n : Nat) : Cur p a len cap (w.drewN n) :=
  ⟨h.head, h.at_, h.hash, h.free1, h.free2, h.small, h.bytes⟩

theorem Cur.setHash {p : Nat} {a : Option Addr} {len cap : Nat} {w : World} (h : Cur p a len cap w) (x : Int) : Cur p a len cap (w.setCell ⟨p, 2, none⟩ (.int .i64 x)) := by
  obtain ⟨h0, ⟨i, hi, h1⟩, ⟨y, h2⟩, f1, f2, hs, hb⟩ := h
  refine ⟨?_, ⟨i, hi, ?_⟩, ⟨x, ?_⟩, by simpa using f1, by simpa using f2, hs, ?_⟩
  · rw [World.cell?_setCell_other _ _ _ _ (by simp)]; exact h0
  · rw [World.cell?_setCell_other _ _ _ _ (by simp)]; exact h1
  · exact World.cell?_setCell_same _ _ _ h2
  · rcases hb with hb | ⟨b, off, ha, hne, hb⟩
    · exact .inl hb
    · refine .inr ⟨b, off, ha, hne, fun k hk => ?_⟩
      obtain ⟨z, z0, z1, hz⟩ := hb k hk
      exact ⟨z, z0, z1, by rw [World.cell?_setCell_other _ _ _ _ (by simp; try omega)]; exact hz⟩

theorem Cur.setAt {p : Nat} {a : Option Addr} {len cap : Nat} {w : World} (h : Cur p a len cap w) (j : Nat) (hj : j ≤ len) : Cur p a len cap (w.setCell ⟨p, 1, none⟩ (.int .i64 j)) := by
  obtain ⟨h0, ⟨i, hi, h1⟩, ⟨y, h2⟩, f1, f2, hs, hb⟩ := h
  refine ⟨?_, ⟨j, hj, ?_⟩, ⟨y, ?_⟩, by simpa using f1, by simpa using f2, hs, ?_⟩
  · rw [World.cell?_setCell_other _ _ _ _ (by simp)]; exact h0
  · exact World.cell?_setCell_same _ _ _ h1
  · rw [World.cell?_setCell_other _ _ _ _ (by simp)]; exact h2
  · rcases hb with hb | ⟨b, off, ha, hne, hb⟩
    · exact .inl hb
    · refine .inr ⟨b, off, ha, hne, fun k hk => ?_⟩
      obtain ⟨z, z0, z1, hz⟩ := hb k hk
      exact ⟨z, z0, z1, by rw [World.cell?_setCell_other _ _ _ _ (by simp; try omega)]; exact hz⟩

theorem Cur.setAtI {p : Nat} {a : Option Addr} {len cap : Nat} {w : World} (h : Cur p a len cap w) (x : Int) (j : Nat) (hj : j ≤ len) (hx : x = (j : Int)) : Cur p a len cap (w.setCell ⟨p, 1, none⟩ (.int .i64 x)) := by
  rw [hx]; exact h.setAt j hj

/-- what a call that leaves all that was there leaves of a cursor -/
theorem Cur.below {p : Nat} {a : Option Addr} {len cap : Nat} {w w' : World} (h : Cur p a len cap w) (hb : Below w.heap.size w w') : Cur p a len cap w' := by
  obtain ⟨h0, ⟨i, hi, h1⟩, ⟨y, h2⟩, f1, f2, hs, hby⟩ := h
  have f : ∀ (q : Addr) (v : Value), w.cell? q = some v → w'.cell? q = some v := fun q v hq => by
    rw [hb.cell (World.block_lt_of_cell? w q hq)]; exact hq
  have hp : p < w.heap.size := World.block_lt_of_cell? w _ h0
  refine ⟨f _ _ h0, ⟨i, hi, f _ _ h1⟩, ⟨y, f _ _ h2⟩, (hb.frozen (p := ⟨p, 1, none⟩) hp).trans f1, (hb.frozen (p := ⟨p, 2, none⟩) hp).trans f2, hs, ?_⟩
  rcases hby with hby | ⟨b, off, ha, hne, hby⟩
  · exact .inl hby
  · refine .inr ⟨b, off, ha, hne, fun k hk => ?_⟩
    obtain ⟨z, z0, z1, hz⟩ := hby k hk
    exact ⟨z, z0, z1, f _ _ hz⟩

theorem and255 (x : Int) : 0 ≤ bits .and .i64 x 255 ∧ bits .and .i64 x 255 ≤ 255 := by
  have e : bits .and .i64 x 255 = x % 256 := by
    show IntKind.i64.wrap ((BitVec.ofInt 64 x &&& BitVec.ofInt 64 255).toNat : Int) = x % 256
    have e : (BitVec.ofInt 64 x &&& BitVec.ofInt 64 255).toNat = (x % 256).toNat := by
      rw [BitVec.toNat_and, BitVec.toNat_ofInt, BitVec.toNat_ofInt]
      show (x % 2 ^ 64).toNat &&& 255 = _
      rw [show (255 : Nat) = 2 ^ 8 - 1 from rfl, Nat.and_two_pow_sub_one_eq_mod]
      omega
    rw [e, IntKind.wrap_i64]
    omega
  omega

/-- what a draw of a number gives -/
def Drawn (p : Nat) (a : Option Addr) (len cap : Nat) (w : World) (lo hi : Int) (e : Ending) (w' : World) : Prop :=
  ∃ x : Int, e = .returned (.int .i64 x) ∧ lo ≤ x ∧ x ≤ hi ∧ Cur p a len cap w' ∧ Kept p w w'

set_option maxHeartbeats 1000000 in
theorem byte_any (p : Nat) (a : Option Addr) (len cap : Nat) (w : World) (h : Cur p a len cap w) :
    Calls Try.prog 31 #[.pointer (some ⟨p, 0, none⟩)] w (Drawn p a len cap w 0 255) := by
  have hC := h
  obtain ⟨h0, ⟨i, hi, h1⟩, ⟨y, h2⟩, f1, f2, hs, hb⟩ := h
  unfold maxLen at hs
  by_cases hlt : i < len
  · obtain ⟨b, off, rfl, hne, hb⟩ : ∃ b off, a = some ⟨b, off, none⟩ ∧ b ≠ p ∧ ∀ k, k < len → ∃ z : Int, 0 ≤ z ∧ z ≤ 255 ∧ w.cell? ⟨b, off + k, none⟩ = some (.int .u8 z) := by
      rcases hb with hb | hb
      · omega
      · exact hb
    obtain ⟨z, z0, z1, hz⟩ := hb i hlt
    clear hb
    have hne2 : ¬ p = b := fun h => hne h.symm
    have HC : Hid (Cur p (some ⟨b, off, none⟩) len cap w) := hC
    clear hC
    go_enter Try.func31, Try.ntmps31
    go_wp2
    go_quiet (fail)
    go_wp2
    go_quiet (fail)
    go_wp2
    go_quiet (fail)
    go_wp2
    go_ret
    refine ⟨_, rfl, (and255 _).1, (and255 _).2, ?_, ?_⟩
    · repeat (first | with_reducible exact HC.out | with_reducible apply Cur.drewN | with_reducible apply Cur.setHash | with_reducible refine Cur.setAtI ?_ _ (i + 1) (by omega) (by omega))
    · repeat (first | with_reducible exact Kept.refl _ _ | with_reducible apply Kept.drewN | (refine Kept.setCell ?_ ?hp _; case hp => rfl))
  · have HC : Hid (Cur p a len cap w) := hC
    clear hC hb
    go_enter Try.func31, Try.ntmps31
    go_wp2
    go_quiet (fail)
    go_wp2
    go_quiet (fail)
    go_wp2
    go_ret
    refine ⟨_, rfl, (and255 _).1, (and255 _).2, ?_, ?_⟩
    · repeat (first | with_reducible exact HC.out | with_reducible apply Cur.drewN | with_reducible apply Cur.setHash | with_reducible refine Cur.setAtI ?_ _ (i + 1) (by omega) (by omega))
    · repeat (first | with_reducible exact Kept.refl _ _ | with_reducible apply Kept.drewN | (refine Kept.setCell ?_ ?hp _; case hp => rfl))

end Go.Proofs.Ytbhomfgponhemaa.Z

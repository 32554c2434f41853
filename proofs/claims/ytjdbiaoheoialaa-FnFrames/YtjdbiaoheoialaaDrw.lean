/- The cursor of the draws, and what a draw of a number gives. -/
import Derived.Test.YtjdbiaoheoialaaIls
import Derived.BigQuiet
import Derived.Deep.QuietTactic
namespace Go.Proofs.Ytjdbiaoheoialaa
open Go.RowKit

theorem Kept.drewN {p : Nat} {w w' : World} (h : Kept p w w') (n : Nat) : Kept p w (w'.drewN n) := ⟨h.os, h.tape, h.output, h.size, h.block⟩

/-- the cursor at block p over the bytes of a slice -/
structure Cur (p : Nat) (a : Option Addr) (len cap : Nat) (w : World) : Prop where
  head : w.cell? ⟨p, 0, none⟩ = some (.slice a len cap)
  at_ : ∃ i : Nat, i ≤ len ∧ w.cell? ⟨p, 1, none⟩ = some (.int .i64 i)
  hash : ∃ h : Int, w.cell? ⟨p, 2, none⟩ = some (.int .i64 h)
  free1 : w.frozen? ⟨p, 1, none⟩ = false
  free2 : w.frozen? ⟨p, 2, none⟩ = false
  small : len ≤ maxLen
  bytes : len = 0 ∨ ∃ b off, a = some ⟨b, off, none⟩ ∧ b ≠ p ∧ ∀ k, k < len → ∃ z : Int, 0 ≤ z ∧ z ≤ 255 ∧ w.cell? ⟨b, off + k, none⟩ = some (.int .u8 z)

theorem Cur.drewN {p : Nat} {a : Option Addr} {len cap : Nat} {w : World} (h : Cur p a len cap w) (n : Nat) : Cur p a len cap (w.drewN n) :=
  ⟨h.head, h.at_, h.hash, h.free1, h.free2, h.small, h.bytes⟩

theorem Cur.setHash {p : Nat} {a : Option Addr} {len cap : Nat} {w : World} (h : Cur p a len cap w) (x : Int) : Cur p a len cap (w.setCell ⟨p, 2, none⟩ (.int .i64 x)) := by
  obtain ⟨h0, ⟨i, hi, h1⟩, ⟨y, h2⟩, f1, f2, hs, hb⟩ := h
  refine ⟨?_, ⟨i, hi, ?_⟩, ⟨x, ?_⟩, by simpa using f1, by simpa using f2, hs, ?_⟩
  · rw [World.cell?_setCell_other _ _ _ _ (by simp)]; exact h0
  · rw [World.cell?_setCell_other _ _ _ _ (by simp)]; exact h1
  · exact World.cell?_setCell_same _ _ _ h2
  · rcases hb with hb | ⟨b, off, ha, hne, hb⟩
    · exact .inl hb
    · refine .inr ⟨b, off, ha, hne, fun k hk => ?_⟩
      obtain ⟨z, z0, z1, hz⟩ := hb k hk
      exact ⟨z, z0, z1, by rw [World.cell?_setCell_other _ _ _ _ (by simp; try omega)]; exact hz⟩

theorem Cur.setAt {p : Nat} {a : Option Addr} {len cap : Nat} {w : World} (h : Cur p a len cap w) (j : Nat) (hj : j ≤ len) : Cur p a len cap (w.setCell ⟨p, 1, none⟩ (.int .i64 j)) := by
  obtain ⟨h0, ⟨i, hi, h1⟩, ⟨y, h2⟩, f1, f2, hs, hb⟩ := h
  refine ⟨?_, ⟨j, hj, ?_⟩, ⟨y, ?_⟩, by simpa using f1, by simpa using f2, hs, ?_⟩
  · rw [World.cell?_setCell_other _ _ _ _ (by simp)]; exact h0
  · exact World.cell?_setCell_same _ _ _ h1
  · rw [World.cell?_setCell_other _ _ _ _ (by simp)]; exact h2
  · rcases hb with hb | ⟨b, off, ha, hne, hb⟩
    · exact .inl hb
    · refine .inr ⟨b, off, ha, hne, fun k hk => ?_⟩
      obtain ⟨z, z0, z1, hz⟩ := hb k hk
      exact ⟨z, z0, z1, by rw [World.cell?_setCell_other _ _ _ _ (by simp; try omega)]; exact hz⟩

theorem Cur.setAtI {p : Nat} {a : Option Addr} {len cap : Nat} {w : World} (h : Cur p a len cap w) (x : Int) (j : Nat) (hj : j ≤ len) (hx : x = (j : Int)) : Cur p a len cap (w.setCell ⟨p, 1, none⟩ (.int .i64 x)) := by
  rw [hx]; exact h.setAt j hj

/-- what a call that leaves all that was there leaves of a cursor -/
theorem Cur.below {p : Nat} {a : Option Addr} {len cap : Nat} {w w' : World} (h : Cur p a len cap w) (hb : Below w.heap.size w w') : Cur p a len cap w' := by
  obtain ⟨h0, ⟨i, hi, h1⟩, ⟨y, h2⟩, f1, f2, hs, hby⟩ := h
  have f : ∀ (q : Addr) (v : Value), w.cell? q = some v → w'.cell? q = some v := fun q v hq => by
    rw [hb.cell (World.block_lt_of_cell? w q hq)]; exact hq
  have hp : p < w.heap.size := World.block_lt_of_cell? w _ h0
  refine ⟨f _ _ h0, ⟨i, hi, f _ _ h1⟩, ⟨y, f _ _ h2⟩, (hb.frozen (p := ⟨p, 1, none⟩) hp).trans f1, (hb.frozen (p := ⟨p, 2, none⟩) hp).trans f2, hs, ?_⟩
  rcases hby with hby | ⟨b, off, ha, hne, hby⟩
  · exact .inl hby
  · refine .inr ⟨b, off, ha, hne, fun k hk => ?_⟩
    obtain ⟨z, z0, z1, hz⟩ := hby k hk
    exact ⟨z, z0, z1, f _ _ hz⟩

theorem and255 (x : Int) : 0 ≤ bits .and .i64 x 255 ∧ bits .and .i64 x 255 ≤ 255 := by
  have e : bits .and .i64 x 255 = x % 256 := by
    show IntKind.i64.wrap ((BitVec.ofInt 64 x &&& BitVec.ofInt 64 255).toNat : Int) = x % 256
    have e : (BitVec.ofInt 64 x &&& BitVec.ofInt 64 255).toNat = (x % 256).toNat := by
      rw [BitVec.toNat_and, BitVec.toNat_ofInt, BitVec.toNat_ofInt]
      show (x % 2 ^ 64).toNat &&& 255 = _
      rw [show (255 : Nat) = 2 ^ 8 - 1 from rfl, Nat.and_two_pow_sub_one_eq_mod]
      omega
    rw [e, IntKind.wrap_i64]
    omega
  omega

/-- what a draw of a number gives -/
def Drawn (p : Nat) (a : Option Addr) (len cap : Nat) (w : World) (lo hi : Int) (e : Ending) (w' : World) : Prop :=
  ∃ x : Int, e = .returned (.int .i64 x) ∧ lo ≤ x ∧ x ≤ hi ∧ Cur p a len cap w' ∧ Kept p w w'

set_option maxHeartbeats 1000000 in
theorem byte_any (p : Nat) (a : Option Addr) (len cap : Nat) (w : World) (h : Cur p a len cap w) :
    Calls Try.prog 47 #[.pointer (some ⟨p, 0, none⟩)] w (Drawn p a len cap w 0 255) := by
  have hC := h
  obtain ⟨h0, ⟨i, hi, h1⟩, ⟨y, h2⟩, f1, f2, hs, hb⟩ := h
  unfold maxLen at hs
  by_cases hlt : i < len
  · obtain ⟨b, off, rfl, hne, hb⟩ : ∃ b off, a = some ⟨b, off, none⟩ ∧ b ≠ p ∧ ∀ k, k < len → ∃ z : Int, 0 ≤ z ∧ z ≤ 255 ∧ w.cell? ⟨b, off + k, none⟩ = some (.int .u8 z) := by
      rcases hb with hb | hb
      · omega
      · exact hb
    obtain ⟨z, z0, z1, hz⟩ := hb i hlt
    clear hb
    have hne2 : ¬ p = b := fun h => hne h.symm
    have HC : Hid (Cur p (some ⟨b, off, none⟩) len cap w) := hC
    clear hC
    go_enter Try.func47, Try.ntmps47
    go_wp2
    go_quiet (fail)
    go_wp2
    go_quiet (fail)
    go_wp2
    go_quiet (fail)
    go_wp2
    go_ret
    refine ⟨_, rfl, (and255 _).1, (and255 _).2, ?_, ?_⟩
    · repeat (first | with_reducible exact HC.out | with_reducible apply Cur.drewN | with_reducible apply Cur.setHash | with_reducible refine Cur.setAtI ?_ _ (i + 1) (by omega) (by omega))
    · repeat (first | with_reducible exact Kept.refl _ _ | with_reducible apply Kept.drewN | (refine Kept.setCell ?_ ?hp _; case hp => rfl))
  · have HC : Hid (Cur p a len cap w) := hC
    clear hC hb
    go_enter Try.func47, Try.ntmps47
    go_wp2
    go_quiet (fail)
    go_wp2
    go_quiet (fail)
    go_wp2
    go_ret
    refine ⟨_, rfl, (and255 _).1, (and255 _).2, ?_, ?_⟩
    · repeat (first | with_reducible exact HC.out | with_reducible apply Cur.drewN | with_reducible apply Cur.setHash | with_reducible refine Cur.setAtI ?_ _ (i + 1) (by omega) (by omega))
    · repeat (first | with_reducible exact Kept.refl _ _ | with_reducible apply Kept.drewN | (refine Kept.setCell ?_ ?hp _; case hp => rfl))

theorem below_any (p : Nat) (a : Option Addr) (len cap : Nat) (w : World) (h : Cur p a len cap w) (n : Int) (h1 : 1 ≤ n) (h2 : n ≤ 256) :
    Calls Try.prog 31 #[.pointer (some ⟨p, 0, none⟩), .int .i64 n] w (Drawn p a len cap w 0 (n - 1)) := by
  have hb := byte_any p a len cap w h
  clear h
  go_enter Try.func31, Try.ntmps31
  go_wp2_with fail
  refine hb.mono ?_
  rintro e w' ⟨x, rfl, x0, x1, hc, hk⟩
  go_wp2_with fail
  go_ret
  exact ⟨_, rfl, Int.emod_nonneg _ (by omega), by have := Int.emod_lt_of_pos x (show 0 < n by omega); omega, hc, hk⟩

theorem from_any (p : Nat) (a : Option Addr) (len cap : Nat) (w : World) (h : Cur p a len cap w) (lo hi : Int) (h0 : -100 ≤ lo) (h1 : lo ≤ hi) (h2 : hi ≤ 100) :
    Calls Try.prog 46 #[.pointer (some ⟨p, 0, none⟩), .int .i64 lo, .int .i64 hi] w (Drawn p a len cap w lo hi) := by
  have hb := below_any p a len cap w h (hi - lo + 1) (by omega) (by omega)
  clear h
  go_enter Try.func46, Try.ntmps46
  go_wp2_with fail
  refine hb.mono ?_
  rintro e w' ⟨x, rfl, x0, x1, hc, hk⟩
  go_wp2_with fail
  go_ret
  exact ⟨_, rfl, by omega, by omega, hc, hk⟩

/-- what a draw of a truth value gives -/
def DrawnB (p : Nat) (a : Option Addr) (len cap : Nat) (w : World) (e : Ending) (w' : World) : Prop :=
  ∃ q : Bool, e = .returned (.bool q) ∧ Cur p a len cap w' ∧ Kept p w w'

theorem once_any (p : Nat) (a : Option Addr) (len cap : Nat) (w : World) (h : Cur p a len cap w) (n : Int) (h1 : 1 ≤ n) (h2 : n ≤ 256) :
    Calls Try.prog 17 #[.pointer (some ⟨p, 0, none⟩), .int .i64 n] w (DrawnB p a len cap w) := by
  have hb := below_any p a len cap w h n h1 h2
  clear h
  go_enter Try.func17, Try.ntmps17
  go_wp2_with fail
  refine hb.mono ?_
  rintro e w' ⟨x, rfl, x0, x1, hc, hk⟩
  go_wp2_with fail
  go_ret
  exact ⟨_, rfl, hc, hk⟩



/-- bytes that came in -/
def Bytes (a : Option Addr) (len : Nat) (w : World) : Prop :=
  len ≤ maxLen ∧ (len = 0 ∨ ∃ b off, a = some ⟨b, off, none⟩ ∧ ∀ k, k < len → ∃ z : Int, 0 ≤ z ∧ z ≤ 255 ∧ w.cell? ⟨b, off + k, none⟩ = some (.int .u8 z))

theorem Bytes.below {a : Option Addr} {len : Nat} {w w' : World} (h : Bytes a len w) (hb : Below w.heap.size w w') : Bytes a len w' := by
  obtain ⟨hs, h⟩ := h
  refine ⟨hs, ?_⟩
  rcases h with h | ⟨b, off, ha, h⟩
  · exact .inl h
  · refine .inr ⟨b, off, ha, fun k hk => ?_⟩
    obtain ⟨z, z0, z1, hz⟩ := h k hk
    exact ⟨z, z0, z1, by rw [hb.cell (World.block_lt_of_cell? w _ hz)]; exact hz⟩

theorem new_any (a : Option Addr) (len cap : Nat) (w : World) (h : Bytes a len w) :
    Calls Try.prog 15 #[.slice a len cap] w fun e w' => ∃ h : Int, e = .returned (.pointer (some ⟨w.heap.size, 0, none⟩)) ∧ w' = w.alloc (.cells #[.slice a len cap, .int .i64 0, .int .i64 h] 63) := by
  obtain ⟨hs, hb⟩ := h
  unfold maxLen at hs
  have HB : Hid (len = 0 ∨ ∃ b off, a = some ⟨b, off, none⟩ ∧ ∀ k, k < len → ∃ z : Int, 0 ≤ z ∧ z ≤ 255 ∧ w.cell? ⟨b, off + k, none⟩ = some (.int .u8 z)) := hb
  clear hb
  go_enter Try.func15, Try.ntmps15
  go_wp2
  go_loop [3, 4] (fun h i => ∃ (x : Int) (k : Nat), k ≤ len ∧ h = .int .i64 x ∧ i = .int .i64 k) (fun _ i => len - (intOf i).toNat)
  case atStart => exact ⟨_, 0, by omega, rfl, rfl⟩
  case round =>
    obtain ⟨x, k, hk, rfl, rfl⟩ := hrel
    by_cases hlt : k < len
    · obtain ⟨b, off, rfl, hb⟩ : ∃ b off, a = some ⟨b, off, none⟩ ∧ ∀ k, k < len → ∃ z : Int, 0 ≤ z ∧ z ≤ 255 ∧ w.cell? ⟨b, off + k, none⟩ = some (.int .u8 z) := by
        rcases HB.out with h | h
        · omega
        · exact h
      obtain ⟨z, z0, z1, hz⟩ := hb k hlt
      clear hb HB
      go_wp2
      go_round
      case rel => exact ⟨_, k + 1, by omega, rfl, by go_num⟩
      case measure => simp [intOf]; omega
    · clear HB
      go_wp2
      go_ret
      exact ⟨rfl, _, rfl⟩

theorem cur_new (a : Option Addr) (len cap : Nat) (w : World) (h : Bytes a len w) (x : Int) :
    Cur w.heap.size a len cap (w.alloc (.cells #[.slice a len cap, .int .i64 0, .int .i64 x] 63)) := by
  obtain ⟨hs, hb⟩ := h
  refine ⟨by simp [go_sem], ⟨0, by omega, by simp [go_sem]⟩, ⟨x, by simp [go_sem]⟩, by simp [go_sem], by simp [go_sem], hs, ?_⟩
  rcases hb with h | ⟨b, off, ha, h⟩
  · exact .inl h
  · by_cases h0 : len = 0
    · exact .inl h0
    · refine .inr ⟨b, off, ha, ?_, fun k hk => ?_⟩
      · obtain ⟨z, _, _, hz⟩ := h 0 (by omega)
        have hbl : b < w.heap.size := World.block_lt_of_cell? w ⟨b, off + 0, none⟩ hz
        omega
      · obtain ⟨z, z0, z1, hz⟩ := h k hk
        exact ⟨z, z0, z1, by rw [World.cell?_alloc_lt w _ ⟨b, off + k, none⟩ (World.block_lt_of_cell? w _ hz)]; exact hz⟩

theorem big_any (a : Option Addr) (len cap : Nat) (w : World) :
    Calls Try.prog 4 #[.slice a len cap] w fun e w' => e = .returned (.bool (decide (1048576 < len))) ∧ w' = w := by
  by_cases h : 1048576 < len
  · have h' : (1048576 : Int) < (len : Int) := by omega
    rw [decide_eq_true h]
    go_enter Try.func4, Try.ntmps4
    go_wp2
    go_ret
    exact ⟨by simp, rfl⟩
  · have h' : ¬ (1048576 : Int) < (len : Int) := by omega
    rw [decide_eq_false h]
    go_enter Try.func4, Try.ntmps4
    go_wp2
    go_ret
    exact ⟨by simp, rfl⟩


end Go.Proofs.Ytjdbiaoheoialaa

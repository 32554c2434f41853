/- The copy of a list of pairs, and when two lists are alike. -/
import Derived.Test.YtfgjooddolnifaaZSum2
import Derived.OwnWalk
import Derived.Test.YtfgjooddolnifaaFad
namespace Go.Proofs.Ytfgjooddolnifaa.Z
open Ieee Go.RowKit
attribute [local go_sem] run_store_float alloc_drewN setCell_drewN shape?_drewN

theorem make_cs (n : Nat) (h : n ≤ 1048576) (w : World) :
    (Instr.makeSlice 24 (.int .i64 n) (.int .i64 n)).run Try.prog w = .ok (.slice (some ⟨w.heap.size, 0, none⟩) n n) (w.alloc (.cells (madeCells #[.float .f64 0, .float .f64 0] (n * 2)) 34)) := by
  have := run_make (P := Try.prog) w 24 34 _ (cx 0 0) Try.underlying24 rfl rfl .i64 .i64 n n (by omega) (by omega) (by show (16 : Int) * _ ≤ _; omega) (by omega)
  rw [this]
  show Result.ok (Value.slice _ (n : Int).toNat (n : Int).toNat) (w.alloc (.cells (madeCells (Value.cells (cx 0 0)) ((n : Int).toNat * 2)) 34)) = _
  rw [Int.toNat_natCast]
  rfl

theorem made2_at (n k : Nat) (h : k < n) : (madeCells #[Value.float .f64 0, .float .f64 0] n)[k]? = some (.float .f64 0) := by
  unfold madeCells
  rw [Array.getElem?_map, Array.getElem?_range, if_pos h]
  show some _ = _
  have h2 : k % 2 = 0 ∨ k % 2 = 1 := by omega
  show some ((#[Value.float .f64 0, .float .f64 0] : Array Value)[k % 2]!) = _
  rcases h2 with h2 | h2 <;> rw [h2] <;> rfl

/-- a row of pairs that is being filled: its first k pairs are there -/
def PartC (b len k : Nat) (re im : Nat → Nat) (w : World) : Prop :=
  ∀ j, j < len → (∃ x y, w.cell? ⟨b, j * 2, none⟩ = some (.float .f64 x) ∧ w.cell? ⟨b, j * 2 + 1, none⟩ = some (.float .f64 y) ∧ (j < k → x = re j ∧ y = im j)) ∧ w.frozen? ⟨b, j * 2, none⟩ = false ∧ w.frozen? ⟨b, j * 2 + 1, none⟩ = false

theorem partC_new (n : Nat) (re im : Nat → Nat) (w : World) : PartC w.heap.size n 0 re im (w.alloc (.cells (madeCells #[.float .f64 0, .float .f64 0] (n * 2)) 34)) := by
  intro j hj
  have h0 := made2_at (n * 2) (j * 2) (by omega)
  have h1 := made2_at (n * 2) (j * 2 + 1) (by omega)
  refine ⟨⟨0, 0, by simp [go_sem, h0], by simp [go_sem, h1], fun h => absurd h (Nat.not_lt_zero _)⟩, by simp [go_sem], by simp [go_sem]⟩

theorem PartC.below {b len k B : Nat} {re im : Nat → Nat} {w w' : World} (h : PartC b len k re im w) (hb : Below B w w') (hB : b < B) : PartC b len k re im w' := by
  intro j hj
  rw [hb.cell (p := ⟨b, j * 2, none⟩) hB, hb.cell (p := ⟨b, j * 2 + 1, none⟩) hB, hb.frozen (p := ⟨b, j * 2, none⟩) hB, hb.frozen (p := ⟨b, j * 2 + 1, none⟩) hB]
  exact h j hj

theorem PartC.cs {b len : Nat} {re im : Nat → Nat} {w : World} (h : PartC b len len re im w) : Cs (some ⟨b, 0, none⟩) len re im w := by
  refine .inr ⟨b, 0, rfl, fun k hk => ?_⟩
  obtain ⟨⟨x, y, hx, hy, e⟩, _, _⟩ := h k hk
  obtain ⟨rfl, rfl⟩ := e hk
  rw [Nat.zero_add]
  exact ⟨hx, hy⟩

theorem PartC.step {b len k : Nat} {re im : Nat → Nat} {w : World} (h : PartC b len k re im w) (hk : k < len) : PartC b len (k + 1) re im ((w.setCell ⟨b, k * 2, none⟩ (.float .f64 (re k))).setCell ⟨b, k * 2 + 1, none⟩ (.float .f64 (im k))) := by
  intro j hj
  obtain ⟨⟨x, y, hx, hy, e⟩, f0, f1⟩ := h j hj
  refine ⟨?_, by simpa using f0, by simpa using f1⟩
  by_cases hjk : j = k
  · subst hjk
    refine ⟨re j, im j, ?_, ?_, fun _ => ⟨rfl, rfl⟩⟩
    · rw [World.cell?_setCell_other _ _ _ _ (by simp)]
      exact World.cell?_setCell_same _ _ _ hx
    · refine World.cell?_setCell_same _ _ _ (u := .float .f64 y) ?_
      rw [World.cell?_setCell_other _ _ _ _ (by simp)]; exact hy
  · refine ⟨x, y, ?_, ?_, fun h => e (by omega)⟩
    · rw [World.cell?_setCell_other _ _ _ _ (by simp; try omega), World.cell?_setCell_other _ _ _ _ (by simp; try omega)]; exact hx
    · rw [World.cell?_setCell_other _ _ _ _ (by simp; try omega), World.cell?_setCell_other _ _ _ _ (by simp; try omega)]; exact hy

set_option maxHeartbeats 1000000 in
theorem toCxS_any (a : Option Addr) (len cap : Nat) (re im : Nat → Nat) (hl : len ≤ 1048576) (w : World) (h : Cs a len re im w) :
    Calls Try.prog 16 #[.slice a len cap] w fun e w' => e = .returned (.slice (some ⟨w.heap.size, 0, none⟩) len len) ∧ Cs (some ⟨w.heap.size, 0, none⟩) len re im w' ∧ Below w.heap.size w w' := by
  have hmk := make_cs len hl w
  have HP : Hid (Cs a len re im w) := h
  clear h
  go_enter Try.func16, Try.ntmps16
  go_wp2
  go_loopw [4] (fun i wr => ∃ k : Nat, k ≤ len ∧ i = .int .i64 k ∧ PartC w.heap.size len k re im wr ∧ Below w.heap.size w wr ∧ w.heap.size < wr.heap.size) (fun i _ => len - (intOf i).toNat)
  case atStart => exact ⟨0, by omega, rfl, partC_new len re im w, below_new _ _, by simp⟩
  case round =>
    obtain ⟨k, hk, rfl, hp, hb, hs⟩ := hrel
    clear hmk
    by_cases hlt : k < len
    · obtain ⟨b, off, rfl, hz, hz'⟩ := (HP.out.below hb).at hlt
      clear HP
      go_wp2_with fail
      refine (toCx_exact _ _ _).mono ?_
      rintro e w1 ⟨rfl, hw1⟩
      have hb1 : Below wr.heap.size wr w1 := by rw [hw1]; go_grown
      have hp1 := hp.below hb1 hs
      have HB1 : Hid (Below w.heap.size w w1) := bnext hb (Nat.le_refl _) hb1
      have hs1 : w.heap.size < w1.heap.size := Nat.lt_of_lt_of_le hs hb1.size
      obtain ⟨⟨x, y, hx, hy, _⟩, f0, f1⟩ := hp1 k hlt
      have HPt : Hid (PartC w.heap.size len (k + 1) re im _) := hp1.step hlt
      clear hw1 hb1 hp hb hs hz hz' hp1
      go_wp2_with fail
      exact ⟨⟨k + 1, by omega, rfl, HPt.out, (HB1.out.setCell (Nat.le_refl _) _).setCell (Nat.le_refl _) _, by simpa using hs1⟩, by simp [intOf]; omega⟩
    · obtain rfl : k = len := by omega
      go_wp2
      go_ret
      exact ⟨rfl, hp.cs, hb⟩

set_option maxHeartbeats 1000000 in
theorem eqCxS_any (a a' : Option Addr) (len cap cap' : Nat) (re im : Nat → Nat) (hl : len ≤ 1048576) (w : World) (h : Cs a len re im w) (h' : Cs a' len re im w) :
    Calls Try.prog 18 #[.slice a len cap, .slice a' len cap'] w fun e w' => e = .returned (.bool true) ∧ Below w.heap.size w w' := by
  have HP : Hid (Cs a len re im w) := h
  have HP' : Hid (Cs a' len re im w) := h'
  clear h h'
  go_enter Try.func18, Try.ntmps18
  go_wp2
  go_loopw [5] (fun i wr => ∃ k : Nat, k ≤ len ∧ i = .int .i64 k ∧ Below w.heap.size w wr) (fun i _ => len - (intOf i).toNat)
  case atStart => exact ⟨0, by omega, rfl, Below.refl _ _⟩
  case round =>
    obtain ⟨k, hk, rfl, hb⟩ := hrel
    by_cases hlt : k < len
    · obtain ⟨b, off, rfl, hz, hz'⟩ := (HP.out.below hb).at hlt
      obtain ⟨b', off', rfl, hy, hy'⟩ := (HP'.out.below hb).at hlt
      clear HP HP'
      have HB : Hid (Below w.heap.size w wr.drew) := hb.drew
      have hq := eqCx_any (re k) (im k) (re k) (im k) (same_rfl _) (same_rfl _)
      go_wp2_with fail
      go_region_with (go_at_call 30; refine (hq _).mono ?_; rintro e w1 ⟨rfl, hb1⟩)
      all_goals
        have HB1 : Hid (Below w.heap.size w w1) := bnext HB.out (Nat.le_refl _) hb1
        clear hb1 HB hb hz hz' hy hy'
        go_wp2_with fail
        exact ⟨⟨k + 1, by omega, rfl, HB1.out⟩, by simp [intOf]; omega⟩
    · go_wp2
      go_ret
      exact ⟨rfl, hb⟩

end Go.Proofs.Ytfgjooddolnifaa.Z

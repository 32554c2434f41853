/- Lists of Pulses: the copy that the law makes, when two are alike, marks. -/
import Derived.Test.YtjohlgemjkflhaaLst
namespace Go.Proofs.Ytjohlgemjkflhaa
open Go.RowKit

/-- a Pulse as a value, and in a block -/
abbrev vPulse (x0 x1 x2 x3 : Int) : Value := .agg #[.int .i64 x0, .int .i64 x1, .int .i64 x2, .int .i64 x3]
abbrev cPulse (x0 x1 x2 x3 : Int) (t : TypeId) : Obj := .cells #[.int .i64 x0, .int .i64 x1, .int .i64 x2, .int .i64 x3] t
def BPulse (b : Nat) (x0 x1 x2 x3 : Int) (w : World) : Prop :=
  w.cell? ⟨b, 0, none⟩ = some (.int .i64 x0) ∧ w.cell? ⟨b, 1, none⟩ = some (.int .i64 x1) ∧ w.cell? ⟨b, 2, none⟩ = some (.int .i64 x2) ∧ w.cell? ⟨b, 3, none⟩ = some (.int .i64 x3)
theorem BPulse.below {b B : Nat} {x0 x1 x2 x3 : Int} {w w' : World} (h : BPulse b x0 x1 x2 x3 w) (hb : Below B w w') (hl : b < B) : BPulse b x0 x1 x2 x3 w' := by
  obtain ⟨h0, h1, h2, h3⟩ := h
  exact ⟨(hb.cell (p := ⟨b, 0, none⟩) hl).trans h0, (hb.cell (p := ⟨b, 1, none⟩) hl).trans h1, (hb.cell (p := ⟨b, 2, none⟩) hl).trans h2, (hb.cell (p := ⟨b, 3, none⟩) hl).trans h3⟩
theorem BPulse.new (x0 x1 x2 x3 : Int) (t : TypeId) (w : World) : BPulse w.heap.size x0 x1 x2 x3 (w.alloc (cPulse x0 x1 x2 x3 t)) := by
  refine ⟨?_, ?_, ?_, ?_⟩ <;> simp [go_sem]

theorem Px.atPulse {a : Option Addr} {len : Nat} {g : Nat → Int} {w : World} {k : Nat} (h : Px a (len * 4) g w) (hk : k < len) :
    ∃ b off, a = some ⟨b, off, none⟩ ∧ b < w.heap.size ∧ w.cell? ⟨b, off + k * 4, none⟩ = some (.int .i64 (g (k * 4))) ∧ w.cell? ⟨b, off + k * 4 + 1, none⟩ = some (.int .i64 (g (k * 4 + 1))) ∧ w.cell? ⟨b, off + k * 4 + 2, none⟩ = some (.int .i64 (g (k * 4 + 2))) ∧ w.cell? ⟨b, off + k * 4 + 3, none⟩ = some (.int .i64 (g (k * 4 + 3))) := by
  rcases h with h | ⟨b, off, ha, hc⟩
  · omega
  · refine ⟨b, off, ha, World.block_lt_of_cell? w _ (hc (k * 4) (by omega)), hc (k * 4) (by omega), ?_, ?_, ?_⟩ <;> rw [Nat.add_assoc] <;> exact hc _ (by omega)

theorem Part.stPulse {b n k : Nat} {g : Nat → Int} {w : World} (h : Part b n k g w) (hk : k + 4 ≤ n) :
    Part b n (k + 4) g ((((w.setCell ⟨b, k, none⟩ (.int .i64 (g (k)))).setCell ⟨b, k + 1, none⟩ (.int .i64 (g (k + 1)))).setCell ⟨b, k + 2, none⟩ (.int .i64 (g (k + 2)))).setCell ⟨b, k + 3, none⟩ (.int .i64 (g (k + 3)))) := by
  have h0 := h.step (by omega) (g k) rfl
  have h1 := h0.step (by omega) (g (k + 1)) rfl
  have h2 := h1.step (by omega) (g (k + 2)) rfl
  exact h2.step (by omega) (g (k + 3)) rfl

theorem eqPulse_any (x0 x1 x2 x3 : Int) (w : World) :
    Calls Try.prog 24 #[vPulse x0 x1 x2 x3, vPulse x0 x1 x2 x3] w fun e w' => e = .returned (.bool true) ∧ Below w.heap.size w w' := by
  have HB0 : Hid (∀ o o', Below w.heap.size w ((w.alloc o).alloc o')) := fun o o' => (bnew _ _).alloc (by simp) _
  go_enter Try.func24, Try.ntmps24
  go_wp2_with fail
  go_ret
  exact ⟨rfl, HB0.out _ _⟩

set_option maxHeartbeats 1000000 in
theorem eqPulseS_any (a a' : Option Addr) (len cap cap' : Nat) (g : Nat → Int) (hl : len ≤ 1048576) (w : World) (h : Px a (len * 4) g w) (h' : Px a' (len * 4) g w) :
    Calls Try.prog 12 #[.slice a len cap, .slice a' len cap'] w fun e w' => e = .returned (.bool true) ∧ Below w.heap.size w w' := by
  have HP : Hid (Px a (len * 4) g w) := h
  have HP' : Hid (Px a' (len * 4) g w) := h'
  clear h h'
  go_enter Try.func12, Try.ntmps12
  go_wp2
  go_loopw [5] (fun i wr => ∃ k : Nat, k ≤ len ∧ i = .int .i64 k ∧ Below w.heap.size w wr) (fun i _ => len - (intOf i).toNat)
  case atStart => exact ⟨0, by omega, rfl, Below.refl _ _⟩
  case round =>
    obtain ⟨k, hk, rfl, hb⟩ := hrel
    by_cases hlt : k < len
    · obtain ⟨b, off, rfl, _, z0, z1, z2, z3⟩ := (HP.out.below hb).atPulse hlt
      obtain ⟨b', off', rfl, _, y0, y1, y2, y3⟩ := (HP'.out.below hb).atPulse hlt
      clear HP HP'
      have HB : Hid (Below w.heap.size w wr.drew) := hb.drew
      have hq := eqPulse_any (g (k * 4)) (g (k * 4 + 1)) (g (k * 4 + 2)) (g (k * 4 + 3))
      go_wp2_with fail
      go_region_with (go_at_call 24; refine (hq _).mono ?_; rintro e w1 ⟨rfl, hb1⟩)
      all_goals
        have HB1 : Hid (Below w.heap.size w w1) := bnext HB.out (Nat.le_refl _) hb1
        clear hb1 HB hb z0 z1 z2 z3 y0 y1 y2 y3
        go_wp2_with fail
        exact ⟨⟨k + 1, by omega, rfl, HB1.out⟩, by simp [intOf]; omega⟩
    · go_wp2
      go_ret
      exact ⟨rfl, hb⟩

set_option maxHeartbeats 1000000 in
theorem markPulseS_any (a : Option Addr) (b len cap : Nat) (g : Nat → Int) (hl : len ≤ 1048576) (w : World) (h : Ow a b (len * 4) g w) :
    Calls Try.prog 13 #[.slice a len cap, .int .i64 1] w fun e w' => e = .returned (.int .i64 (1 + 4 * (len : Int))) ∧ Ow a b (len * 4) (fun q => 1 + (q : Int)) w' ∧ Kept b w w' := by
  go_enter Try.func13, Try.ntmps13
  go_wp2
  go_loopw [1, 5] (fun k i wr => ∃ j : Nat, j ≤ len ∧ i = .int .i64 j ∧ k = .int .i64 (1 + 4 * (j : Int)) ∧ Kept b w wr ∧ (len * 4 = 0 ∨ (a = some ⟨b, 0, none⟩ ∧ Part b (len * 4) (j * 4) (fun q => 1 + (q : Int)) wr))) (fun _ i _ => len - (intOf i).toNat)
  case atStart =>
    refine ⟨0, by omega, rfl, by simp, Kept.refl _ _, ?_⟩
    rcases h with h | ⟨ha, h⟩
    · exact .inl h
    · exact .inr ⟨ha, by rw [Nat.zero_mul]; exact h.part⟩
  case round =>
    obtain ⟨j, hj, rfl, rfl, hk, hp⟩ := hrel
    clear h
    by_cases hlt : j < len
    · obtain ⟨ha, hq⟩ : a = some ⟨b, 0, none⟩ ∧ Part b (len * 4) (j * 4) (fun q => 1 + (q : Int)) wr := by
        rcases hp with hp | hp
        · omega
        · exact hp
      clear hp
      subst ha
      obtain ⟨⟨y0, c0, _⟩, f0⟩ := hq (j * 4) (by omega)
      obtain ⟨⟨y1, c1, _⟩, f1⟩ := hq (j * 4 + 1) (by omega)
      obtain ⟨⟨y2, c2, _⟩, f2⟩ := hq (j * 4 + 2) (by omega)
      obtain ⟨⟨y3, c3, _⟩, f3⟩ := hq (j * 4 + 3) (by omega)
      have HK : Hid (Kept b w wr) := hk
      have HQ : Hid (Part b (len * 4) (j * 4) (fun q => 1 + (q : Int)) wr) := hq
      clear hq hk
      go_wp2_with fail
      have hk := HK.out
      have hq := HQ.out
      refine ⟨⟨j + 1, by omega, rfl, ?_, ?_, .inr ⟨trivial, ?_⟩⟩, by simp [intOf]; omega⟩
      · first | (congr 1; done) | (congr 1; omega)
      · exact ((((hk.setCell rfl _).setCell rfl _).setCell rfl _).setCell rfl _)
      · rw [Nat.succ_mul]
        have h0 := hq.step (by omega) (1 + 4 * (j : Int)) (by omega)
        have h1 := h0.step (by omega) (1 + 4 * (j : Int) + 1) (by omega)
        have h2 := h1.step (by omega) (1 + 4 * (j : Int) + 2) (by omega)
        have h3 := h2.step (by omega) (1 + 4 * (j : Int) + 3) (by omega)
        exact h3
    · obtain rfl : j = len := by omega
      go_wp2
      go_ret
      refine ⟨rfl, ?_, hk⟩
      rcases hp with hp | ⟨ha, hp⟩
      · exact .inl hp
      · exact .inr ⟨ha, hp.row⟩

set_option maxHeartbeats 1000000 in
theorem heldPulseS_any (a : Option Addr) (b len cap : Nat) (hl : len ≤ 1048576) (w : World) (h : Ow a b (len * 4) (fun q => 1 + (q : Int)) w) :
    Calls Try.prog 14 #[.slice a len cap, .int .i64 1] w fun e w' => e = .returned (.int .i64 (1 + 4 * (len : Int))) ∧ w' = w := by
  have HO : Hid (Ow a b (len * 4) (fun q => 1 + (q : Int)) w) := h
  clear h
  go_enter Try.func14, Try.ntmps14
  go_wp2
  go_loop [1, 5] (fun k i => ∃ j : Nat, j ≤ len ∧ i = .int .i64 j ∧ k = .int .i64 (1 + 4 * (j : Int))) (fun _ i => len - (intOf i).toNat)
  case atStart => exact ⟨0, by omega, rfl, by simp⟩
  case round =>
    obtain ⟨j, hj, rfl, rfl⟩ := hrel
    by_cases hlt : j < len
    · obtain ⟨ha, hq⟩ : a = some ⟨b, 0, none⟩ ∧ Row b (len * 4) (fun q => 1 + (q : Int)) w := by
        rcases HO.out with hp | hp
        · omega
        · exact hp
      clear HO
      subst ha
      have c0 : w.cell? ⟨b, j * 4, none⟩ = some (.int .i64 (1 + 4 * (j : Int))) := by rw [(hq (j * 4) (by omega)).1]; congr 2; dsimp only; omega
      have c1 : w.cell? ⟨b, j * 4 + 1, none⟩ = some (.int .i64 (1 + 4 * (j : Int) + 1)) := by rw [(hq (j * 4 + 1) (by omega)).1]; congr 2; dsimp only; omega
      have c2 : w.cell? ⟨b, j * 4 + 2, none⟩ = some (.int .i64 (1 + 4 * (j : Int) + 2)) := by rw [(hq (j * 4 + 2) (by omega)).1]; congr 2; dsimp only; omega
      have c3 : w.cell? ⟨b, j * 4 + 3, none⟩ = some (.int .i64 (1 + 4 * (j : Int) + 3)) := by rw [(hq (j * 4 + 3) (by omega)).1]; congr 2; dsimp only; omega
      have n0 : (1 + 4 * (j : Int) != 1 + 4 * (j : Int)) = false := by simp
      have n1 : (1 + 4 * (j : Int) + 1 != 1 + 4 * (j : Int) + 1) = false := by simp
      have n2 : (1 + 4 * (j : Int) + 2 != 1 + 4 * (j : Int) + 2) = false := by simp
      have n3 : (1 + 4 * (j : Int) + 3 != 1 + 4 * (j : Int) + 3) = false := by simp
      clear hq
      go_wp2_with fail
      exact ⟨⟨j + 1, by omega, rfl, by first | (congr 1; done) | (congr 1; omega)⟩, by simp [intOf]; omega⟩
    · obtain rfl : j = len := by omega
      go_wp2
      go_ret
      exact ⟨rfl, rfl⟩

end Go.Proofs.Ytjohlgemjkflhaa

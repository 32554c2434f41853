/- Marks of lists of Joints. -/
import Derived.Test.YtfpcenaaenondaaJnl
namespace Go.Proofs.Ytfpcenaaenondaa
open Go.RowKit

theorem Part.mkJoint {b n k : Nat} {g : Nat → Int} {w : World} (h : Part b n k g w) (hk : k + 3 ≤ n) {y0 y1 y2 : Int} (e0 : y0 = g (k)) (e1 : y1 = g (k + 1)) (e2 : y2 = g (k + 2)) :
    Part b n (k + 3) g (((w.setCell ⟨b, k, none⟩ (.int .i64 y0)).setCell ⟨b, k + 1, none⟩ (.int .i64 y1)).setCell ⟨b, k + 2, none⟩ (.int .i64 y2)) := by
  have h0 := h.step (by omega) y0 e0
  have h1 := h0.step (by omega) y1 e1
  exact h1.step (by omega) y2 e2

set_option maxHeartbeats 1000000 in
theorem markJointK_any (a : Option Addr) (b len cap : Nat) (g : Nat → Int) (hl : len ≤ 1048576) (k0 : Int) (hk0 : 0 ≤ k0) (hk1 : k0 ≤ 4194304) (w : World) (h : Ow a b (len * 3) g w) :
    Calls Try.prog 11 #[.slice a len cap, .int .i64 k0] w fun e w' => e = .returned (.int .i64 (k0 + 3 * (len : Int))) ∧ Ow a b (len * 3) (fun q => k0 + (q : Int)) w' ∧ Kept b w w' := by
  go_enter Try.func11, Try.ntmps11
  go_wp2
  go_loopw [1, 5] (fun k i wr => ∃ j : Nat, j ≤ len ∧ i = .int .i64 j ∧ k = .int .i64 (k0 + 3 * (j : Int)) ∧ Kept b w wr ∧ (len * 3 = 0 ∨ (a = some ⟨b, 0, none⟩ ∧ Part b (len * 3) (j * 3) (fun q => k0 + (q : Int)) wr))) (fun _ i _ => len - (intOf i).toNat)
  case atStart =>
    refine ⟨0, by omega, rfl, by simp, Kept.refl _ _, ?_⟩
    rcases h with h | ⟨ha, h⟩
    · exact .inl h
    · exact .inr ⟨ha, by rw [Nat.zero_mul]; exact h.part⟩
  case round =>
    obtain ⟨j, hj, rfl, rfl, hk, hp⟩ := hrel
    clear h
    by_cases hlt : j < len
    · obtain ⟨ha, hq⟩ : a = some ⟨b, 0, none⟩ ∧ Part b (len * 3) (j * 3) (fun q => k0 + (q : Int)) wr := by
        rcases hp with hp | hp
        · omega
        · exact hp
      clear hp
      subst ha
      obtain ⟨⟨y0, c0, _⟩, f0⟩ := hq (j * 3) (by omega)
      obtain ⟨⟨y1, c1, _⟩, f1⟩ := hq (j * 3 + 1) (by omega)
      obtain ⟨⟨y2, c2, _⟩, f2⟩ := hq (j * 3 + 2) (by omega)
      have HK : Hid (Kept b w wr) := hk
      have HQ : Hid (Part b (len * 3) (j * 3) (fun q => k0 + (q : Int)) wr) := hq
      clear hq hk
      go_wp2_with fail
      have hk := HK.out
      have hq := HQ.out
      refine ⟨⟨j + 1, by omega, rfl, ?_, ?_, .inr ⟨trivial, ?_⟩⟩, by simp [intOf]; omega⟩
      · first | (congr 1; done) | (congr 1; omega)
      · exact (((hk.setCell rfl _).setCell rfl _).setCell rfl _)
      · rw [Nat.succ_mul]
        refine hq.mkJoint (by omega) ?_ ?_ ?_ <;> (try dsimp only) <;> omega
    · obtain rfl : j = len := by omega
      go_wp2
      go_ret
      refine ⟨rfl, ?_, hk⟩
      rcases hp with hp | ⟨ha, hp⟩
      · exact .inl hp
      · exact .inr ⟨ha, hp.row⟩
theorem markJointS_any (a : Option Addr) (b len cap : Nat) (g : Nat → Int) (hl : len ≤ 1048576) (w : World) (h : Ow a b (len * 3) g w) :
    Calls Try.prog 11 #[.slice a len cap, .int .i64 1] w fun e w' => e = .returned (.int .i64 (1 + 3 * (len : Int))) ∧ Ow a b (len * 3) (fun q => 1 + (q : Int)) w' ∧ Kept b w w' := markJointK_any a b len cap g hl 1 (by omega) (by omega) w h

set_option maxHeartbeats 1000000 in
theorem heldJointS_any (a : Option Addr) (b len cap : Nat) (hl : len ≤ 1048576) (w : World) (h : Ow a b (len * 3) (fun q => 1 + (q : Int)) w) :
    Calls Try.prog 12 #[.slice a len cap, .int .i64 1] w fun e w' => e = .returned (.int .i64 (1 + 3 * (len : Int))) ∧ w' = w := by
  have HO : Hid (Ow a b (len * 3) (fun q => 1 + (q : Int)) w) := h
  clear h
  go_enter Try.func12, Try.ntmps12
  go_wp2
  go_loop [1, 5] (fun k i => ∃ j : Nat, j ≤ len ∧ i = .int .i64 j ∧ k = .int .i64 (1 + 3 * (j : Int))) (fun _ i => len - (intOf i).toNat)
  case atStart => exact ⟨0, by omega, rfl, by simp⟩
  case round =>
    obtain ⟨j, hj, rfl, rfl⟩ := hrel
    by_cases hlt : j < len
    · obtain ⟨ha, hq⟩ : a = some ⟨b, 0, none⟩ ∧ Row b (len * 3) (fun q => 1 + (q : Int)) w := by
        rcases HO.out with hp | hp
        · omega
        · exact hp
      clear HO
      subst ha
      have c0 : w.cell? ⟨b, j * 3, none⟩ = some (.int .i64 (1 + 3 * (j : Int))) := by rw [(hq (j * 3) (by omega)).1]; congr 2; dsimp only; omega
      have c1 : w.cell? ⟨b, j * 3 + 1, none⟩ = some (.int .i64 (1 + 3 * (j : Int) + 1)) := by rw [(hq (j * 3 + 1) (by omega)).1]; congr 2; dsimp only; omega
      have c2 : w.cell? ⟨b, j * 3 + 2, none⟩ = some (.int .i64 (1 + 3 * (j : Int) + 2)) := by rw [(hq (j * 3 + 2) (by omega)).1]; congr 2; dsimp only; omega
      have n0 : (1 + 3 * (j : Int) != 1 + 3 * (j : Int)) = false := by simp
      have n1 : (1 + 3 * (j : Int) + 1 != 1 + 3 * (j : Int) + 1) = false := by simp
      have n2 : (1 + 3 * (j : Int) + 2 != 1 + 3 * (j : Int) + 2) = false := by simp
      clear hq
      go_wp2_with fail
      exact ⟨⟨j + 1, by omega, rfl, by first | (congr 1; done) | (congr 1; omega)⟩, by simp [intOf]; omega⟩
    · obtain rfl : j = len := by omega
      go_wp2
      go_ret
      exact ⟨rfl, rfl⟩

end Go.Proofs.Ytfpcenaaenondaa

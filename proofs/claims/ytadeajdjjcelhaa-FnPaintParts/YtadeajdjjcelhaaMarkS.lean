/- Marking a list of shapes. -/
import Derived.Test.YtadeajdjjcelhaaPntS2
import Derived.Test.YtadeajdjjcelhaaPntI2
import Derived.Test.YtadeajdjjcelhaaHold2
namespace Go.Proofs.Ytadeajdjjcelhaa
open Go.RowKit
set_option maxRecDepth 100000
set_option maxHeartbeats 2000000

theorem Part.any {b n : Nat} {f : Nat → Int} {w : World} (h : Part b n 0 f w) (k : Nat) (z : Int) : Part b n 0 f (w.setCell ⟨b, k, none⟩ (.int .i64 z)) := by
  intro j hj
  obtain ⟨⟨y, hy, _⟩, fr⟩ := h j hj
  refine ⟨?_, by simpa using fr⟩
  by_cases hjk : j = k
  · subst hjk
    exact ⟨z, World.cell?_setCell_same _ _ _ hy, fun h => absurd h (Nat.not_lt_zero _)⟩
  · exact ⟨y, by rw [World.cell?_setCell_other _ _ _ _ (by simp; try omega)]; exact hy, fun h => absurd h (Nat.not_lt_zero _)⟩

theorem Part.some_row {b n : Nat} {f : Nat → Int} {w : World} (h : Part b n 0 f w) : ∃ f', Row b n f' w := by
  have each : ∀ j, ∃ z, j < n → w.cell? ⟨b, j, none⟩ = some (.int .i64 z) := by
    intro j
    by_cases hj : j < n
    · obtain ⟨⟨z, hz, _⟩, _⟩ := h j hj
      exact ⟨z, fun _ => hz⟩
    · exact ⟨0, fun h => absurd h hj⟩
  obtain ⟨f', hf⟩ := Classical.skolem.1 each
  exact ⟨f', fun j hj => ⟨hf j hj, (h j hj).2⟩⟩

set_option maxHeartbeats 8000000 in
theorem markShapeS_any (b len cap : Nat) (g : Nat → Int) (hl : len ≤ 1048576) (w : World) (h : Row b (len * 7) g w) :
    Calls Try.prog 30 #[.slice (some ⟨b, 0, none⟩) len cap, .int .i64 1] w fun e w' => (∃ z : Int, e = .returned (.int .i64 z) ∧ 0 ≤ z) ∧ (∃ f', Row b (len * 7) f' w') ∧ Kept b w w' := by
  go_enter Try.func30, Try.ntmps30
  go_wp2
  go_loopw [1, 5] (fun m i wr => ∃ j : Nat, j ≤ len ∧ i = .int .i64 j ∧ m = .int .i64 (1 + 7 * (j : Int)) ∧ Kept b w wr ∧ Part b (len * 7) 0 g wr) (fun _ i _ => len - (intOf i).toNat)
  case atStart => exact ⟨0, by omega, rfl, by simp, Kept.refl _ _, h.part⟩
  case round =>
    obtain ⟨j, hj, rfl, rfl, hk, hp⟩ := hrel
    clear h
    by_cases hlt : j < len
    · obtain ⟨⟨y0, c0, _⟩, f0⟩ := hp (j * 7) (by omega)
      obtain ⟨⟨y1, c1, _⟩, f1⟩ := hp (j * 7 + 1) (by omega)
      obtain ⟨⟨y2, c2, _⟩, f2⟩ := hp (j * 7 + 2) (by omega)
      obtain ⟨⟨y3, c3, _⟩, f3⟩ := hp (j * 7 + 3) (by omega)
      obtain ⟨⟨y4, c4, _⟩, f4⟩ := hp (j * 7 + 4) (by omega)
      obtain ⟨⟨y5, c5, _⟩, f5⟩ := hp (j * 7 + 5) (by omega)
      obtain ⟨⟨y6, c6, _⟩, f6⟩ := hp (j * 7 + 6) (by omega)
      have HP : Hid (Part b (len * 7) 0 g wr) := hp
      have HK : Hid (Kept b w wr) := hk
      clear hp hk
      go_wp2_with fail
      refine ⟨⟨j + 1, by omega, rfl, ?_, ?_, ?_⟩, by simp [intOf]; omega⟩
      · first | (congr 1; done) | (congr 1; omega)
      · exact ((((((HK.out.setCell rfl _).setCell rfl _).setCell rfl _).setCell rfl _).setCell rfl _).setCell rfl _).setCell rfl _
      · exact ((((((HP.out.any _ _).any _ _).any _ _).any _ _).any _ _).any _ _).any _ _
    · obtain rfl : j = len := by omega
      go_wp2
      go_ret
      exact ⟨⟨_, rfl, by omega⟩, hp.some_row, hk⟩

theorem paint_small {g : Nat → Int} {n : Nat} {W H : Int} (h : paintB g n W H = true) : (W * H).toNat ≤ 1048576 := by
  unfold paintB at h
  simp only [Bool.and_eq_true] at h
  obtain ⟨hW, hH, _⟩ := h
  obtain ⟨m, rfl, _, m2⟩ := side_nat hW
  obtain ⟨M, rfl, _, M2⟩ := side_nat hH
  have en : ((m : Int) * (M : Int)).toNat = m * M := by
    rw [← Int.natCast_mul]; exact Int.toNat_natCast _
  rw [en]
  have := Nat.mul_le_mul m2 M2
  omega

end Go.Proofs.Ytadeajdjjcelhaa

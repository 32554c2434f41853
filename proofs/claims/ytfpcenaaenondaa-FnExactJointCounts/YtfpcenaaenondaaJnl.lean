/- Lists of Joints: the copy that the law makes, when two are alike, marks. -/
import Derived.Test.YtfpcenaaenondaaIls
namespace Go.Proofs.Ytfpcenaaenondaa
open Go.RowKit

/-- a Joint as a value, and in a block -/
abbrev vJoint (x0 x1 x2 : Int) : Value := .agg #[.int .i64 x0, .int .i64 x1, .int .i64 x2]
abbrev cJoint (x0 x1 x2 : Int) (t : TypeId) : Obj := .cells #[.int .i64 x0, .int .i64 x1, .int .i64 x2] t
def BJoint (b : Nat) (x0 x1 x2 : Int) (w : World) : Prop :=
  w.cell? ⟨b, 0, none⟩ = some (.int .i64 x0) ∧ w.cell? ⟨b, 1, none⟩ = some (.int .i64 x1) ∧ w.cell? ⟨b, 2, none⟩ = some (.int .i64 x2)
theorem BJoint.below {b B : Nat} {x0 x1 x2 : Int} {w w' : World} (h : BJoint b x0 x1 x2 w) (hb : Below B w w') (hl : b < B) : BJoint b x0 x1 x2 w' := by
  obtain ⟨h0, h1, h2⟩ := h
  exact ⟨(hb.cell (p := ⟨b, 0, none⟩) hl).trans h0, (hb.cell (p := ⟨b, 1, none⟩) hl).trans h1, (hb.cell (p := ⟨b, 2, none⟩) hl).trans h2⟩
theorem BJoint.new (x0 x1 x2 : Int) (t : TypeId) (w : World) : BJoint w.heap.size x0 x1 x2 (w.alloc (cJoint x0 x1 x2 t)) := by
  refine ⟨?_, ?_, ?_⟩ <;> simp [go_sem]

theorem Px.atJoint {a : Option Addr} {len : Nat} {g : Nat → Int} {w : World} {k : Nat} (h : Px a (len * 3) g w) (hk : k < len) :
    ∃ b off, a = some ⟨b, off, none⟩ ∧ b < w.heap.size ∧ w.cell? ⟨b, off + k * 3, none⟩ = some (.int .i64 (g (k * 3))) ∧ w.cell? ⟨b, off + k * 3 + 1, none⟩ = some (.int .i64 (g (k * 3 + 1))) ∧ w.cell? ⟨b, off + k * 3 + 2, none⟩ = some (.int .i64 (g (k * 3 + 2))) := by
  rcases h with h | ⟨b, off, ha, hc⟩
  · omega
  · refine ⟨b, off, ha, World.block_lt_of_cell? w _ (hc (k * 3) (by omega)), hc (k * 3) (by omega), ?_, ?_⟩ <;> rw [Nat.add_assoc] <;> exact hc _ (by omega)

theorem Part.stJoint {b n k : Nat} {g : Nat → Int} {w : World} (h : Part b n k g w) (hk : k + 3 ≤ n) :
    Part b n (k + 3) g (((w.setCell ⟨b, k, none⟩ (.int .i64 (g (k)))).setCell ⟨b, k + 1, none⟩ (.int .i64 (g (k + 1)))).setCell ⟨b, k + 2, none⟩ (.int .i64 (g (k + 2)))) := by
  have h0 := h.step (by omega) (g k) rfl
  have h1 := h0.step (by omega) (g (k + 1)) rfl
  exact h1.step (by omega) (g (k + 2)) rfl

theorem eqJoint_any (x0 x1 x2 : Int) (w : World) :
    Calls Try.prog 21 #[vJoint x0 x1 x2, vJoint x0 x1 x2] w fun e w' => e = .returned (.bool true) ∧ Below w.heap.size w w' := by
  have HB0 : Hid (∀ o o', Below w.heap.size w ((w.alloc o).alloc o')) := fun o o' => (bnew _ _).alloc (by simp) _
  go_enter Try.func21, Try.ntmps21
  go_wp2_with fail
  go_ret
  exact ⟨rfl, HB0.out _ _⟩

set_option maxHeartbeats 1000000 in
theorem eqJointS_any (a a' : Option Addr) (len cap cap' : Nat) (g : Nat → Int) (hl : len ≤ 1048576) (w : World) (h : Px a (len * 3) g w) (h' : Px a' (len * 3) g w) :
    Calls Try.prog 8 #[.slice a len cap, .slice a' len cap'] w fun e w' => e = .returned (.bool true) ∧ Below w.heap.size w w' := by
  have HP : Hid (Px a (len * 3) g w) := h
  have HP' : Hid (Px a' (len * 3) g w) := h'
  clear h h'
  go_enter Try.func8, Try.ntmps8
  go_wp2
  go_loopw [5] (fun i wr => ∃ k : Nat, k ≤ len ∧ i = .int .i64 k ∧ Below w.heap.size w wr) (fun i _ => len - (intOf i).toNat)
  case atStart => exact ⟨0, by omega, rfl, Below.refl _ _⟩
  case round =>
    obtain ⟨k, hk, rfl, hb⟩ := hrel
    by_cases hlt : k < len
    · obtain ⟨b, off, rfl, _, z0, z1, z2⟩ := (HP.out.below hb).atJoint hlt
      obtain ⟨b', off', rfl, _, y0, y1, y2⟩ := (HP'.out.below hb).atJoint hlt
      clear HP HP'
      have HB : Hid (Below w.heap.size w wr.drew) := hb.drew
      have hq := eqJoint_any (g (k * 3)) (g (k * 3 + 1)) (g (k * 3 + 2))
      go_wp2_with fail
      go_region_with (go_at_call 21; refine (hq _).mono ?_; rintro e w1 ⟨rfl, hb1⟩)
      all_goals
        have HB1 : Hid (Below w.heap.size w w1) := bnext HB.out (Nat.le_refl _) hb1
        clear hb1 HB hb z0 z1 z2 y0 y1 y2
        go_wp2_with fail
        exact ⟨⟨k + 1, by omega, rfl, HB1.out⟩, by simp [intOf]; omega⟩
    · go_wp2
      go_ret
      exact ⟨rfl, hb⟩

end Go.Proofs.Ytfpcenaaenondaa

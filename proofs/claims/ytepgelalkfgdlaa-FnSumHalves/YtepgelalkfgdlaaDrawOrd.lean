/- The draw of two floats out of bytes. -/
import Derived.Test.YtepgelalkfgdlaaDraw
namespace Go.Proofs.Ytepgelalkfgdlaa
open Ieee Go.RowKit Fl
attribute [local go_sem] run_fneg

/-- bytes that came in -/
def Bytes (a : Option Addr) (len : Nat) (w : World) : Prop :=
  len ≤ maxLen ∧ (len = 0 ∨ ∃ b off, a = some ⟨b, off, none⟩ ∧ ∀ k, k < len → ∃ z : Int, 0 ≤ z ∧ z ≤ 255 ∧ w.cell? ⟨b, off + k, none⟩ = some (.int .u8 z))

theorem Bytes.below {a : Option Addr} {len : Nat} {w w' : World} (h : Bytes a len w) (hb : Below w.heap.size w w') : Bytes a len w' := by
  obtain ⟨hs, h⟩ := h
  refine ⟨hs, ?_⟩
  rcases h with h | ⟨b, off, ha, h⟩
  · exact .inl h
  · refine .inr ⟨b, off, ha, fun k hk => ?_⟩
    obtain ⟨z, z0, z1, hz⟩ := h k hk
    exact ⟨z, z0, z1, by rw [hb.cell (World.block_lt_of_cell? w _ hz)]; exact hz⟩

theorem new_any (a : Option Addr) (len cap : Nat) (w : World) (h : Bytes a len w) :
    Calls Try.prog 54 #[.slice a len cap] w fun e w' => ∃ h : Int, e = .returned (.pointer (some ⟨w.heap.size, 0, none⟩)) ∧ w' = w.alloc (.cells #[.slice a len cap, .int .i64 0, .int .i64 h] 93) := by
  obtain ⟨hs, hb⟩ := h
  unfold maxLen at hs
  have HB : Hid (len = 0 ∨ ∃ b off, a = some ⟨b, off, none⟩ ∧ ∀ k, k < len → ∃ z : Int, 0 ≤ z ∧ z ≤ 255 ∧ w.cell? ⟨b, off + k, none⟩ = some (.int .u8 z)) := hb
  clear hb
  go_enter Try.func54, Try.ntmps54
  go_wp2
  go_loop [3, 4] (fun h i => ∃ (x : Int) (k : Nat), k ≤ len ∧ h = .int .i64 x ∧ i = .int .i64 k) (fun _ i => len - (intOf i).toNat)
  case atStart => exact ⟨_, 0, by omega, rfl, rfl⟩
  case round =>
    obtain ⟨x, k, hk, rfl, rfl⟩ := hrel
    by_cases hlt : k < len
    · obtain ⟨b, off, rfl, hb⟩ : ∃ b off, a = some ⟨b, off, none⟩ ∧ ∀ k, k < len → ∃ z : Int, 0 ≤ z ∧ z ≤ 255 ∧ w.cell? ⟨b, off + k, none⟩ = some (.int .u8 z) := by
        rcases HB.out with h | h
        · omega
        · exact h
      obtain ⟨z, z0, z1, hz⟩ := hb k hlt
      clear hb HB
      go_wp2
      go_round
      case rel => exact ⟨_, k + 1, by omega, rfl, by go_num⟩
      case measure => simp [intOf]; omega
    · clear HB
      go_wp2
      go_ret
      exact ⟨rfl, _, rfl⟩

theorem cur_new (a : Option Addr) (len cap : Nat) (w : World) (h : Bytes a len w) (x : Int) :
    Cur w.heap.size a len cap (w.alloc (.cells #[.slice a len cap, .int .i64 0, .int .i64 x] 93)) := by
  obtain ⟨hs, hb⟩ := h
  refine ⟨by simp [go_sem], ⟨0, by omega, by simp [go_sem]⟩, ⟨x, by simp [go_sem]⟩, by simp [go_sem], by simp [go_sem], hs, ?_⟩
  rcases hb with h | ⟨b, off, ha, h⟩
  · exact .inl h
  · by_cases h0 : len = 0
    · exact .inl h0
    · refine .inr ⟨b, off, ha, ?_, fun k hk => ?_⟩
      · obtain ⟨z, _, _, hz⟩ := h 0 (by omega)
        have hbl : b < w.heap.size := World.block_lt_of_cell? w ⟨b, off + 0, none⟩ hz
        omega
      · obtain ⟨z, z0, z1, hz⟩ := h k hk
        exact ⟨z, z0, z1, by rw [World.cell?_alloc_lt w _ ⟨b, off + k, none⟩ (World.block_lt_of_cell? w _ hz)]; exact hz⟩

theorem fneg_lt (x : Nat) (h : x < 2 ^ 64) : fneg x < 2 ^ 64 := Nat.xor_lt_two_pow h (by decide)

theorem drawOrd_any (a : Option Addr) (len cap : Nat) (w : World) (h : Bytes a len w) :
    Calls Try.prog 31 #[.slice a len cap] w fun e w' => (∃ x y : Nat, x < 2 ^ 64 ∧ y < 2 ^ 64 ∧ e = .returned (.tuple #[.float .f64 x, .float .f64 y])) ∧ Below w.heap.size w w' := by
  have hn := new_any a len cap w h
  have hcn := cur_new a len cap w h
  clear h
  go_enter Try.func31, Try.ntmps31
  go_wp2_with fail
  refine hn.mono ?_
  rintro e w1 ⟨x, rfl, hw1⟩
  have hc1 : Cur w.heap.size a len cap w1 := by rw [hw1]; exact hcn x
  have B1 : Below w.heap.size w w1 := by rw [hw1]; exact (Below.refl _ _).alloc (Nat.le_refl _) _
  clear hn hcn hw1
  have hf1 := float_any w.heap.size a len cap w1 hc1
  go_wp2_with fail
  refine hf1.mono ?_
  rintro e w2 ⟨f, hf, rfl, hc2, hk2⟩
  have HF : Hid (f < 2 ^ 64) := hf
  clear hf1 hf
  have hf2 := float_any w.heap.size a len cap w2 hc2
  go_wp2_with fail
  refine hf2.mono ?_
  rintro e w3 ⟨g, hg, rfl, hc3, hk3⟩
  have HG : Hid (g < 2 ^ 64) := hg
  clear hf2 hg
  have ho1 := once_any w.heap.size a len cap w3 hc3 4 (by omega) (by omega)
  go_wp2_with fail
  refine ho1.mono ?_
  rintro e w4 ⟨q, rfl, hc4, hk4⟩
  clear ho1
  have ho2 := once_any w.heap.size a len cap w4 hc4 8 (by omega) (by omega)
  have K4 := (hk2.trans hk3).trans hk4
  clear hk2 hk3 hk4 hc1 hc2 hc3 hc4
  cases q
  all_goals
    go_wp2_with fail
    refine ho2.mono ?_
    rintro e w5 ⟨r, rfl, hc5, hk5⟩
    clear ho2
    have K5 := K4.trans hk5
    have B5 := B1.trans (K5.below (Nat.le_refl _) B1.size)
    clear K4 K5 hk5 hc5 B1
    cases r
    all_goals
      go_wp2_with fail
      go_ret2
      exact ⟨⟨_, _, by first | exact HF.out | exact fneg_lt _ HF.out, by first | exact HG.out | exact HF.out | exact fneg_lt _ HF.out, rfl⟩, B5⟩

end Go.Proofs.Ytepgelalkfgdlaa

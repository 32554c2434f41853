/- The draw of two floats out of bytes. -/
import Derived.Test.YtbhomfgponhemaaZDraw
namespace Go.Proofs.Ytbhomfgponhemaa.Z
open Ieee Go.RowKit Fl
attribute [local go_sem] run_fneg

/-- bytes that came in -/
def Bytes (a : Option Addr) (len : Nat) (w : World) : Prop :=
  len ≤ maxLen ∧ (len = 0 ∨ ∃ b off, a = some ⟨b, off, none⟩ ∧ ∀ k, k < len → ∃ z : Int, 0 ≤ z ∧ z ≤ 255 ∧ w.cell? ⟨b, off + k, none⟩ = some (.int .u8 z))

theorem Bytes.below {a : Option Addr} {len : Nat} {w w' : World} (h : Bytes a len w) (hb : Below w.heap.size w w') : Bytes a len w' := by
  obtain ⟨hs, h⟩ := h
  refine ⟨hs, ?_⟩
  rcases h with h | ⟨b, off, ha, h⟩
  · exact .inl h
  · refine .inr ⟨b, off, ha, fun k hk => ?_⟩
    obtain ⟨z, z0, z1, hz⟩ := h k hk
    exact ⟨z, z0, z1, by rw [hb.cell (World.block_lt_of_cell? w _ hz)]; exact hz⟩

theorem new_any (a : Option Addr) (len cap : Nat) (w : World) (h : Bytes a len w) :
    Calls Try.prog 19 #[.slice a len cap] w fun e w' => ∃ h : Int, e = .returned (.pointer (some ⟨w.heap.size, 0, none⟩)) ∧ w' = w.alloc (.cells #[.slice a len cap, .int .i64 0, .int .i64 h] 50) := by
  obtain ⟨hs, hb⟩ := h
  unfold maxLen at hs
  have HB : Hid (len = 0 ∨ ∃ b off, a = some ⟨b, off, none⟩ ∧ ∀ k, k < len → ∃ z : Int, 0 ≤ z ∧ z ≤ 255 ∧ w.cell? ⟨b, off + k, none⟩ = some (.int .u8 z)) := hb
  clear hb
  go_enter Try.func19, Try.ntmps19
  go_wp2
  go_loop [3, 4] (fun h i => ∃ (x : Int) (k : Nat), k ≤ len ∧ h = .int .i64 x ∧ i = .int .i64 k) (fun _ i => len - (intOf i).toNat)
  case atStart => exact ⟨_, 0, by omega, rfl, rfl⟩
  case round =>
    obtain ⟨x, k, hk, rfl, rfl⟩ := hrel
    by_cases hlt : k < len
    · obtain ⟨b, off, rfl, hb⟩ : ∃ b off, a = some ⟨b, off, none⟩ ∧ ∀ k, k < len → ∃ z : Int, 0 ≤ z ∧ z ≤ 255 ∧ w.cell? ⟨b, off + k, none⟩ = some (.int .u8 z) := by
        rcases HB.out with h | h
        · omega
        · exact h
      obtain ⟨z, z0, z1, hz⟩ := hb k hlt
      clear hb HB
      go_wp2
      go_round
      case rel => exact ⟨_, k + 1, by omega, rfl, by go_num⟩
      case measure => simp [intOf]; omega
    · clear HB
      go_wp2
      go_ret
      exact ⟨rfl, _, rfl⟩

theorem cur_new (a : Option Addr) (len cap : Nat) (w : World) (h : Bytes a len w) (x : Int) :
    Cur w.heap.size a len cap (w.alloc (.cells #[.slice a len cap, .int .i64 0, .int .i64 x] 50)) := by
  obtain ⟨hs, hb⟩ := h
  refine ⟨by simp [go_sem], ⟨0, by omega, by simp [go_sem]⟩, ⟨x, by simp [go_sem]⟩, by simp [go_sem], by simp [go_sem], hs, ?_⟩
  rcases hb with h | ⟨b, off, ha, h⟩
  · exact .inl h
  · by_cases h0 : len = 0
    · exact .inl h0
    · refine .inr ⟨b, off, ha, ?_, fun k hk => ?_⟩
      · obtain ⟨z, _, _, hz⟩ := h 0 (by omega)
        have hbl : b < w.heap.size := World.block_lt_of_cell? w ⟨b, off + 0, none⟩ hz
        omega
      · obtain ⟨z, z0, z1, hz⟩ := h k hk
        exact ⟨z, z0, z1, by rw [World.cell?_alloc_lt w _ ⟨b, off + k, none⟩ (World.block_lt_of_cell? w _ hz)]; exact hz⟩

theorem fneg_lt (x : Nat) (h : x < 2 ^ 64) : fneg x < 2 ^ 64 := Nat.xor_lt_two_pow h (by decide)

end Go.Proofs.Ytbhomfgponhemaa.Z

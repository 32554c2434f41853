/- Marking a list of numbers and looking whether the marks are there. -/
import Derived.Test.YtadeajdjjcelhaaImg
namespace Go.Proofs.Ytadeajdjjcelhaa
open Go.RowKit

/-- what was there before stays, but for the block p -/
structure Kept (p : Nat) (w w' : World) : Prop where
  os : w'.os = w.os
  tape : w'.tape = w.tape
  output : w'.output = w.output
  size : w.heap.size ≤ w'.heap.size
  block : ∀ k, k < w.heap.size → k ≠ p → w'.heap[k]? = w.heap[k]?

theorem Kept.of_below {p : Nat} {w w' : World} (h : Below w.heap.size w w') : Kept p w w' := ⟨h.os, h.tape, h.output, h.size, fun k hk _ => h.block k hk⟩
theorem Kept.refl (p : Nat) (w : World) : Kept p w w := Kept.of_below (Below.refl _ _)
theorem Kept.trans {p : Nat} {a b c : World} (h : Kept p a b) (k : Kept p b c) : Kept p a c :=
  ⟨k.os.trans h.os, k.tape.trans h.tape, k.output.trans h.output, Nat.le_trans h.size k.size, fun j hj hp => (k.block j (Nat.lt_of_lt_of_le hj h.size) hp).trans (h.block j hj hp)⟩
theorem Kept.below {p B : Nat} {w w' : World} (h : Kept p w w') (h1 : B ≤ p) (h2 : B ≤ w.heap.size) : Below B w w' :=
  ⟨h.os, h.tape, h.output, h.size, fun k hk => h.block k (Nat.lt_of_lt_of_le hk h2) (by omega)⟩
theorem Kept.cell {p : Nat} {w w' : World} (h : Kept p w w') {a : Addr} {v : Value} (hp : a.block ≠ p) (hv : w.cell? a = some v) : w'.cell? a = some v := by
  rw [World.cell?_of_block (w := w) (h.block a.block (World.block_lt_of_cell? w a hv) hp)]; exact hv
theorem Kept.frozen {p : Nat} {w w' : World} (h : Kept p w w') {a : Addr} {v : Value} (hp : a.block ≠ p) (hv : w.cell? a = some v) : w'.frozen? a = w.frozen? a := by
  have := h.block a.block (World.block_lt_of_cell? w a hv) hp
  simp only [World.frozen?, this]
theorem Kept.setCell {p : Nat} {w w' : World} (h : Kept p w w') {a : Addr} (hp : a.block = p) (v : Value) : Kept p w (w'.setCell a v) :=
  ⟨h.os, h.tape, h.output, by simpa using h.size, fun k hk hk2 => (Below.heap_setCell w' a v k (by omega)).trans (h.block k hk hk2)⟩

/-- a list of its own: no number, or a row at block b -/
def Ow (a : Option Addr) (b len : Nat) (f : Nat → Int) (w : World) : Prop := len = 0 ∨ (a = some ⟨b, 0, none⟩ ∧ Row b len f w)

theorem Ow.px {a : Option Addr} {b len : Nat} {f : Nat → Int} {w : World} (h : Ow a b len f w) : Px a len f w := by
  rcases h with h | ⟨rfl, h⟩
  · exact .inl h
  · exact h.px
theorem Ow.kept {a : Option Addr} {b len p : Nat} {f : Nat → Int} {w w' : World} (h : Ow a b len f w) (hk : Kept p w w') (hb : b ≠ p) : Ow a b len f w' := by
  rcases h with h | ⟨rfl, h⟩
  · exact .inl h
  · refine .inr ⟨rfl, fun j hj => ⟨hk.cell hb (h j hj).1, ?_⟩⟩
    rw [hk.frozen hb (h j hj).1]; exact (h j hj).2
theorem Ow.below {a : Option Addr} {b len : Nat} {f : Nat → Int} {w w' : World} (h : Ow a b len f w) (hb : Below w.heap.size w w') (hl : b < w.heap.size) : Ow a b len f w' := by
  rcases h with h | ⟨rfl, h⟩
  · exact .inl h
  · exact .inr ⟨rfl, h.below hb hl⟩
theorem Px.kept {a : Option Addr} {len p : Nat} {f : Nat → Int} {w w' : World} (h : Px a len f w) (hk : Kept p w w') (hp : ∀ b off, a = some ⟨b, off, none⟩ → b ≠ p) : Px a len f w' := by
  rcases h with h | ⟨b, off, ha, h⟩
  · exact .inl h
  · exact .inr ⟨b, off, ha, fun k hk' => hk.cell (hp b off ha) (h k hk')⟩

theorem mark_any (a : Option Addr) (b len cap : Nat) (f : Nat → Int) (k : Int) (h0 : 0 ≤ k) (h1 : k ≤ 4194304) (hl : len ≤ 1048576) (w : World) (h : Ow a b len f w) :
    Calls Try.prog 58 #[.slice a len cap, .int .i64 k] w fun e w' => e = .returned (.int .i64 (k + len)) ∧ Ow a b len (fun j => k + j) w' ∧ Kept b w w' ∧ w'.heap.size = w.heap.size := by
  go_enter Try.func58, Try.ntmps58
  go_wp2
  go_loopw [1, 5] (fun m i wr => ∃ j : Nat, j ≤ len ∧ i = .int .i64 j ∧ m = .int .i64 (k + j) ∧ Kept b w wr ∧ wr.heap.size = w.heap.size ∧ (len = 0 ∨ (a = some ⟨b, 0, none⟩ ∧ Part b len j (fun j => k + j) wr))) (fun _ i _ => len - (intOf i).toNat)
  case atStart =>
    refine ⟨0, by omega, rfl, by simp, Kept.refl _ _, rfl, ?_⟩
    rcases h with h | ⟨ha, h⟩
    · exact .inl h
    · exact .inr ⟨ha, h.part⟩
  case round =>
    obtain ⟨j, hj, rfl, rfl, hk, hs, hp⟩ := hrel
    clear h
    by_cases hlt : j < len
    · obtain ⟨ha, hq⟩ : a = some ⟨b, 0, none⟩ ∧ Part b len j (fun j => k + j) wr := by
        rcases hp with hp | hp
        · omega
        · exact hp
      clear hp
      subst ha
      obtain ⟨⟨y, hy, _⟩, fr⟩ := hq j hlt
      have HP := hq.step hlt (k + j) rfl
      have HK : Kept b w (World.setCell _ ⟨b, j, none⟩ (.int .i64 (k + j))) := hk.setCell rfl _
      clear hq hk
      go_wp2
      exact ⟨⟨j + 1, by omega, rfl, by congr 1; omega, HK, by simpa using hs, .inr ⟨trivial, HP⟩⟩, by simp [intOf]; omega⟩
    · obtain rfl : j = len := by omega
      go_wp2
      go_ret
      refine ⟨rfl, ?_, hk, hs⟩
      rcases hp with hp | ⟨ha, hp⟩
      · exact .inl hp
      · exact .inr ⟨ha, hp.row⟩

theorem held_any (a : Option Addr) (b len cap : Nat) (k : Int) (h0 : 0 ≤ k) (h1 : k ≤ 4194304) (hl : len ≤ 1048576) (w : World) (h : Ow a b len (fun j => k + j) w) :
    Calls Try.prog 59 #[.slice a len cap, .int .i64 k] w fun e w' => e = .returned (.int .i64 (k + len)) ∧ w' = w := by
  have HO : Hid (Ow a b len (fun j => k + j) w) := h
  clear h
  go_enter Try.func59, Try.ntmps59
  go_wp2
  go_loop [1, 5] (fun m i => ∃ j : Nat, j ≤ len ∧ i = .int .i64 j ∧ m = .int .i64 (k + j)) (fun _ i => len - (intOf i).toNat)
  case atStart => exact ⟨0, by omega, rfl, by simp⟩
  case round =>
    obtain ⟨j, hj, rfl, rfl⟩ := hrel
    by_cases hlt : j < len
    · obtain ⟨ha, hq⟩ : a = some ⟨b, 0, none⟩ ∧ Row b len (fun j => k + j) w := by
        rcases HO.out with hp | hp
        · omega
        · exact hp
      clear HO
      subst ha
      have hy := (hq j hlt).1
      have hne : (k + (j : Int) != k + (j : Int)) = false := by simp
      clear hq
      go_wp2
      exact ⟨⟨j + 1, by omega, rfl, by congr 1; omega⟩, by simp [intOf]; omega⟩
    · obtain rfl : j = len := by omega
      go_wp2
      go_ret
      exact ⟨rfl, rfl⟩

theorem markImage_any (W H : Int) (a : Option Addr) (b len cap : Nat) (f : Nat → Int) (k : Int) (h0 : 0 ≤ k) (h1 : k ≤ 4194304) (hl : len ≤ 1048576) (w : World) (h : Ow a b len f w) (hb : b < w.heap.size) :
    Calls Try.prog 31 #[im W H a len cap, .int .i64 k] w fun e w' => e = .returned (.int .i64 (k + len)) ∧ Ow a b len (fun j => k + j) w' ∧ Kept b w w' := by
  have hA : Below w.heap.size w (w.alloc (.cells #[.int .i64 W, .int .i64 H, .slice a len cap] 29)) := (Below.refl _ _).alloc (Nat.le_refl _) _
  have hc := mark_any a b len cap f k h0 h1 hl _ (h.below hA hb)
  have HA : Hid (Kept b w (w.alloc (.cells #[.int .i64 W, .int .i64 H, .slice a len cap] 29))) := Kept.of_below hA
  clear h hA
  go_enter Try.func31, Try.ntmps31
  go_wp2_with fail
  refine hc.mono ?_
  rintro e w1 ⟨rfl, ho, hk, hs⟩
  have HK := HA.out.trans hk
  clear hc hk
  go_wp2_with fail
  go_ret
  exact ⟨rfl, ho, HK⟩

theorem heldImage_any (W H : Int) (a : Option Addr) (b len cap : Nat) (k : Int) (h0 : 0 ≤ k) (h1 : k ≤ 4194304) (hl : len ≤ 1048576) (w : World) (h : Ow a b len (fun j => k + j) w) (hb : b < w.heap.size) :
    Calls Try.prog 32 #[im W H a len cap, .int .i64 k] w fun e w' => e = .returned (.int .i64 (k + len)) ∧ Below w.heap.size w w' := by
  have hA : Below w.heap.size w (w.alloc (.cells #[.int .i64 W, .int .i64 H, .slice a len cap] 29)) := (Below.refl _ _).alloc (Nat.le_refl _) _
  have hc := held_any a b len cap k h0 h1 hl _ (h.below hA hb)
  have HA : Hid (Below w.heap.size w (w.alloc (.cells #[.int .i64 W, .int .i64 H, .slice a len cap] 29))) := hA
  have hn : ¬ k + (len : Int) < 0 := by omega
  clear h hA
  go_enter Try.func32, Try.ntmps32
  go_wp2_with fail
  refine hc.mono ?_
  rintro e w1 ⟨rfl, rfl⟩
  clear hc
  go_wp2_with fail
  go_ret
  exact ⟨rfl, HA.out⟩

end Go.Proofs.Ytadeajdjjcelhaa

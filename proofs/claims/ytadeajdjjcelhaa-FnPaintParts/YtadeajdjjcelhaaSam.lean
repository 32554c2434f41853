/- When two images are the same, by the law's own look. -/
import Derived.Test.YtadeajdjjcelhaaHold2
namespace Go.Proofs.Ytadeajdjjcelhaa
open Go.RowKit

set_option maxHeartbeats 1000000 in
theorem sameInts_any (a a' : Option Addr) (len cap cap' : Nat) (f : Nat → Int) (hl : len ≤ 1048576) (w : World) (h : Px a len f w) (h' : Px a' len f w) :
    Calls Try.prog 48 #[.slice a len cap, .slice a' len cap'] w fun e w' => e = .returned (.bool true) ∧ Below w.heap.size w w' := by
  have HP : Hid (Px a len f w) := h
  have HP' : Hid (Px a' len f w) := h'
  clear h h'
  go_enter Try.func48, Try.ntmps48
  go_wp2
  go_loopw [5] (fun i wr => ∃ k : Nat, k ≤ len ∧ i = .int .i64 k ∧ Below w.heap.size w wr) (fun i _ => len - (intOf i).toNat)
  case atStart => exact ⟨0, by omega, rfl, Below.refl _ _⟩
  case round =>
    obtain ⟨k, hk, rfl, hb⟩ := hrel
    by_cases hlt : k < len
    · obtain ⟨b, off, rfl, hz⟩ := (HP.out.below hb).at hlt
      obtain ⟨b', off', rfl, hz'⟩ := (HP'.out.below hb).at hlt
      have HB : Hid (∀ n, Below w.heap.size w (wr.drewN n)) := fun n => ⟨hb.os, hb.tape, hb.output, hb.size, hb.block⟩
      have hne : (f k != f k) = false := by simp
      clear HP HP' hb
      go_wp2
      go_quiet (fail)
      go_wp2
      exact ⟨⟨k + 1, by omega, rfl, HB.out _⟩, by simp [intOf]; omega⟩
    · go_wp2
      go_ret
      exact ⟨rfl, hb⟩

set_option maxHeartbeats 1000000 in
theorem sameImage_any (W H : Int) (a a' : Option Addr) (len cap cap' : Nat) (f : Nat → Int) (hl : len ≤ 1048576) (w : World) (h : Px a len f w) (h' : Px a' len f w) :
    Calls Try.prog 16 #[im W H a len cap, im W H a' len cap'] w fun e w' => e = .returned (.bool true) ∧ Below w.heap.size w w' := by
  have hb : Below w.heap.size w ((w.alloc (.cells #[.int .i64 W, .int .i64 H, .slice a len cap] 29)).alloc (.cells #[.int .i64 W, .int .i64 H, .slice a' len cap'] 29)) := ((Below.refl _ _).alloc (Nat.le_refl _) _).alloc (by simp) _
  have c := sameInts_any a a' len cap cap' f hl _ (h.below hb) (h'.below hb)
  have HB := hide hb
  clear h h' hb
  go_enter Try.func16, Try.ntmps16
  go_wp2_with fail
  refine c.mono ?_
  rintro e w1 ⟨rfl, hb1⟩
  have HB1 := hide (HB.out.trans (hb1.mono (by simp; omega)))
  clear hb1 c HB
  go_wp2_with fail
  go_ret
  exact ⟨rfl, HB1.out⟩

end Go.Proofs.Ytadeajdjjcelhaa

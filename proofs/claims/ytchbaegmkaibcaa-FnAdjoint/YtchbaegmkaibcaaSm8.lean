/- Images that are the same (laws.sameImage). -/
import Derived.Test.YtchbaegmkaibcaaHom
namespace Go.Proofs.Ytchbaegmkaibcaa
open Go.RowKit

theorem sameInts_any (a a' : Option Addr) (len cap cap' : Nat) (f : Nat → Int) (hl : len ≤ 1048576) (w : World) (h : Px a len f w) (h' : Px a' len f w) :
    Calls Try.prog 30 #[.slice a len cap, .slice a' len cap'] w fun e w' => e = .returned (.bool true) ∧ ∃ n, w' = w.drewN n := by
  have HP := hide h
  have HP' := hide h'
  clear h h'
  have q0 : (((len : Nat) : Int) != (len : Int)) = false := by simp
  go_enter Try.func30, Try.ntmps30
  go_wp2
  go_loopw [5] (fun i wr => ∃ k n : Nat, k ≤ len ∧ i = .int .i64 k ∧ wr = w.drewN n) (fun i _ => len - (intOf i).toNat)
  case atStart => exact ⟨0, 0, by omega, rfl, rfl⟩
  case round =>
    obtain ⟨k, n, hk, rfl, rfl⟩ := hrel
    by_cases hlt : k < len
    · obtain ⟨b, off, rfl, hz⟩ := HP.out.at hlt
      obtain ⟨b', off', rfl, hz'⟩ := HP'.out.at hlt
      clear HP HP'
      go_wp2
      go_quiet (fail)
      go_wp2
      go_roundw
      case rel => exact ⟨k + 1, _, by omega, by go_num, rfl⟩
      case measure => simp [intOf]; omega
    · go_wp2
      go_ret
      exact ⟨rfl, _, rfl⟩

set_option maxRecDepth 100000 in
theorem sameImage_any (W H : Int) (a a' : Option Addr) (n cap cap' : Nat) (f : Nat → Int) (hl : n ≤ 1048576) (w : World) (h : Px a n f w) (h' : Px a' n f w) :
    Calls Try.prog 12 #[im W H a n cap, im W H a' n cap'] w fun e w' => e = .returned (.bool true) ∧ Below w.heap.size w w' := by
  have HS := hide (((St.start w).box [.int .i64 W, .int .i64 H, .slice a n cap] 26).box' [.int .i64 W, .int .i64 H, .slice a' n cap'] 26 (b := w.heap.size + 1) (by simp))
  have c := sameInts_any a a' n cap cap' f hl _ (h.below HS.out.below) (h'.below HS.out.below)
  have q0 : (W == W) = true := by simp
  have q1 : (H == H) = true := by simp
  clear h h'
  go_enter Try.func12, Try.ntmps12
  go_upto_region 1 with fail
  generalize hw2 : World.alloc (World.alloc w _) _ = w2 at *
  have HS2 : Hid (St w [(w.heap.size + 1, [.int .i64 W, .int .i64 H, .slice a' n cap']), (w.heap.size, [.int .i64 W, .int .i64 H, .slice a n cap])] [] w2) := HS.out
  obtain ⟨i0, i1, i2⟩ := HS2.out.im3 1 rfl
  obtain ⟨j0, j1, j2⟩ := HS2.out.im3 0 rfl
  clear HS hw2
  go_wp2_with fail
  refine c.mono ?_
  rintro e w3 ⟨rfl, d, rfl⟩
  have HB := hide (below_drewN HS2.out.below d)
  clear c HS2 i0 i1 i2 j0 j1 j2
  go_wp2_with fail
  go_ret
  exact ⟨rfl, HB.out⟩

end Go.Proofs.Ytchbaegmkaibcaa

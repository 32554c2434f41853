/- Is one image within another (laws.within). -/
import Derived.Test.YtchbaegmkaibcaaAdt
import Derived.BigRegion
namespace Go.Proofs.Ytchbaegmkaibcaa
open Go.RowKit

set_option maxRecDepth 100000 in
set_option maxHeartbeats 1000000 in
theorem lwithin_any (W H W' H' : Int) (a a' : Option Addr) (n cap cap' : Nat) (f g : Nat → Int) (hl : n ≤ 1048576) (w : World) (h : Px a n f w) (h' : Px a' n g w) :
    Calls Try.prog 11 #[im W H a n cap, im W' H' a' n cap'] w fun e w' => e = .returned (.bool (leB f g n)) ∧ Below w.heap.size w w' := by
  have HS := hide (((St.start w).box [.int .i64 W, .int .i64 H, .slice a n cap] 26).box' [.int .i64 W', .int .i64 H', .slice a' n cap'] 26 (b := w.heap.size + 1) (by simp))
  have HP := hide (h.below HS.out.below)
  have HP' := hide (h'.below HS.out.below)
  have tn : ((n : Int) != (n : Int)) = false := by simp
  clear h h'
  go_enter Try.func11, Try.ntmps11
  go_upto_region 1 with fail
  generalize hw2 : World.alloc (World.alloc w _) _ = w2 at *
  have HS2 : Hid (St w [(w.heap.size + 1, [.int .i64 W', .int .i64 H', .slice a' n cap']), (w.heap.size, [.int .i64 W, .int .i64 H, .slice a n cap])] [] w2) := HS.out
  obtain ⟨i0, i1, i2⟩ := HS2.out.im3 1 rfl
  obtain ⟨j0, j1, j2⟩ := HS2.out.im3 0 rfl
  clear HS hw2
  go_wp2_with fail
  go_loopw [5] (fun i wr => ∃ k d : Nat, k ≤ n ∧ i = .int .i64 k ∧ leB f g k = true ∧ wr = w2.drewN d) (fun i _ => n - (intOf i).toNat)
  case atStart => exact ⟨0, 0, by omega, rfl, rfl, rfl⟩
  case round =>
    obtain ⟨k, d, hk, rfl, hle, rfl⟩ := hrel
    by_cases hlt : k < n
    · obtain ⟨b, off, rfl, hz⟩ := HP.out.at hlt
      obtain ⟨b', off', rfl, hz'⟩ := HP'.out.at hlt
      have HB := hide (fun d => below_drewN HS2.out.below d)
      by_cases hc : f k ≤ g k
      · have HLE : Hid (leB f g (k + 1) = true) := by show (leB f g k && decide (f k ≤ g k)) = true; rw [hle, decide_eq_true hc]; rfl
        have hc' : ¬ g k < f k := by omega
        have hkw : IntKind.i64.wrap ((k : Int) + 1) = (k : Int) + 1 := by rw [IntKind.wrap_i64]; omega
        have HMe : Hid (n - (k + 1) < n - k) := by show _ < _; omega
        have HJ : Hid (k + 1 ≤ n) := by show _ ≤ _; omega
        generalize f k = F at *
        generalize g k = G at *
        clear HP HP' HS2 hle hc
        go_wp2_with fail
        go_quiet (fail)
        go_wp2_with fail
        go_roundw
        case rel => exact ⟨k + 1, _, HJ.out, by simp, HLE.out, rfl⟩
        case measure => simpa [intOf] using HMe.out
      · have HLE : Hid (leB f g n = false) := leB_no hlt hc
        have hc' : g k < f k := by omega
        generalize f k = F at *
        generalize g k = G at *
        clear HP HP' HS2 hle hc
        go_wp2_with fail
        go_quiet (fail)
        go_wp2_with fail
        go_ret
        exact ⟨by rw [HLE.out]; rfl, below_drewN (HB.out _) _⟩
    · obtain rfl : k = n := by omega
      have HLE := hide hle
      have HB := hide (below_drewN HS2.out.below d)
      clear HP HP' HS2 hle
      go_wp2_with fail
      go_ret
      exact ⟨by rw [HLE.out]; rfl, HB.out⟩

end Go.Proofs.Ytchbaegmkaibcaa

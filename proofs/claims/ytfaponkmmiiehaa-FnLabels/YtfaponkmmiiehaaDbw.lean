/- A draw below any number, with its bounds. -/
import Derived.Test.YtfaponkmmiiehaaDpg
namespace Go.Proofs.Ytfaponkmmiiehaa
open Go.RowKit

set_option maxRecDepth 100000 in
set_option maxHeartbeats 2000000 in
theorem belowW_any (p : Nat) (a : Option Addr) (len cap : Nat) (w : World) (h : Cur p a len cap w) (n : Int) (h1 : 1 ≤ n) (h2 : n ≤ 1000000) :
    Calls Try.prog 34 #[.pointer (some ⟨p, 0, none⟩), .int .i64 n] w (Drawn p a len cap w 0 (n - 1)) := by
  by_cases h3 : n ≤ 256
  · exact below_any p a len cap w h n h1 h3
  have hn0 : (n == 0) = false := by simp; omega
  have hn1 : ¬ n = 0 := by omega
  have hd := byte_any p a len cap w h
  clear h
  go_enter Try.func34, Try.ntmps34
  go_wp2_with fail
  refine hd.mono ?_
  rintro e w1 ⟨x1, rfl, l1, u1, hc, hk⟩
  have HK1 := hide hk
  clear hd hk
  have hd := byte_any p a len cap w1 hc
  clear hc
  go_wp2_with fail
  refine hd.mono ?_
  rintro e w2 ⟨x2, rfl, l2, u2, hc, hk⟩
  have HK2 := hide (HK1.out.trans hk)
  clear hd hk HK1
  have hd := byte_any p a len cap w2 hc
  clear hc
  go_wp2_with fail
  refine hd.mono ?_
  rintro e w3 ⟨x3, rfl, l3, u3, hc, hk⟩
  have HK3 := hide (HK2.out.trans hk)
  clear hd hk HK2
  have hd := byte_any p a len cap w3 hc
  clear hc
  go_wp2_with fail
  refine hd.mono ?_
  rintro e w4 ⟨x4, rfl, l4, u4, hc, hk⟩
  have HK4 := hide (HK3.out.trans hk)
  have HC := hide hc
  clear hd hk HK3 hc
  have a1 : IntKind.i64.wrap (x1 * 16777216) = x1 * 16777216 := by rw [IntKind.wrap_i64]; omega
  have a2 : IntKind.i64.wrap (x2 * 65536) = x2 * 65536 := by rw [IntKind.wrap_i64]; omega
  have a3 : IntKind.i64.wrap (x3 * 256) = x3 * 256 := by rw [IntKind.wrap_i64]; omega
  have a4 : IntKind.i64.wrap (x1 * 16777216 + x2 * 65536) = x1 * 16777216 + x2 * 65536 := by rw [IntKind.wrap_i64]; omega
  have a5 : IntKind.i64.wrap (x1 * 16777216 + x2 * 65536 + x3 * 256) = x1 * 16777216 + x2 * 65536 + x3 * 256 := by rw [IntKind.wrap_i64]; omega
  obtain ⟨T, hT⟩ : ∃ T, T = x1 * 16777216 + x2 * 65536 + x3 * 256 + x4 := ⟨_, rfl⟩
  have a6 : IntKind.i64.wrap (x1 * 16777216 + x2 * 65536 + x3 * 256 + x4) = T := by rw [IntKind.wrap_i64, ← hT]; omega
  have hT0 : 0 ≤ T := by omega
  have HR0 : Hid (0 ≤ T % n ∧ T % n ≤ n - 1) := by
    have := Int.emod_nonneg T hn1
    have := Int.emod_lt_of_pos T (show 0 < n by omega)
    exact ⟨by omega, by omega⟩
  clear hT l1 u1 l2 u2 l3 u3 l4 u4
  go_wp2_with fail
  go_ret
  exact ⟨T % n, rfl, HR0.out.1, HR0.out.2, HC.out, HK4.out⟩

end Go.Proofs.Ytfaponkmmiiehaa

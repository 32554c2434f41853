/- The program's reader: so many bits that no number holds them. -/
import Derived.Test.YtebcclmilplfcaaXpt
import Derived.BigRegion
namespace Go.Proofs.Ytebcclmilplfcaa
open Go.RowKit

set_option maxRecDepth 100000 in
set_option maxHeartbeats 2000000 in
theorem takeW_any (p : Nat) (a : Option Addr) (N cap o : Nat) (g : Nat → Int) (hN : N ≤ 1048576) (hg : ∀ k, k < N → 0 ≤ g k ∧ g k ≤ 255) (ho : o ≤ 8 * N) (m : Nat) (hm : m ≤ 255) (w : World) (hx : Bx p [.slice a N cap, .int .i64 o] w) (hP : PxU a N g w) (hap : N ≠ 0 → ∀ b off, a = some ⟨b, off, none⟩ → b ≠ p) :
    Calls Try.prog 54 #[.pointer (some ⟨p, 0, none⟩), .int .i64 m] w fun e w' => ∃ x, e = .returned (.int .i64 x) ∧ KpS (· = p) w w' ∧ Bx p [.slice a N cap, .int .i64 (min (o + m) (8 * N) : Nat)] w' := by
  have HP := hide hP
  have HG := hide hg
  have HA := hide hap
  clear hP hg hap
  go_enter Try.func54, Try.ntmps54
  go_wp2_with fail
  go_loopw [5, 6, 8] (fun v _ j wr => ∃ k : Nat, k ≤ m ∧ j = .int .i64 k ∧ (∃ x, v = .int .i64 x) ∧ KpS (· = p) w wr ∧ Bx p [.slice a N cap, .int .i64 (min (o + k) (8 * N) : Nat)] wr) (fun _ _ j _ => m - (intOf j).toNat)
  case atStart => exact ⟨0, by omega, rfl, ⟨_, rfl⟩, KpS.refl _ _, by rw [show min (o + 0) (8 * N) = o by omega]; exact hx⟩
  case round =>
    obtain ⟨k, hk, rfl, ⟨U0, rfl⟩, hkp, hb⟩ := hrel
    clear hx
    by_cases hlt : k < m
    · have cE := isAtEnd_any p a N cap (min (o + k) (8 * N)) hN wr hb
      by_cases hend : o + k < 8 * N
      · have hmin : min (o + k) (8 * N) = o + k := by omega
        rw [hmin] at hb cE
        have hq : (o + k) / 8 < N := by omega
        have hv := HG.out _ hq
        obtain ⟨b, off, rfl, hz⟩ := (hkp.pxU (fun h0 b off h => HA.out h0 b off h) HP.out).at hq
        rw [decide_eq_false (by omega)] at cE
        have i0 := (hb 0 _ rfl).1
        have i1 := (hb 1 _ rfl).1
        have f1 := (hb 1 _ rfl).2
        have HBS := hide (fun d z => (show Bx p _ (wr.drewN d) from hb).set 1 z)
        have HKS : Hid (∀ d z, KpS (· = p) w ((wr.drewN d).setCell ⟨p, 1, none⟩ z)) := fun d z => by
          have : KpS (· = p) w (wr.drewN d) := ⟨hkp.os, hkp.tape, hkp.output, hkp.size, hkp.block⟩
          exact this.setCell rfl z
        have hmin2 : ((min (o + (k + 1)) (8 * N) : Nat) : Int) = ((o + k : Nat) : Int) + 1 := by omega
        have HM2 := hide hmin2
        have e1 : ((o + k : Nat) : Int).tmod 8 = (((o + k) % 8 : Nat) : Int) := by rw [Int.tmod_eq_emod_of_nonneg (by omega)]; simp
        have e2 : ((o + k : Nat) : Int).tdiv 8 = (((o + k) / 8 : Nat) : Int) := by rw [Int.tdiv_eq_ediv_of_nonneg (by omega)]; simp
        have e3 : IntKind.i64.wrap (((o + k) / 8 : Nat) : Int) = (((o + k) / 8 : Nat) : Int) := by rw [IntKind.wrap_i64]; omega
        have e4 : IntKind.i64.wrap (((o + k) % 8 : Nat) : Int) = (((o + k) % 8 : Nat) : Int) := by rw [IntKind.wrap_i64]; omega
        have ht7 : (o + k) % 8 ≤ 7 := by omega
        clear hb hkp hmin hmin2 HP HA HG
        generalize g ((o + k) / 8) = V at *
        generalize (o + k) / 8 = q at *
        generalize (o + k) % 8 = t at *
        generalize hok : o + k = ok at *
        clear hok
        go_wp2_with fail
        refine cE.mono ?_
        rintro e w2 ⟨rfl, d, rfl⟩
        clear cE
        go_upto_region 6 with fail
        go_region
        have HB2 := hide (HBS.out (d + 1) (.int .i64 ((ok : Int) + 1)))
        have HK2 := hide (HKS.out (d + 1) (.int .i64 ((ok : Int) + 1)))
        have j1 : (wr.drewN (d + 1)).cell? ⟨p, 1, none⟩ = some (.int .i64 ok) := i1
        have g1 : (wr.drewN (d + 1)).frozen? ⟨p, 1, none⟩ = false := f1
        clear HBS HKS i0 i1 f1
        generalize World.drewN wr (d + 1) = wz at *
        go_wp2_with fail
        go_roundw
        case rel => exact ⟨k + 1, by omega, by go_num, ⟨_, rfl⟩, HK2.out, by rw [HM2.out]; exact HB2.out⟩
        case measure => simp [intOf]; omega
      · have hmin : min (o + k) (8 * N) = 8 * N := by omega
        have HM2 : Hid (min (o + (k + 1)) (8 * N) = 8 * N) := by show _ = _; omega
        rw [hmin] at hb cE
        rw [decide_eq_true (by omega)] at cE
        have HBS := hide (fun d => (show Bx p _ (wr.drewN d) from hb))
        have HKS : Hid (∀ d, KpS (· = p) w (wr.drewN d)) := fun d => ⟨hkp.os, hkp.tape, hkp.output, hkp.size, hkp.block⟩
        clear hb hkp HP HA HG hmin
        go_wp2_with fail
        refine cE.mono ?_
        rintro e w2 ⟨rfl, d, rfl⟩
        clear cE
        go_wp2_with fail
        go_roundw
        case rel => exact ⟨k + 1, by omega, by go_num, ⟨_, rfl⟩, HKS.out _, by rw [HM2.out]; exact HBS.out _⟩
        case measure => simp [intOf]; omega
    · obtain rfl : k = m := by omega
      go_wp2_with fail
      go_ret
      exact ⟨_, rfl, hkp, hb⟩


end Go.Proofs.Ytebcclmilplfcaa

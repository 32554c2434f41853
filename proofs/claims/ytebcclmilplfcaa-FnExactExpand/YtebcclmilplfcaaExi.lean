/- The program's reader: small numbers. -/
import Derived.Test.YtebcclmilplfcaaUni
namespace Go.Proofs.Ytebcclmilplfcaa
open Go.RowKit

/-- a small number that is read: so many bytes more (r), the k-th now -/
def tsR (g : Nat → Int) (N : Nat) : Nat → Nat → Int → Nat → Int × Nat
  | 0, _, acc, o => (acc, o)
  | r + 1, k, acc, o =>
    if uvE g N o 8 < 128 then (acc + uvE g N o 8 % 128 * 128 ^ k, min (o + 8) (8 * N))
    else tsR g N r (k + 1) (acc + uvE g N o 8 % 128 * 128 ^ k) (min (o + 8) (8 * N))
def tsV (g : Nat → Int) (N o : Nat) : Int := (tsR g N 3 0 0 o).1
def tsO (g : Nat → Int) (N o : Nat) : Nat := (tsR g N 3 0 0 o).2
theorem tsR_bd (g : Nat → Int) (N : Nat) : ∀ (r k : Nat) (acc : Int) (o : Nat), 0 ≤ acc → acc < 128 ^ k → o ≤ 8 * N → 0 ≤ (tsR g N r k acc o).1 ∧ (tsR g N r k acc o).1 < 128 ^ (k + r) ∧ o ≤ (tsR g N r k acc o).2 ∧ (tsR g N r k acc o).2 ≤ 8 * N
  | 0, k, acc, o, h0, h1, ho => ⟨h0, h1, Nat.le_refl _, ho⟩
  | r + 1, k, acc, o, h0, h1, ho => by
    have hU := uvE_bd g N o 8
    have hp : (0 : Int) < 128 ^ k := Int.pow_pos (by decide)
    have hm0 : 0 ≤ uvE g N o 8 % 128 * 128 ^ k := Int.mul_nonneg (by omega) (by omega)
    have hm1 : uvE g N o 8 % 128 * 128 ^ k ≤ 127 * 128 ^ k := Int.mul_le_mul_of_nonneg_right (by omega) (by omega)
    have h2 : acc + uvE g N o 8 % 128 * 128 ^ k < 128 ^ (k + 1) := by rw [Int.pow_succ]; omega
    have hle : (128 : Int) ^ (k + 1) ≤ 128 ^ (k + (r + 1)) := by exact_mod_cast Nat.pow_le_pow_right (by decide) (by omega : k + 1 ≤ k + (r + 1))
    simp only [tsR]
    split
    · exact ⟨by omega, by omega, by omega, by omega⟩
    · have ih := tsR_bd g N r (k + 1) (acc + uvE g N o 8 % 128 * 128 ^ k) (min (o + 8) (8 * N)) (by omega) h2 (by omega)
      rw [show k + 1 + r = k + (r + 1) by omega] at ih
      exact ⟨ih.1, ih.2.1, by omega, ih.2.2.2⟩
theorem i64_and127' (x : Int) (h0 : 0 ≤ x) (h1 : x < 256) : bits .and .i64 x 127 = x % 128 := bits_mask .i64 63 (by decide) wraps_i64' 7 (by decide) x h0 (by omega)
/-- seven bits more, by or -/
theorem or_seven (acc z : Int) (k : Nat) (hk : k < 3) (h0 : 0 ≤ acc) (h1 : acc < 128 ^ k) (z0 : 0 ≤ z) (z1 : z < 128) : bits .or .i64 acc (IntKind.i64.wrap (z * 2 ^ (7 * k))) = acc + z * 128 ^ k := by
  have hc : ∀ q, bits .or .i64 acc q = bits .or .i64 q acc := fun q => by simp only [bits, BitVec.or_comm]
  obtain rfl | rfl | rfl : k = 0 ∨ k = 1 ∨ k = 2 := by omega
  · have hw : IntKind.i64.wrap (z * 2 ^ (7 * 0)) = z * 1 := by rw [IntKind.wrap_i64]; simp only [Nat.mul_zero, Int.reducePow]; omega
    have : acc = 0 := by simp at h1; omega
    subst this
    rw [hw, hc, bits_join .i64 63 (by decide) wraps_i64' 0 (z * 1) 0 (by omega) (by simp) (by omega) (by omega) (by simp) (by omega)]
    simp
  · have hw : IntKind.i64.wrap (z * 2 ^ (7 * 1)) = z * 128 := by rw [IntKind.wrap_i64]; simp only [Nat.mul_one, Int.reducePow]; omega
    simp only [Int.reducePow] at h1 ⊢
    rw [hw, hc, bits_join .i64 63 (by decide) wraps_i64' 7 (z * 128) acc (by omega) (by simp only [Int.reducePow]; omega) (by omega) h0 (by simpa using h1) (by omega)]
    omega
  · have hw : IntKind.i64.wrap (z * 2 ^ (7 * 2)) = z * 16384 := by rw [IntKind.wrap_i64]; simp only [Nat.reduceMul, Int.reducePow]; omega
    simp only [Int.reducePow] at h1 ⊢
    rw [hw, hc, bits_join .i64 63 (by decide) wraps_i64' 14 (z * 16384) acc (by omega) (by simp only [Int.reducePow]; omega) (by omega) h0 (by simpa using h1) (by omega)]
    omega

set_option maxRecDepth 100000 in
set_option maxHeartbeats 2000000 in
theorem takeSmall_any (p : Nat) (a : Option Addr) (N cap o : Nat) (g : Nat → Int) (hN : N ≤ 1048576) (hg : ∀ k, k < N → 0 ≤ g k ∧ g k ≤ 255) (ho : o ≤ 8 * N) (w : World) (hx : Bx p [.slice a N cap, .int .i64 o] w) (hP : PxU a N g w) (hap : N ≠ 0 → ∀ b off, a = some ⟨b, off, none⟩ → ¬ b = p) :
    Calls Try.prog 47 #[.pointer (some ⟨p, 0, none⟩)] w fun e w' => e = .returned (.int .i64 (tsV g N o)) ∧ KpS (· = p) w w' ∧ Bx p [.slice a N cap, .int .i64 (tsO g N o : Nat)] w' := by
  have HP := hide hP
  have HG := hide hg
  have HA := hide hap
  clear hP hg hap
  go_enter Try.func47, Try.ntmps47
  go_wp2_with fail
  go_loopw [3, 4, 5, 6] (fun v _ _ j wr => ∃ (k o' : Nat) (acc : Int), k ≤ 3 ∧ j = .int .i64 k ∧ v = .int .i64 acc ∧ 0 ≤ acc ∧ acc < 128 ^ k ∧ o' ≤ 8 * N ∧ Hid (tsR g N (3 - k) k acc o' = tsR g N 3 0 0 o) ∧ KpS (· = p) w wr ∧ Bx p [.slice a N cap, .int .i64 o'] wr) (fun _ _ _ j _ => 3 - (intOf j).toNat)
  case atStart => exact ⟨0, o, 0, by omega, rfl, rfl, by omega, by decide, ho, hide rfl, KpS.refl _ _, hx⟩
  case round =>
    obtain ⟨k, o', acc, hk, rfl, rfl, h0, h1, ho', HT, hkp, hb⟩ := hrel
    clear hx
    by_cases hlt : k < 3
    · have hlt' : (k : Int) < 3 := by omega
      have c := take_any p a N cap o' g hN HG.out ho' 8 (by omega) wr hb (hkp.pxU (fun h9 b off h => HA.out h9 b off h) HP.out) HA.out
      have e8 : ((8 : Nat) : Int) = 8 := rfl
      rw [e8] at c
      have hU := uvE_bd g N o' 8
      have HT2 : Hid (tsR g N 3 0 0 o = if uvE g N o' 8 < 128 then (acc + uvE g N o' 8 % 128 * 128 ^ k, min (o' + 8) (8 * N)) else tsR g N (3 - (k + 1)) (k + 1) (acc + uvE g N o' 8 % 128 * 128 ^ k) (min (o' + 8) (8 * N))) := by
        show _ = _
        rw [← HT.out, show 3 - k = (3 - (k + 1)) + 1 by omega]
        rfl
      have HKP := hide hkp
      clear hkp hb HT
      generalize uvE g N o' 8 = U at *
      have hU1 : U < 256 := by have := hU.2; simp only [Int.reducePow] at this; exact this
      have a1 := i64_and127' U hU.1 hU1
      have a2 := or_seven acc (U % 128) k hlt h0 h1 (by omega) (by omega)
      have hw64 : ∀ z, wrap64 z = IntKind.i64.wrap z := fun z => by rw [IntKind.wrap_i64]; unfold wrap64; rfl
      rw [← hw64] at a2
      have HA2 := hide a2
      clear a2 hw64
      have a3 : IntKind.i64.wrap (7 * (k : Int)) = 7 * (k : Int) := by rw [IntKind.wrap_i64]; omega
      have a4 : ¬ 7 * (k : Int) < 0 := by omega
      have a5 : (7 * (k : Int)).toNat = 7 * k := by omega
      have hp : (0 : Int) < 128 ^ k := Int.pow_pos (by decide)
      have hm0 : 0 ≤ U % 128 * 128 ^ k := Int.mul_nonneg (by omega) (by omega)
      have hm1 : U % 128 * 128 ^ k ≤ 127 * 128 ^ k := Int.mul_le_mul_of_nonneg_right (by omega) (by omega)
      have h2 : acc + U % 128 * 128 ^ k < 128 ^ (k + 1) := by rw [Int.pow_succ]; omega
      have h3 : 0 ≤ acc + U % 128 * 128 ^ k := by omega
      generalize acc + U % 128 * 128 ^ k = acc' at *
      clear hm0 hm1 hp
      by_cases hs : U < 128
      · rw [if_pos hs] at HT2
        have HV : Hid (tsV g N o = acc' ∧ tsO g N o = min (o' + 8) (8 * N)) := by unfold tsV tsO; rw [HT2.out]; exact ⟨rfl, rfl⟩
        clear HT2
        go_wp2_with fail
        refine c.mono ?_
        rintro e w1 ⟨rfl, hkp1, hb1⟩
        have HF : Hid (KpS (· = p) w w1) := HKP.out.trans hkp1
        have HB1 := hide hb1
        clear c hkp1 hb1
        go_wp2_with fail
        go_ret
        exact ⟨by rw [HV.out.1, ← HA2.out]; rfl, HF.out, by rw [HV.out.2]; exact HB1.out⟩
      · rw [if_neg hs] at HT2
        have HT3 : Hid (tsR g N (3 - (k + 1)) (k + 1) acc' (min (o' + 8) (8 * N)) = tsR g N 3 0 0 o) := HT2.out.symm
        clear HT2
        go_wp2_with fail
        refine c.mono ?_
        rintro e w1 ⟨rfl, hkp1, hb1⟩
        have HF : Hid (KpS (· = p) w w1) := HKP.out.trans hkp1
        have HB1 := hide hb1
        clear c hkp1 hb1
        have h2H := hide h2
        have h3H := hide h3
        clear h2 h3
        go_wp2_with fail
        go_roundw
        case rel => exact ⟨k + 1, _, acc', by omega, by go_num, by rw [HA2.out], h3H.out, h2H.out, by omega, HT3, HF.out, HB1.out⟩
        case measure => simp [intOf]; omega
    · obtain rfl : k = 3 := by omega
      have HV : Hid (tsV g N o = acc ∧ tsO g N o = o') := by
        unfold tsV tsO
        rw [← HT.out]
        exact ⟨rfl, rfl⟩
      have HKP := hide hkp
      have HB := hide hb
      clear hkp hb HT
      go_wp2_with fail
      go_ret
      exact ⟨by rw [HV.out.1]; rfl, HKP.out, by rw [HV.out.2]; exact HB.out⟩

end Go.Proofs.Ytebcclmilplfcaa

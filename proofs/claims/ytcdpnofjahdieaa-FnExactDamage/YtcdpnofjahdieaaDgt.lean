/- Digests: the numbers, the specification's and the program's. -/
import Derived.Test.YtcdpnofjahdieaaBym
import Derived.Laws.Bits128
namespace Go.Proofs.Ytcdpnofjahdieaa
open Go.RowKit

/-- the bound of digests -/
abbrev dgM : Int := 2305843009213693951
/-- one byte more -/
def dgs (h v : Int) : Int := (h * 257 + v + 1) % 2305843009213693951
/-- the digest of the first n bytes, begun with s -/
def dig (f : Nat → Int) (s : Int) : Nat → Int
  | 0 => s
  | n + 1 => dgs (dig f s n) (f n)
theorem dgs_bd (h v : Int) : 0 ≤ dgs h v ∧ dgs h v < 2305843009213693951 := by
  unfold dgs; omega
theorem dig_bd (f : Nat → Int) (s : Int) (h0 : 0 ≤ s) (h1 : s < 2305843009213693951) : ∀ n, 0 ≤ dig f s n ∧ dig f s n < 2305843009213693951
  | 0 => ⟨h0, h1⟩
  | _ + 1 => dgs_bd _ _

theorem i64_and61 (n : Int) : bits .and .i64 n 2305843009213693951 = n % 2305843009213693952 := by
  have h127 : (BitVec.ofInt 64 2305843009213693951).toNat = 2 ^ 61 - 1 := by decide
  have key : (BitVec.ofInt 64 n &&& BitVec.ofInt 64 2305843009213693951).toNat = (n % ((2 ^ 64 : Nat) : Int)).toNat % 2 ^ 61 := by
    rw [BitVec.toNat_and, BitVec.toNat_ofInt, h127, Nat.and_two_pow_sub_one_eq_mod]
  show IntKind.i64.wrap ((BitVec.ofInt 64 n &&& BitVec.ofInt 64 2305843009213693951).toNat : Nat) = n % 2305843009213693952
  rw [key, IntKind.wrap_i64]
  omega
theorem wraps_i64 (n : Int) (h₀ : 0 ≤ n) (h₁ : n < 2 ^ 63) : IntKind.i64.wrap n = n := by rw [IntKind.wrap_i64]; omega
theorem turn8 (h : Int) (h0 : 0 ≤ h) (h1 : h < 2305843009213693951) :
    bits .or .i64 (bits .and .i64 (IntKind.i64.wrap (h * 256)) 2305843009213693951) (h / 9007199254740992) = h % 9007199254740992 * 256 + h / 9007199254740992 := by
  rw [i64_and61, IntKind.wrap_i64]
  have e : ((h * 256 + 9223372036854775808) % 18446744073709551616 - 9223372036854775808) % 2305843009213693952 = h % 9007199254740992 * 256 := by omega
  rw [e]
  exact bits_join .i64 63 (by decide) wraps_i64 8 _ _ (by omega) (by omega) (by omega) (by omega) (by omega) (by omega)
theorem turn_dgs (h v : Int) (h0 : 0 ≤ h) (h1 : h < 2305843009213693951) (v0 : 0 ≤ v) (v1 : v ≤ 255) :
    (h % 9007199254740992 * 256 + h / 9007199254740992 + h + v + 1).tmod 2305843009213693951 = dgs h v := by
  rw [Int.tmod_eq_emod_of_nonneg (by omega)]
  unfold dgs
  omega

theorem implDigest_any (a : Option Addr) (len cap : Nat) (f : Nat → Int) (hl : len ≤ 1048576) (hf : ∀ k, k < len → 0 ≤ f k ∧ f k ≤ 255) (w : World) (h : PxU a len f w) :
    Calls Try.prog 63 #[.slice a len cap] w fun e w' => e = .returned (.int .i64 (dig f len len)) ∧ Below w.heap.size w w' := by
  have HP := hide h
  have HF := hide hf
  clear h hf
  go_enter Try.func63, Try.ntmps63
  go_wp2
  go_loop [3, 11] (fun s i => ∃ k : Nat, k ≤ len ∧ i = .int .i64 k ∧ s = .int .i64 (dig f len k)) (fun _ i => len - (intOf i).toNat)
  case atStart => exact ⟨0, by omega, rfl, rfl⟩
  case round =>
    obtain ⟨k, hk, rfl, rfl⟩ := hrel
    have hd := dig_bd f len (by omega) (by omega) k
    by_cases hlt : k < len
    · obtain ⟨b, off, rfl, hz⟩ := HP.out.at hlt
      have hv := HF.out k hlt
      have HE : Hid (dig f len (k + 1) = dgs (dig f len k) (f k)) := rfl
      generalize dig f len k = D at *
      generalize f k = v at *
      have t1 := turn8 D hd.1 hd.2
      have HT := hide (turn_dgs D v hd.1 hd.2 hv.1 hv.2)
      clear HP HF
      go_wp2
      refine ⟨⟨k + 1, by omega, rfl, ?_⟩, by simp [intOf]; omega⟩
      rw [HE.out, ← HT.out]
      have t2 : bits BinOp.or IntKind.i64 (bits BinOp.and IntKind.i64 (wrap64 (D * 256)) 2305843009213693951) (D / 9007199254740992) = D % 9007199254740992 * 256 + D / 9007199254740992 := by rw [← t1, IntKind.wrap_i64]; unfold wrap64; rfl
      rw [t2]
      have hT : 0 ≤ D % 9007199254740992 * 256 + D / 9007199254740992 ∧ D % 9007199254740992 * 256 + D / 9007199254740992 < 2305843009213693952 := by omega
      clear t1 t2 HE HT
      generalize D % 9007199254740992 * 256 + D / 9007199254740992 = T at *
      have e1 : wrap64 (T + D) = T + D := by unfold wrap64; omega
      have e2 : wrap64 (T + D + v) = T + D + v := by unfold wrap64; omega
      have e3 : wrap64 (T + D + v + 1) = T + D + v + 1 := by unfold wrap64; omega
      rw [e1, e2, e3]
    · obtain rfl : k = len := by omega
      go_wp2
      go_ret
      exact ⟨rfl, Below.refl _ _⟩

theorem specDigest_any (a : Option Addr) (len cap : Nat) (f : Nat → Int) (hl : len ≤ 1048576) (hf : ∀ k, k < len → 0 ≤ f k ∧ f k ≤ 255) (w : World) (h : PxU a len f w) :
    Calls Try.prog 54 #[.slice a len cap] w fun e w' => e = .returned (.int .i64 (dig f len len)) ∧ Below w.heap.size w w' := by
  have HP := hide h
  have HF := hide hf
  clear h hf
  go_enter Try.func54, Try.ntmps54
  go_wp2
  go_loop [4, 5, 6, 7] (fun s i _ _ => ∃ k : Nat, k ≤ len ∧ i = .int .i64 k ∧ s = .int .i64 (dig f len k)) (fun _ i _ _ => len - (intOf i).toNat)
  case atStart => exact ⟨0, by omega, rfl, rfl⟩
  case round =>
    obtain ⟨k, hk, rfl, rfl⟩ := hrel
    have hd := dig_bd f len (by omega) (by omega) k
    by_cases hlt : k < len
    · obtain ⟨b, off, rfl, hz⟩ := HP.out.at hlt
      have hv := HF.out k hlt
      have HE : Hid (dig f len (k + 1) = dgs (dig f len k) (f k)) := rfl
      generalize dig f len k = D at *
      generalize f k = v at *
      clear HP HF
      go_wp2
      go_loop [6, 7] (fun x j => ∃ q : Nat, q ≤ 8 ∧ j = .int .i64 q ∧ x = .int .i64 (D * 2 ^ q % 2305843009213693951)) (fun _ j => 8 - (intOf j).toNat)
      case atStart => exact ⟨0, by omega, rfl, by congr 1; omega⟩
      case round =>
        obtain ⟨q, hq, rfl, rfl⟩ := hrel
        by_cases hlq : q < 8
        · have HX : Hid (D * 2 ^ (q + 1) % 2305843009213693951 = if D * 2 ^ q % 2305843009213693951 * 2 ≥ 2305843009213693951 then D * 2 ^ q % 2305843009213693951 * 2 - 2305843009213693951 else D * 2 ^ q % 2305843009213693951 * 2) := by
            show _ = _
            rw [Int.pow_succ, ← Int.mul_assoc]
            generalize D * 2 ^ q = y at *
            clear HE hv hd
            omega
          have hb0 : 0 ≤ D * 2 ^ q % 2305843009213693951 ∧ D * 2 ^ q % 2305843009213693951 < 2305843009213693951 := by omega
          generalize D * 2 ^ q % 2305843009213693951 = X at *
          by_cases hge : X * 2 ≥ 2305843009213693951
          · go_wp2
            refine ⟨⟨q + 1, by omega, rfl, ?_⟩, by simp [intOf]; omega⟩
            rw [HX.out, if_pos hge, Int.mul_comm X 2]
          · go_wp2
            refine ⟨⟨q + 1, by omega, rfl, ?_⟩, by simp [intOf]; omega⟩
            rw [HX.out, if_neg hge, Int.mul_comm X 2]
        · obtain rfl : q = 8 := by omega
          go_wp2
          refine ⟨⟨k + 1, by omega, rfl, ?_⟩, by simp [intOf]; omega⟩
          rw [HE.out]
          unfold dgs
          congr 1
          clear HE
          omega
    · obtain rfl : k = len := by omega
      go_wp2
      go_ret
      exact ⟨rfl, Below.refl _ _⟩

end Go.Proofs.Ytcdpnofjahdieaa

/- The texts that the laws mark with. -/
import Derived.Test.YtcdpnofjahdieaaPxg
namespace Go.Proofs.Ytcdpnofjahdieaa
open Go.RowKit

/-- the digits of a number ahead of a text -/
def dgT (k : Nat) (acc : ByteArray) : ByteArray := if 0 < k then dgT (k / 10) (strOfNums [48 + (k : Int) % 10] ++ acc) else acc
termination_by k
decreasing_by omega
theorem dgT_pos {k : Nat} (h : 0 < k) (acc : ByteArray) : dgT k acc = dgT (k / 10) (strOfNums [48 + (k : Int) % 10] ++ acc) := by rw [dgT, if_pos h]
theorem dgT_0 (acc : ByteArray) : dgT 0 acc = acc := by rw [dgT, if_neg (by omega)]
/-- mark number k -/
def mkT (k : Int) : ByteArray := ({ data := #[109] } : ByteArray) ++ dgT k.toNat ⟨#[]⟩

set_option maxRecDepth 100000 in
set_option maxHeartbeats 1000000 in
theorem markText_any (k : Nat) (h0 : 0 < k) (h1 : k ≤ 1000000000) (w : World) : Calls Try.prog 52 #[.int .i64 k] w fun e w' => e = .returned (.string (mkT k)) ∧ Below w.heap.size w w' := by
  have HM : Hid (mkT k = ({ data := #[109] } : ByteArray) ++ dgT k ⟨#[]⟩) := by show _ = _; unfold mkT; rw [Int.toNat_natCast]
  have h9 : ¬ (k : Int) ≤ 0 := by omega
  generalize mkT k = MT at *
  go_enter Try.func52, Try.ntmps52
  go_wp2_with fail
  go_loopw [0, 3] (fun q s wr => ∃ (z : Nat) (t : ByteArray), z ≤ k ∧ q = .int .i64 z ∧ s = .string t ∧ t.size + z ≤ k ∧ Hid (dgT z t = dgT k ⟨#[]⟩) ∧ Below w.heap.size w wr) (fun q _ _ => (intOf q).toNat)
  case atStart => exact ⟨k, ⟨#[]⟩, Nat.le_refl _, rfl, rfl, by show 0 + k ≤ k; omega, hide rfl, Below.refl _ _⟩
  case round =>
    obtain ⟨z, t, hz, rfl, rfl, hts, HD, hb⟩ := hrel
    have HB := hide hb
    by_cases hz0 : 0 < z
    · have hz1 : (0 : Int) < (z : Int) := by omega
      have HD2 : Hid (dgT (z / 10) (strOfNums [48 + (z : Int) % 10] ++ t) = dgT k ⟨#[]⟩) := by show _ = _; rw [← HD.out, dgT_pos hz0]
      have e1 : (z : Int).tmod 10 = (z : Int) % 10 := Int.tmod_eq_emod_of_nonneg (by omega)
      have e2 : (z : Int).tdiv 10 = ((z / 10 : Nat) : Int) := by rw [Int.tdiv_eq_ediv_of_nonneg (by omega)]; omega
      have w1 : IntKind.i64.wrap ((z : Int) % 10) = (z : Int) % 10 := by rw [IntKind.wrap_i64]; omega
      have w2 : IntKind.i64.wrap (48 + (z : Int) % 10) = 48 + (z : Int) % 10 := by rw [IntKind.wrap_i64]; omega
      have w3 : IntKind.u8.wrap (48 + (z : Int) % 10) = 48 + (z : Int) % 10 := by rw [IntKind.wrap_u8]; omega
      have w4 : IntKind.i64.wrap ((z / 10 : Nat) : Int) = ((z / 10 : Nat) : Int) := by rw [IntKind.wrap_i64]; omega
      obtain ⟨X, hX⟩ : ∃ X, X = wr.alloc (.cells #[.int .u8 (48 + (z : Int) % 10)] 5) := ⟨_, rfl⟩
      have hcv : (convert 82 9 (.slice (some ⟨wr.heap.size, 0, none⟩) 1 1)).run Try.prog X = .ok (.string (strOfNums [48 + (z : Int) % 10])) X := by
        refine run_convert_bytes_arg X 82 5 Try.underlying82 Try.underlying5 wr.heap.size 0 1 1 [48 + (z : Int) % 10] rfl ?_ 9 Try.underlying9
        intro i hi
        obtain rfl : i = 0 := by omega
        rw [hX]
        simp [go_sem]
      have HBX : Hid (Below w.heap.size w X) := by show Below _ _ _; rw [hX]; exact HB.out.alloc HB.out.size _
      have hX' := hX.symm
      have hs1 : (strOfNums [48 + (z : Int) % 10]).size = 1 := rfl
      generalize strOfNums [48 + (z : Int) % 10] = sc at *
      clear hX HD hb HB
      have hadd : sc.size + t.size ≤ 9223372036854775807 := by omega
      have hz3 : (sc ++ t).size + z / 10 ≤ k := by rw [ByteArray.size_append]; omega
      go_wp2_with fail
      go_roundw
      case rel => exact ⟨z / 10, sc ++ t, by omega, by go_num, rfl, hz3, HD2, HBX.out⟩
      case measure => simp [intOf]; omega
    · obtain rfl : z = 0 := by omega
      have HE : Hid (MT = ({ data := #[109] } : ByteArray) ++ t) := by show _ = _; rw [HM.out, ← HD.out, dgT_0]
      clear HD HM
      have hs1 : ({ data := #[109] } : ByteArray).size = 1 := rfl
      have hadd : ({ data := #[109] } : ByteArray).size + t.size ≤ 9223372036854775807 := by omega
      go_wp2_with fail
      go_ret
      exact ⟨by rw [HE.out]; rfl, HB.out⟩

theorem markTextI (x : Int) (h0 : 0 < x) (h1 : x ≤ 1000000000) (w : World) : Calls Try.prog 52 #[.int .i64 x] w fun e w' => e = .returned (.string (mkT x)) ∧ Below w.heap.size w w' := by
  obtain ⟨k, rfl⟩ : ∃ k : Nat, x = k := ⟨x.toNat, by omega⟩
  exact markText_any k (by omega) (by omega) w

end Go.Proofs.Ytcdpnofjahdieaa

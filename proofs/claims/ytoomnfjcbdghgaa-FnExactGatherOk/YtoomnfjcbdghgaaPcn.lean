/- The parts of a message: numbers, and both functions. -/
import Derived.Test.YtoomnfjcbdghgaaPrt
import Derived.Laws.DeepStrings4
namespace Go.Proofs.Ytoomnfjcbdghgaa
open Go.RowKit

/-- is a message as Pieces wants it -/
def pcB (id : Int) (len : Nat) (z : Int) : Bool := inB id 0 1000000 && inB z 1 1024 && decide (len ≤ 2048) && decide ((len : Int) ≤ z * 64)
/-- how many parts -/
def pcC (len z : Nat) : Nat := max 1 ((len + z - 1) / z)
def pcN (id : Int) (s : ByteArray) (z : Int) : Nat := if pcB id s.size z = true then pcC s.size z.toNat else 0
def pcE (id : Int) (s : ByteArray) (z : Int) (k : Nat) : SPart := ⟨id, k, decide (k + 1 = pcC s.size z.toNat), s.extract (k * z.toNat) (min (k * z.toNat + z.toNat) s.size)⟩
theorem pcC_pos (len z : Nat) : 1 ≤ pcC len z := by unfold pcC; omega
theorem pcC_lt {len z : Nat} (hz : 1 ≤ z) (j : Nat) : j + 1 < pcC len z ↔ j * z + z < len := by
  unfold pcC
  have h := @Nat.le_div_iff_mul_le z (j + 2) (len + z - 1) hz
  have e : (j + 2) * z = j * z + z + z := by rw [Nat.add_mul]; omega
  rw [e] at h
  generalize j * z = y at *
  generalize (len + z - 1) / z = q at *
  omega
theorem pcC_le {len z : Nat} (hz : 1 ≤ z) : pcC len z ≤ 64 ↔ len ≤ z * 64 := by
  have h := @pcC_lt len z hz 63
  have e : 63 * z + z = z * 64 := by omega
  rw [e] at h
  omega
theorem pcN_le (id : Int) (s : ByteArray) (z : Int) : pcN id s z ≤ 64 := by
  unfold pcN
  split
  · rename_i h
    simp only [pcB, Bool.and_eq_true, decide_eq_true_eq, inB] at h
    obtain ⟨⟨⟨_, h2⟩, _⟩, h4⟩ := h
    have h5 : 1 ≤ z := by simpa using h2.1
    exact (pcC_le (len := s.size) (z := z.toNat) (by omega)).2 (by omega)
  · omega
theorem ext_ext (s : ByteArray) (a b c : Nat) (h : b + c ≤ s.size) (hb : a = b): (s.extract a s.size).extract 0 c = s.extract b (b + c) := by
  subst hb
  apply ByteArray.ext
  simp only [ByteArray.data_extract]
  rw [Array.extract_extract]
  congr 1 <;> omega
theorem ext_tail (s : ByteArray) (a c : Nat) : (s.extract a s.size).extract c (s.extract a s.size).size = s.extract (a + c) s.size := by
  apply ByteArray.ext
  simp only [ByteArray.data_extract, ByteArray.size_extract]
  rw [Array.extract_extract]
  by_cases h : a + c ≤ s.size
  · congr 1; omega
  · rw [Array.extract_eq_empty_of_le (by omega), Array.extract_eq_empty_of_le (by omega)]

set_option maxRecDepth 100000 in
theorem isId_any (x : Int) (w : World) : Calls Try.prog 85 #[.int .i64 x] w fun e w' => e = .returned (.bool (inB x 0 1000000)) ∧ w' = w := by
  have c := within_any x 0 1000000 w
  go_enter Try.func85, Try.ntmps85
  go_wp2_with fail
  refine c.mono ?_
  rintro e w1 ⟨rfl, rfl⟩
  go_wp2_with fail
  go_ret
  exact ⟨rfl, rfl⟩

end Go.Proofs.Ytoomnfjcbdghgaa

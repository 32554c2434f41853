/- The program's packed tones. -/
import Derived.Test.YtebcclmilplfcaaPki
import Derived.Test.YtebcclmilplfcaaPkt
namespace Go.Proofs.Ytebcclmilplfcaa
open Go.RowKit

theorem putAll_any (p : Nat) (L : List Int) (a : Option Addr) (n cap : Nat) (f : Nat → Int) (hl : n ≤ 1048576) (m : Nat) (hm : m ≤ 62) (hlm : L.length + n * m ≤ 8000000) (W : World) (hP : Px a n f W) (hWp : W.heap.size ≤ p) (w : World) (hWb : Below W.heap.size W w) (h : BW p L w) :
    Calls Try.prog 32 #[.pointer (some ⟨p, 0, none⟩), .slice a n cap, .int .i64 m] w fun e w' => e = .returned (.tuple #[]) ∧ BW p (L ++ tlB f m n) w' ∧ Below p w w' := by
  have HP := hide hP
  have HWp := hide hWp
  have HWb := hide hWb
  clear hP hWp hWb
  go_enter Try.func32, Try.ntmps32
  go_wp2
  go_loopw [7, 10] (fun _ j wr => ∃ k : Nat, k ≤ n ∧ j = .int .i64 k ∧ BW p (L ++ tlB f m k) wr ∧ Below p w wr) (fun _ j _ => n - (intOf j).toNat)
  case atStart => exact ⟨0, by omega, rfl, by simpa [tlB] using h, Below.refl _ _⟩
  case round =>
    obtain ⟨k, hk, rfl, hw, hb⟩ := hrel
    by_cases hlt : k < n
    · obtain ⟨b, off, rfl, hz⟩ := (HP.out.below (HWb.out.trans (hb.mono HWp.out))).at hlt
      have hkm : (k + 1) * m ≤ n * m := Nat.mul_le_mul_right _ hlt
      have c := put_any p (L ++ tlB f m k) (f k) m hm (by rw [List.length_append, tlB_len]; rw [Nat.add_mul] at hkm; omega) wr hw
      have HZ : Hid (L ++ tlB f m (k + 1) = L ++ tlB f m k ++ bitK (f k) m) := by show _ = _; rw [List.append_assoc]; rfl
      have HB := hide hb
      clear h hw hb hkm HP HWp HWb
      generalize L ++ tlB f m k = X at *
      go_wp2_with fail
      refine c.mono ?_
      rintro e w' ⟨rfl, hw', hb'⟩
      have HW2 := hide hw'
      have HB2 := hide (HB.out.trans hb')
      clear hw' hb' c
      go_wp2_with fail
      go_roundw
      case rel => exact ⟨k + 1, by omega, by go_num, by rw [HZ.out]; exact HW2.out, HB2.out⟩
      case measure => simp [intOf]; omega
    · obtain rfl : k = n := by omega
      go_wp2
      go_end0
      exact ⟨rfl, hw, hb⟩

/-- a new writer -/
theorem BW.new (w : World) : BW w.heap.size [] (w.alloc (.cells #[.slice none 0 0, .int .i64 0] 49)) :=
  ⟨.slice none 0 0, Bx.new [.slice none 0 0, .int .i64 0] _ w, World.ownsRow_nil _ _ _ _, by simp, isBits_nil⟩

theorem alW_allG (f : Nat → Int) (lo hi : Int) (n : Nat) : alW f lo hi n = allG (fun k => inB (f k) lo hi) n := by
  induction n with
  | zero => rfl
  | succ n ih => simp only [alW, allG]; rw [ih]

end Go.Proofs.Ytebcclmilplfcaa

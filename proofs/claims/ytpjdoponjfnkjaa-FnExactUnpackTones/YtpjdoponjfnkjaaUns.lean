/- The specification's tones out of bytes. -/
import Derived.Test.YtpjdoponjfnkjaaUnn
import Derived.Test.YtpjdoponjfnkjaaPks
import Derived.Test.YtpjdoponjfnkjaaGrl
import Derived.BigRegion
namespace Go.Proofs.Ytpjdoponjfnkjaa
open Go.RowKit

/-- a list of numbers and a flag are answered -/
def LsF (n : Nat) (s : Nat → Int) (B : Bool) (w : World) (e : Ending) (w' : World) : Prop :=
  ∃ a cap b, e = .returned (.tuple #[.slice a n cap, .bool B]) ∧ Ow a b n s w' ∧ (n = 0 ∨ w.heap.size ≤ b) ∧ Below w.heap.size w w'

theorem l13Bit_any (a : Option Addr) (n cap : Nat) (g : Nat → Int) (i : Nat) (hi : i < 8 * n) (hn : n ≤ 1048576) (hg : ∀ k, k < n → 0 ≤ g k ∧ g k ≤ 255) (w : World) (h : PxU a n g w) :
    Calls Try.prog 27 #[.slice a n cap, .int .i64 i] w fun e w' => e = .returned (.int .i64 (bitU g i)) ∧ ∃ d, w' = w.drewN d := by
  have hq : i / 8 < n := by omega
  obtain ⟨b, off, rfl, hz⟩ := h.at hq
  have hv := hg (i / 8) hq
  have c2 := l13Two_any (i % 8) (by omega)
  have hp0 := pow_pos2 (i % 8)
  have e1 : (i : Int).tmod 8 = ((i % 8 : Nat) : Int) := by rw [Int.tmod_eq_emod_of_nonneg (by omega)]; simp
  have e2 : (i : Int).tdiv 8 = ((i / 8 : Nat) : Int) := by rw [Int.tdiv_eq_ediv_of_nonneg (by omega)]; simp
  have e3 : IntKind.i64.wrap ((i / 8 : Nat) : Int) = ((i / 8 : Nat) : Int) := by rw [IntKind.wrap_i64]; omega
  have e4 : IntKind.i64.wrap ((i % 8 : Nat) : Int) = ((i % 8 : Nat) : Int) := by rw [IntKind.wrap_i64]; omega
  have HE : Hid (bitU g i = g (i / 8) / 2 ^ (i % 8) % 2) := rfl
  have hd0 : 0 ≤ g (i / 8) / 2 ^ (i % 8) := Int.ediv_nonneg hv.1 (by omega)
  have hd1 : g (i / 8) / 2 ^ (i % 8) ≤ 255 := Int.le_trans (Int.ediv_le_self _ hv.1) hv.2
  have e5 : (g (i / 8)).tdiv (2 ^ (i % 8)) = g (i / 8) / 2 ^ (i % 8) := Int.tdiv_eq_ediv_of_nonneg hv.1
  generalize bitU g i = BB at *
  generalize g (i / 8) = V at *
  generalize (2 : Int) ^ (i % 8) = P at *
  have e9 : IntKind.i64.wrap V = V := by rw [IntKind.wrap_i64]; omega
  generalize V / P = D at *
  have e6 : IntKind.i64.wrap D = D := by rw [IntKind.wrap_i64]; omega
  have e7 : D.tmod 2 = D % 2 := Int.tmod_eq_emod_of_nonneg hd0
  have e8 : IntKind.i64.wrap (D % 2) = D % 2 := by rw [IntKind.wrap_i64]; omega
  generalize i / 8 = q at *
  generalize i % 8 = t at *
  have hP0 : ¬ P = 0 := by omega
  clear h hg hi
  go_enter Try.func27, Try.ntmps27
  go_wp2_with fail
  go_quiet ((go_at_call 22; exact Calls.quiet_of_same (c2 _)))
  go_wp2_with fail
  go_ret
  exact ⟨by rw [HE.out]; rfl, _, rfl⟩

theorem un_no {g : Nat → Int} {N : Nat} {n m : Int} (h : unB g N n m = false) (w w' : World) (a : Option Addr) (cap : Nat) (hb : Below w.heap.size w w') : LsF (unN g N n m) (unS g N m) (unB g N n m) w (.returned (.tuple #[.slice a 0 cap, .bool false])) w' := by
  have h0 : unN g N n m = 0 := by unfold unN; rw [if_neg (by rw [h]; decide)]
  rw [h0, h]
  exact ⟨a, cap, 0, rfl, .inl rfl, .inl rfl, hb⟩

end Go.Proofs.Ytpjdoponjfnkjaa

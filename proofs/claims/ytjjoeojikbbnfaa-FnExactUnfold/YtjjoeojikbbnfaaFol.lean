/- Folding: the specification. -/
import Derived.Test.YtjjoeojikbbnfaaRsd
import Derived.Deep.RegionHeld
namespace Go.Proofs.Ytjjoeojikbbnfaa
open Go.RowKit

/-- can the two be folded -/
def foldB (W H : Int) (n : Nat) (f : Nat → Int) (W' H' : Int) (n' : Nat) (g : Nat → Int) : Bool :=
  okB W H n f && (okB W' H' n' g && (decide (W = W') && (decide (H = H') && decide (H % 2 = 0))))
/-- the folded pixels, N apart -/
def foldF (N : Nat) (f g : Nat → Int) (k : Nat) : Int := res (f k * g k + f (k + N) * g (k + N))
theorem res_mul (a b c d : Int) : res (res a * res b + res c * res d) = res (a * b + c * d) := by
  unfold res
  rw [Int.add_emod, ← Int.mul_emod, ← Int.mul_emod, ← Int.add_emod]

abbrev W3 (w : World) (W H : Int) (s : Value) (W' H' : Int) (s' : Value) : World := ((w.alloc (.cells #[.int .i64 W, .int .i64 H, s] 26)).alloc (.cells #[.int .i64 W', .int .i64 H', s'] 26)).alloc (.cells #[.int .i64 0, .int .i64 0, .slice none 0 0] 26)
theorem St.three (w : World) (W H : Int) (s : Value) (W' H' : Int) (s' : Value) : St w [(w.heap.size + 2, [.int .i64 0, .int .i64 0, .slice none 0 0]), (w.heap.size + 1, [.int .i64 W', .int .i64 H', s']), (w.heap.size, [.int .i64 W, .int .i64 H, s])] [] (W3 w W H s W' H' s') :=
  (((St.start w).box [.int .i64 W, .int .i64 H, s] 26).box' [.int .i64 W', .int .i64 H', s'] 26 (by simp)).box' [.int .i64 0, .int .i64 0, .slice none 0 0] 26 (by simp)

/-- the shape of what is folded -/
theorem fold_shape {W H : Int} {n : Nat} {f : Nat → Int} {n' : Nat} {g : Nat → Int} (hq : okB W H n f = true) (hq' : okB W H n' g = true) (he : H % 2 = 0) :
    ∃ m M : Nat, W = (m : Int) ∧ H = ((2 * M : Nat) : Int) ∧ 1 ≤ m ∧ m ≤ 64 ∧ 1 ≤ M ∧ M ≤ 32 ∧ n = 2 * (m * M) ∧ n' = 2 * (m * M) := by
  obtain ⟨q1, q2, q3, _⟩ := okB_parts hq
  obtain ⟨_, _, q3', _⟩ := okB_parts hq'
  obtain ⟨a1, a2⟩ := side_bounds q1
  obtain ⟨b1, b2⟩ := side_bounds q2
  have e : W * H = ((2 * (W.toNat * (H / 2).toNat) : Nat) : Int) := by
    obtain ⟨x, hx, hx2⟩ : ∃ x : Nat, H = 2 * (x : Int) ∧ H / 2 = (x : Int) := ⟨(H / 2).toNat, by omega, by omega⟩
    obtain ⟨y, hy⟩ : ∃ y : Nat, W = (y : Int) := ⟨W.toNat, by omega⟩
    rw [hx2, hx, hy, Int.toNat_natCast, Int.toNat_natCast, Int.natCast_mul, Int.natCast_mul, Int.mul_left_comm]
    rfl
  exact ⟨W.toNat, (H / 2).toNat, by omega, by omega, by omega, by omega, by omega, by omega, by omega, by omega⟩

theorem sameSize_any (W H : Int) (a : Option Addr) (n cap : Nat) (W' H' : Int) (a' : Option Addr) (n' cap' : Nat) (w : World) :
    Calls Try.prog 19 #[im W H a n cap, im W' H' a' n' cap'] w fun e w' => e = .returned (.bool (decide (W = W') && decide (H = H'))) ∧ Below w.heap.size w w' := by
  have HB0 : Hid (∀ o o', Below w.heap.size w ((w.alloc o).alloc o')) := fun o o' => (bnew _ _).alloc (by simp) _
  by_cases h1 : W = W'
  · by_cases h2 : H = H'
    · have e1 : (W == W') = true := by simp [h1]
      have e2 : (H == H') = true := by simp [h2]
      rw [decide_eq_true h1, decide_eq_true h2]
      subst h1 h2
      go_enter Try.func19, Try.ntmps19
      go_wp2_with fail
      go_ret
      exact ⟨rfl, HB0.out _ _⟩
    · have e1 : (W == W') = true := by simp [h1]
      have e2 : (H == H') = false := by simp [h2]
      rw [decide_eq_true h1, decide_eq_false h2]
      subst h1
      go_enter Try.func19, Try.ntmps19
      go_wp2_with fail
      go_ret
      exact ⟨rfl, HB0.out _ _⟩
  · have e1 : (W == W') = false := by simp [h1]
    rw [decide_eq_false h1]
    go_enter Try.func19, Try.ntmps19
    go_wp2_with fail
    go_ret
    exact ⟨rfl, HB0.out _ _⟩

end Go.Proofs.Ytjjoeojikbbnfaa

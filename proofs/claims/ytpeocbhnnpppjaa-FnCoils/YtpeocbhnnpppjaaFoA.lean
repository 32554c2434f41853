/- Folding: what both answer. -/
import Derived.Test.YtpeocbhnnpppjaaFoS
import Derived.Test.YtpeocbhnnpppjaaFoI
namespace Go.Proofs.Ytpeocbhnnpppjaa
open Go.RowKit

/-- what Fold answers -/
def foldW (r : Bool) (W : Int) : Int := if r = true then W else 0
def foldN (r : Bool) (n : Nat) : Nat := if r = true then n / 2 else 0

theorem fold_yes {W H : Int} {n : Nat} {f : Nat → Int} {W' H' : Int} {n' : Nat} {g : Nat → Int} (hr : foldB W H n f W' H' n' g = true) :
    okB W H n f = true ∧ okB W' H' n' g = true ∧ W = W' ∧ H = H' ∧ H % 2 = 0 := by
  unfold foldB at hr
  simp only [Bool.and_eq_true, decide_eq_true_eq] at hr
  exact hr

theorem specFold_any (W H : Int) (a : Option Addr) (n cap : Nat) (f : Nat → Int) (hl : n ≤ 1048576) (W' H' : Int) (a' : Option Addr) (n' cap' : Nat) (g : Nat → Int) (hl' : n' ≤ 1048576) (w : World) (h : Px a n f w) (h' : Px a' n' g w) :
    Calls Try.prog 6 #[im W H a n cap, im W' H' a' n' cap'] w (ImR (foldW (foldB W H n f W' H' n' g) W) (foldW (foldB W H n f W' H' n' g) (H / 2)) (foldN (foldB W H n f W' H' n' g) n) (foldF (n / 2) f g) w) := by
  cases hr : foldB W H n f W' H' n' g
  · exact specFold_no W H a n cap f hl W' H' a' n' cap' g hl' w h h' hr _
  · obtain ⟨hq, hq', rfl, rfl, he⟩ := fold_yes hr
    obtain ⟨m, M, rfl, rfl, m1, m2, M1, M2, rfl, rfl⟩ := fold_shape hq hq' he
    have hQ : 1 ≤ m * M := Nat.mul_pos (by omega) (by omega)
    have hQ2 : m * M ≤ 2048 := Nat.le_trans (Nat.mul_le_mul m2 M2) (by omega)
    have e1 : ((2 * M : Nat) : Int) / 2 = (M : Int) := by omega
    have e2 : 2 * (m * M) / 2 = m * M := by omega
    unfold foldW foldN
    simp only [if_true]
    rw [e1, e2]
    exact specFold_yes m ((2 * M : Nat) : Int) (m * M) M (by rw [Int.natCast_mul]) (by omega) hQ hQ2 a (2 * (m * M)) cap f a' cap' g rfl w h h' hq hq'
theorem implFold_any (W H : Int) (a : Option Addr) (n cap : Nat) (f : Nat → Int) (hl : n ≤ 1048576) (W' H' : Int) (a' : Option Addr) (n' cap' : Nat) (g : Nat → Int) (hl' : n' ≤ 1048576) (w : World) (h : Px a n f w) (h' : Px a' n' g w) :
    Calls Try.prog 7 #[im W H a n cap, im W' H' a' n' cap'] w (ImR (foldW (foldB W H n f W' H' n' g) W) (foldW (foldB W H n f W' H' n' g) (H / 2)) (foldN (foldB W H n f W' H' n' g) n) (foldF (n / 2) f g) w) := by
  cases hr : foldB W H n f W' H' n' g
  · exact implFold_no W H a n cap f hl W' H' a' n' cap' g hl' w h h' hr _
  · obtain ⟨hq, hq', rfl, rfl, he⟩ := fold_yes hr
    obtain ⟨m, M, rfl, rfl, m1, m2, M1, M2, rfl, rfl⟩ := fold_shape hq hq' he
    have hQ : 1 ≤ m * M := Nat.mul_pos (by omega) (by omega)
    have hQ2 : m * M ≤ 2048 := Nat.le_trans (Nat.mul_le_mul m2 M2) (by omega)
    have e1 : ((2 * M : Nat) : Int) / 2 = (M : Int) := by omega
    have e2 : 2 * (m * M) / 2 = m * M := by omega
    unfold foldW foldN
    simp only [if_true]
    rw [e1, e2]
    exact implFold_yes m ((2 * M : Nat) : Int) (m * M) M (by omega) hQ hQ2 a (2 * (m * M)) cap f a' cap' g rfl w h h' hq hq'

end Go.Proofs.Ytpeocbhnnpppjaa

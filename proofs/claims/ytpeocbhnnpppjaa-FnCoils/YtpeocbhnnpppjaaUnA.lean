/- Unfolding: what both answer. -/
import Derived.Test.YtpeocbhnnpppjaaUnS
import Derived.Test.YtpeocbhnnpppjaaUnN
namespace Go.Proofs.Ytpeocbhnnpppjaa
open Go.RowKit

def unW (r : Bool) (W : Int) : Int := if r = true then W else 0
def unN (r : Bool) (n : Nat) : Nat := if r = true then n else 0
def unC (r : Bool) (n : Nat) : Int := if r = true then (n : Int) else 0

theorem unf_yes {W0 H0 : Int} {n0 : Nat} {f0 : Nat → Int} {W1 H1 : Int} {n1 : Nat} {f1 : Nat → Int} {W2 H2 : Int} {n2 : Nat} {f2 : Nat → Int} {W3 H3 : Int} {n3 : Nat} {f3 : Nat → Int} (hr : unfB W0 H0 n0 f0 W1 H1 n1 f1 W2 H2 n2 f2 W3 H3 n3 f3 = true) :
    okB W0 H0 n0 f0 = true ∧ okB W1 H1 n1 f1 = true ∧ okB W2 H2 n2 f2 = true ∧ okB W3 H3 n3 f3 = true ∧ W1 = W0 ∧ H1 = H0 ∧ W2 = W0 ∧ W3 = W0 ∧ H3 = H2 ∧ H2 = 2 * H0 ∧ n1 = n0 ∧ n2 = 2 * n0 ∧ n3 = n2 ∧ 1 ≤ n0 ∧ n0 ≤ 2048 ∧ W0 * H2 = (n2 : Int) := by
  unfold unfB at hr
  simp only [Bool.and_eq_true, decide_eq_true_eq] at hr
  obtain ⟨q0, q1, q2, q3, ⟨e1, e2⟩, ⟨e3, e4⟩, e5, e6⟩ := hr
  obtain ⟨l0, u0, p0⟩ := okB_len q0
  obtain ⟨l1, u1, p1⟩ := okB_len q1
  obtain ⟨l2, u2, p2⟩ := okB_len q2
  obtain ⟨l3, u3, p3⟩ := okB_len q3
  subst e1 e2
  subst e3 e4
  subst e5
  have h2 : W2 * H2 = 2 * (W2 * H0) := by rw [e6, Int.mul_left_comm]
  exact ⟨q0, q1, q2, q3, rfl, rfl, rfl, rfl, rfl, e6, by omega, by omega, by omega, l0, by omega, p2⟩

theorem implUnfold_any (W0 H0 : Int) (a0 : Option Addr) (n0 cap0 : Nat) (f0 : Nat → Int) (hl0 : n0 ≤ 1048576) (W1 H1 : Int) (a1 : Option Addr) (n1 cap1 : Nat) (f1 : Nat → Int) (hl1 : n1 ≤ 1048576) (W2 H2 : Int) (a2 : Option Addr) (n2 cap2 : Nat) (f2 : Nat → Int) (hl2 : n2 ≤ 1048576) (W3 H3 : Int) (a3 : Option Addr) (n3 cap3 : Nat) (f3 : Nat → Int) (hl3 : n3 ≤ 1048576) (w : World) (h0 : Px a0 n0 f0 w) (h1 : Px a1 n1 f1 w) (h2 : Px a2 n2 f2 w) (h3 : Px a3 n3 f3 w) :
    Calls Try.prog 9 #[im W0 H0 a0 n0 cap0, im W1 H1 a1 n1 cap1, im W2 H2 a2 n2 cap2, im W3 H3 a3 n3 cap3] w (ImRI (unW (unfB W0 H0 n0 f0 W1 H1 n1 f1 W2 H2 n2 f2 W3 H3 n3 f3) W2) (unW (unfB W0 H0 n0 f0 W1 H1 n1 f1 W2 H2 n2 f2 W3 H3 n3 f3) H2) (unN (unfB W0 H0 n0 f0 W1 H1 n1 f1 W2 H2 n2 f2 W3 H3 n3 f3) n2) (curF n0 f0 f1 f2 f3 n0) (unC (unfB W0 H0 n0 f0 W1 H1 n1 f1 W2 H2 n2 f2 W3 H3 n3 f3) (cntF n0 f0 f1 f2 f3 n0)) w) := by
  cases hr : unfB W0 H0 n0 f0 W1 H1 n1 f1 W2 H2 n2 f2 W3 H3 n3 f3
  · exact implUnfold_no W0 H0 a0 n0 cap0 f0 hl0 W1 H1 a1 n1 cap1 f1 hl1 W2 H2 a2 n2 cap2 f2 hl2 W3 H3 a3 n3 cap3 f3 hl3 w h0 h1 h2 h3 hr _
  · obtain ⟨q0, q1, q2, q3, rfl, rfl, rfl, rfl, rfl, e10, rfl, e12, rfl, e14, e15, e16⟩ := unf_yes hr
    unfold unW unN unC
    simp only [if_true]
    exact implUnfold_yes _ _ _ _ _ e12 e10 e14 e15 a0 cap0 f0 a1 cap1 f1 a2 cap2 f2 a3 cap3 f3 w h0 h1 h2 h3 q0 q1 q2 q3

end Go.Proofs.Ytpeocbhnnpppjaa

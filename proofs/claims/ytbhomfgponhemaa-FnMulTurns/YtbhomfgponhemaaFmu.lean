/- Contracts of the two CxMul, with the world that they leave. -/
import Derived.Test.YtbhomfgponhemaaFad
import Derived.Deep.DeepCutAuto
namespace Go.Proofs.Ytbhomfgponhemaa
open Ieee Go.RowKit
attribute [local go_sem] run_store_float run_fadd run_fsub run_fmul run_fquo run_cadd alloc_drewN setCell_drewN shape?_drewN run_fneg

/-- a product, as the document tells it -/
def MulRe (a b c d r : Nat) : Prop := ∃ p q, Res .mul a c p ∧ Res .mul b d q ∧ Res .sub p q r
def MulIm (a b c d r : Nat) : Prop := ∃ p q, Res .mul a d p ∧ Res .mul b c q ∧ Res .add p q r

theorem MulRe.same {a b c d r r' : Nat} (h : MulRe a b c d r) (h' : MulRe a b c d r') : same r r' := by
  obtain ⟨p, q, h1, h2, h3⟩ := h
  obtain ⟨p', q', h1', h2', h3'⟩ := h'
  exact h3.congr aSub (h1.congr aMul (same_rfl _) (same_rfl _) h1') (h2.congr aMul (same_rfl _) (same_rfl _) h2') h3'
theorem MulIm.same {a b c d r r' : Nat} (h : MulIm a b c d r) (h' : MulIm a b c d r') : same r r' := by
  obtain ⟨p, q, h1, h2, h3⟩ := h
  obtain ⟨p', q', h1', h2', h3'⟩ := h'
  exact h3.congr aAdd (h1.congr aMul (same_rfl _) (same_rfl _) h1') (h2.congr aMul (same_rfl _) (same_rfl _) h2') h3'

theorem mul_spec (a b c d : Nat) (w : World) :
    Calls Try.prog 11 #[cx a b, cx c d] w fun e w' => ∃ r s n, e = .returned (cx r s) ∧ w' = (((w.alloc (cellI a b)).alloc (cellI c d)).alloc (cellI r s)).drewN n ∧ MulRe a b c d r ∧ MulIm a b c d s := by
  go_enter Try.func11, Try.ntmps11
  go_wp2
  go_returns
  exact ⟨_, _, _, rfl, rfl, ⟨_, _, fval_res _ _ _ _, fval_res _ _ _ _, fval_res _ _ _ _⟩, ⟨_, _, fval_res _ _ _ _, fval_res _ _ _ _, fval_res _ _ _ _⟩⟩

theorem nativeProduct_any (a b c d : Nat) (w : World) :
    Calls Try.prog 16 #[.complex .f64 a b, .complex .f64 c d] w fun e w' => ∃ r s n, e = .returned (.complex .f64 r s) ∧ w' = w.drewN n ∧ MulRe a b c d r ∧ MulIm a b c d s := by
  go_enter Try.func16, Try.ntmps16
  go_wp2
  go_returns
  exact ⟨_, _, _, rfl, rfl, ⟨_, _, fval_res _ _ _ _, fval_res _ _ _ _, fval_res _ _ _ _⟩, ⟨_, _, fval_res _ _ _ _, fval_res _ _ _ _, fval_res _ _ _ _⟩⟩

set_option maxHeartbeats 1000000 in
theorem mul_impl (a b c d : Nat) (w : World) :
    Calls Try.prog 7 #[cx a b, cx c d] w fun e w' => ∃ r s n, e = .returned (cx r s) ∧ w' = ((((((w.alloc (cellI a b)).alloc (cellI c d)).alloc (cellI r s)).alloc (cellI a b)).alloc (cellI c d)).alloc (cellI r s)).drewN n ∧ MulRe a b c d r ∧ MulIm a b c d s := by
  go_enter Try.func7, Try.ntmps7
  go_wp2
  go_region_with (first | (go_at_call 17; refine (toNative_exact _ _ _).mono ?_; rintro e w1 ⟨rfl, rfl⟩) | (go_at_call 16; refine (nativeProduct_any _ _ _ _ _).mono ?_; rintro e w1 ⟨r, s, n, rfl, rfl, hr, hs⟩) | (go_at_call 15; refine (fromNative_exact _ _ _).mono ?_; rintro e w1 ⟨rfl, rfl⟩))
  all_goals
    go_wp2
    go_returns
    exact ⟨_, _, _, rfl, rfl, hr, hs⟩

end Go.Proofs.Ytbhomfgponhemaa

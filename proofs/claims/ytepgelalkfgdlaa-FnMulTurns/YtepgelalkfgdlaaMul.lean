/- Contracts of the two CxMul, with the world that they leave. -/
import Derived.Test.YtepgelalkfgdlaaAdd
import Derived.Deep.DeepCutAuto
namespace Go.Proofs.Ytepgelalkfgdlaa
open Ieee Go.RowKit
attribute [local go_sem] run_store_float run_fadd run_fsub run_fmul run_fquo run_cadd alloc_drewN setCell_drewN shape?_drewN run_fneg

/-- a product, as the document tells it -/
def MulRe (a b c d r : Nat) : Prop := ∃ p q, Res .mul a c p ∧ Res .mul b d q ∧ Res .sub p q r
def MulIm (a b c d r : Nat) : Prop := ∃ p q, Res .mul a d p ∧ Res .mul b c q ∧ Res .add p q r

theorem MulRe.same {a b c d r r' : Nat} (h : MulRe a b c d r) (h' : MulRe a b c d r') : same r r' := by
  obtain ⟨p, q, h1, h2, h3⟩ := h
  obtain ⟨p', q', h1', h2', h3'⟩ := h'
  exact h3.congr aSub (h1.congr aMul (same_rfl _) (same_rfl _) h1') (h2.congr aMul (same_rfl _) (same_rfl _) h2') h3'
theorem MulIm.same {a b c d r r' : Nat} (h : MulIm a b c d r) (h' : MulIm a b c d r') : same r r' := by
  obtain ⟨p, q, h1, h2, h3⟩ := h
  obtain ⟨p', q', h1', h2', h3'⟩ := h'
  exact h3.congr aAdd (h1.congr aMul (same_rfl _) (same_rfl _) h1') (h2.congr aMul (same_rfl _) (same_rfl _) h2') h3'

theorem mul_spec (a b c d : Nat) (w : World) :
    Calls Try.prog 45 #[cx a b, cx c d] w fun e w' => ∃ r s n, e = .returned (cx r s) ∧ w' = (((w.alloc (cell39 a b)).alloc (cell39 c d)).alloc (cell39 r s)).drewN n ∧ MulRe a b c d r ∧ MulIm a b c d s := by
  go_enter Try.func45, Try.ntmps45
  go_wp2
  go_returns
  exact ⟨_, _, _, rfl, rfl, ⟨_, _, fval_res _ _ _ _, fval_res _ _ _ _, fval_res _ _ _ _⟩, ⟨_, _, fval_res _ _ _ _, fval_res _ _ _ _, fval_res _ _ _ _⟩⟩

set_option maxHeartbeats 1000000 in
theorem mul_impl (a b c d : Nat) (w : World) :
    Calls Try.prog 35 #[cx a b, cx c d] w fun e w' => ∃ r s n, e = .returned (cx r s) ∧ w' = ((((((w.alloc (cell39 a b)).alloc (cell39 c d)).alloc (cell39 r s)).alloc (cell39 a b)).alloc (cell39 c d)).alloc (cell39 r s)).drewN n ∧ MulRe a b c d r ∧ MulIm a b c d s := by
  go_enter Try.func35, Try.ntmps35
  go_upto_region 1 with fail
  go_cut [5, 6] (fun s5 s6 wc => s5 = .complex .f64 a b ∧ s6 = .complex .f64 c d ∧ wc = (((((w.alloc (cell39 a b)).alloc (cell39 c d)).alloc (cell39 0 0)).alloc (cell39 a b)).alloc (cell39 c d)).drew)
  case first =>
    go_region_with (go_at_call 72; refine (toNative_exact _ _ _).mono ?_; rintro e w1 ⟨rfl, rfl⟩)
    all_goals
      go_wp2_with fail
      go_meet
      exact ⟨rfl, rfl, rfl⟩
  case rest =>
    obtain ⟨rfl, rfl, rfl⟩ := hcut
    go_wp2_with fail
    refine (fromNative_exact _ _ _).mono ?_
    rintro e w1 ⟨rfl, rfl⟩
    go_wp2_with fail
    go_returns
    exact ⟨_, _, _, rfl, rfl, ⟨_, _, fval_res _ _ _ _, fval_res _ _ _ _, fval_res _ _ _ _⟩, ⟨_, _, fval_res _ _ _ _, fval_res _ _ _ _, fval_res _ _ _ _⟩⟩

end Go.Proofs.Ytepgelalkfgdlaa

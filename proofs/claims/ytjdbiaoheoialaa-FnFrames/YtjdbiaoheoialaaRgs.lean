/- A region that draws, reads, reckons and stores once at its end: in general form. -/
import Derived.Test.YtjdbiaoheoialaaRgu
import Derived.Test.YtjdbiaoheoialaaHom
namespace Go.Proofs.Ytjdbiaoheoialaa
open Go.RowKit

/-- until the store, the world is as it was -/
def sR (S : Nat) (wB : World) (u : Nat → Value) (w : World) : Prop := u S = undef → w = wB.drew
def sF (S : Nat) (G : Nat → Value → Prop) (P : World → Prop) (j : Nat) (u : Nat → Value) (w : World) : Prop := G j (u j) ∧ (j = S → P w)
theorem sR_up {S : Nat} {wB : World} {u : Nat → Value} {w : World} (h : sR S wB u w) (i : Nat) (hS : S ≠ i) (v : Value) : sR S wB (upU u i v) w := fun h0 => h (by rwa [upU_other u v hS] at h0)
theorem sF_up {S : Nat} {G : Nat → Value → Prop} {P : World → Prop} {u : Nat → Value} {w w' : World} (i : Nat) (v : Value) (j : Nat) (hj : j ≠ i) (hjS : j ≠ S) (h : sF S G P j u w) : sF S G P j (upU u i v) w' :=
  ⟨by rw [upU_other u v hj]; exact h.1, fun e => absurd e hjS⟩
theorem sF_val {S : Nat} {G : Nat → Value → Prop} {P : World → Prop} {u : Nat → Value} {w : World} (j : Nat) (hS : j ≠ S) {v : Value} (h : G j v) : sF S G P j (upU u j v) w :=
  ⟨by rw [upU_same]; exact h, fun e => absurd e hS⟩
theorem sR_st {S : Nat} {wB : World} {u : Nat → Value} {w : World} {v : Value} (hv : v ≠ undef) : sR S wB (upU u S v) w := fun h => absurd (by rwa [upU_same] at h) hv
theorem sF_st {S : Nat} {G : Nat → Value → Prop} {P : World → Prop} {u : Nat → Value} {w : World} {v : Value} (hG : G S v) (hP : P w) : sF S G P S (upU u S v) w :=
  ⟨by rw [upU_same]; exact hG, fun _ => hP⟩
theorem sF_keep {S : Nat} {G : Nat → Value → Prop} {P : World → Prop} {u : Nat → Value} {w w' : World} (v : Value) (j : Nat) (hj : j ≠ S) (h : sF S G P j u w) : sF S G P j (upU u S v) w' :=
  ⟨by rw [upU_other u v hj]; exact h.1, fun e => absurd e hj⟩

end Go.Proofs.Ytjdbiaoheoialaa

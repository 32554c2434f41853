/- Lists that are written in place. -/
import Derived.Test.YtekoioggamhlaaaHom
namespace Go.Proofs.Ytekoioggamhlaaa
open Go.RowKit

/-- a list with one number written anew -/
def updN (s : Nat → Int) (k : Nat) (v : Int) (q : Nat) : Int := if q = k then v else s q
/-- the first k numbers of F, then noughts -/
def hyb (F : Nat → Int) (k : Nat) (q : Nat) : Int := if q < k then F q else 0
theorem updN_hyb (F : Nat → Int) (k : Nat) : updN (hyb F k) k (F k) = hyb F (k + 1) := by
  funext q
  unfold updN hyb
  by_cases h : q = k
  · subst h; simp
  · by_cases h2 : q < k
    · rw [if_neg h, if_pos h2, if_pos (by omega)]
    · rw [if_neg h, if_neg h2, if_neg (by omega)]
theorem updN_upd (s : Nat → Int) (k : Nat) (u v : Int) : updN (updN s k u) k v = updN s k v := by
  funext q
  unfold updN
  split <;> rfl
theorem Row.updN {b n : Nat} {s : Nat → Int} {w : World} (h : Row b n s w) {k : Nat} (hk : k < n) (v : Int) : Row b n (updN s k v) (w.setCell ⟨b, k, none⟩ (.int .i64 v)) := fun q hq => by
  have h0 := h q hq
  refine ⟨?_, by simpa using h0.2⟩
  by_cases e : q = k
  · subst e
    rw [World.cell?_setCell_same _ _ _ (h q hq).1]
    unfold Go.Proofs.Ytekoioggamhlaaa.updN
    simp
  · rw [World.cell?_setCell_other _ _ _ _ (by simp; try omega)]
    unfold Go.Proofs.Ytekoioggamhlaaa.updN
    rw [if_neg e]
    exact h0.1
/-- an own list, one number of which is written -/
theorem St.upd {w0 : World} {L : List BoxT} {O : List OwnT} {w : World} {b n : Nat} {s : Nat → Int} (h : St w0 L ((some ⟨b, 0, none⟩, b, n, fun q => .int .i64 (s q)) :: O) w) {k : Nat} (hk : k < n) (v : Int) :
    St w0 L ((some ⟨b, 0, none⟩, b, n, fun q => .int .i64 (updN s k v q)) :: O) (w.setCell ⟨b, k, none⟩ (.int .i64 v)) := by
  have h0 : n ≠ 0 := by omega
  refine h.mark0 h0 ((Kept.refl b w).setCell rfl _) ?_
  rcases h.nthO 0 rfl with h1 | ⟨_, h1⟩
  · exact absurd h1 h0
  · exact (Row.updN h1 hk v).v
/-- a cell of an own list -/
theorem St.atO {w0 : World} {L : List BoxT} {O : List OwnT} {w : World} {b n : Nat} {s : Nat → Int} (h : St w0 L ((some ⟨b, 0, none⟩, b, n, fun q => .int .i64 (s q)) :: O) w) {k : Nat} (hk : k < n) :
    w.cell? ⟨b, k, none⟩ = some (.int .i64 (s k)) ∧ w.frozen? ⟨b, k, none⟩ = false := by
  rcases h.nthO 0 rfl with h1 | ⟨_, h1⟩
  · omega
  · exact h1 k hk

end Go.Proofs.Ytekoioggamhlaaa

/- The law's own copies, comparisons and marks of Flow. -/
import Derived.Test.YtfhfddmiiopgdaaOrd
import Derived.Test.YtfhfddmiiopgdaaHom
namespace Go.Proofs.Ytfhfddmiiopgdaa
open Go.RowKit

abbrev vFlow (x0 : Int) (a0 : Option Addr) (n0 c0 : Nat) : Value := .agg #[.int .i64 x0, .slice a0 n0 c0]
theorem St.im2 {w0 : World} {L : List BoxT} {O : List OwnT} {w : World} (h : St w0 L O w) (i : Nat) {b : Nat} {v0 v1 : Value} (hm : L[i]? = some (b, [v0, v1])) :
    w.cell? ⟨b, 0, none⟩ = some v0 ∧ w.cell? ⟨b, 1, none⟩ = some v1 := ⟨h.cell i hm 0 rfl, h.cell i hm 1 rfl⟩
theorem St.fr2 {w0 : World} {L : List BoxT} {O : List OwnT} {w : World} (h : St w0 L O w) (i : Nat) {b : Nat} {v0 v1 : Value} (hm : L[i]? = some (b, [v0, v1])) :
    w.frozen? ⟨b, 0, none⟩ = false ∧ w.frozen? ⟨b, 1, none⟩ = false := ⟨h.free i hm 0 rfl, h.free i hm 1 rfl⟩

theorem Ow.row {b n : Nat} {f : Nat → Int} {w : World} (h : Ow (some ⟨b, 0, none⟩) b n f w) : Row b n f w := fun k hk => by
  rcases h with h | ⟨_, h⟩
  · omega
  · exact h k hk

end Go.Proofs.Ytfhfddmiiopgdaa

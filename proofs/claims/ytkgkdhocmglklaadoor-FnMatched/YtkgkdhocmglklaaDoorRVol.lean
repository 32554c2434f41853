/- The law's own copies, comparisons and marks of Volume. -/
import Derived.Test.YtkgkdhocmglklaaDoorHom
namespace Go.Proofs.YtkgkdhocmglklaaDoor
open Go.RowKit

abbrev vVolume (x0 x1 x2 : Int) (a0 : Option Addr) (n0 c0 : Nat) : Value := .agg #[.int .i64 x0, .int .i64 x1, .int .i64 x2, .slice a0 n0 c0]
theorem St.im4 {w0 : World} {L : List BoxT} {O : List OwnT} {w : World} (h : St w0 L O w) (i : Nat) {b : Nat} {v0 v1 v2 v3 : Value} (hm : L[i]? = some (b, [v0, v1, v2, v3])) :
    w.cell? ⟨b, 0, none⟩ = some v0 ∧ w.cell? ⟨b, 1, none⟩ = some v1 ∧ w.cell? ⟨b, 2, none⟩ = some v2 ∧ w.cell? ⟨b, 3, none⟩ = some v3 := ⟨h.cell i hm 0 rfl, h.cell i hm 1 rfl, h.cell i hm 2 rfl, h.cell i hm 3 rfl⟩
theorem St.fr4 {w0 : World} {L : List BoxT} {O : List OwnT} {w : World} (h : St w0 L O w) (i : Nat) {b : Nat} {v0 v1 v2 v3 : Value} (hm : L[i]? = some (b, [v0, v1, v2, v3])) :
    w.frozen? ⟨b, 0, none⟩ = false ∧ w.frozen? ⟨b, 1, none⟩ = false ∧ w.frozen? ⟨b, 2, none⟩ = false ∧ w.frozen? ⟨b, 3, none⟩ = false := ⟨h.free i hm 0 rfl, h.free i hm 1 rfl, h.free i hm 2 rfl, h.free i hm 3 rfl⟩

theorem Ow.row {b n : Nat} {f : Nat → Int} {w : World} (h : Ow (some ⟨b, 0, none⟩) b n f w) : Row b n f w := fun k hk => by
  rcases h with h | ⟨_, h⟩
  · omega
  · exact h k hk

end Go.Proofs.YtkgkdhocmglklaaDoor

/- Boxes of four cells. -/
import Derived.Test.YtocmbdckjdggiaaHom
namespace Go.Proofs.Ytocmbdckjdggiaa
open Go.RowKit

theorem St.im4 {w0 : World} {L : List BoxT} {O : List OwnT} {w : World} (h : St w0 L O w) (i : Nat) {b : Nat} {v0 v1 v2 v3 : Value} (hm : L[i]? = some (b, [v0, v1, v2, v3])) :
    w.cell? ⟨b, 0, none⟩ = some v0 ∧ w.cell? ⟨b, 1, none⟩ = some v1 ∧ w.cell? ⟨b, 2, none⟩ = some v2 ∧ w.cell? ⟨b, 3, none⟩ = some v3 := ⟨h.cell i hm 0 rfl, h.cell i hm 1 rfl, h.cell i hm 2 rfl, h.cell i hm 3 rfl⟩
theorem St.fr4 {w0 : World} {L : List BoxT} {O : List OwnT} {w : World} (h : St w0 L O w) (i : Nat) {b : Nat} {v0 v1 v2 v3 : Value} (hm : L[i]? = some (b, [v0, v1, v2, v3])) :
    w.frozen? ⟨b, 0, none⟩ = false ∧ w.frozen? ⟨b, 1, none⟩ = false ∧ w.frozen? ⟨b, 2, none⟩ = false ∧ w.frozen? ⟨b, 3, none⟩ = false := ⟨h.free i hm 0 rfl, h.free i hm 1 rfl, h.free i hm 2 rfl, h.free i hm 3 rfl⟩

end Go.Proofs.Ytocmbdckjdggiaa

/- Blocks that stay, over G8v (written to the place of Kps in the seats that visit too). -/
import Derived.Test.YtekoioggamhlaaaG8v
namespace Go.Proofs.Ytekoioggamhlaaa
open Go.RowKit

theorem owns_same {w w' : World} {B n m : Nat} {e : TypeId} {v : Value} {xs : List Value} (h : w.ownsRow B e m v n xs) (hk : ∀ b, v.ownBlock = some b → w'.heap[b]? = w.heap[b]?) : w'.ownsRow B e m v n xs := by
  obtain ⟨h1, h2⟩ := h
  refine ⟨h1, ?_⟩
  rcases h2 with h2 | ⟨b', cap', cur, hv, hB, hh, hn, hc, hs, ht⟩
  · exact .inl h2
  · exact .inr ⟨b', cap', cur, hv, hB, by rw [hk b' (by rw [hv]; rfl)]; exact hh, hn, hc, hs, ht⟩

end Go.Proofs.Ytekoioggamhlaaa

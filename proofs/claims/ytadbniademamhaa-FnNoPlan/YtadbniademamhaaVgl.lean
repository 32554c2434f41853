/- Lists of structs as lists of cells. -/
import Derived.Test.YtadbniademamhaaHom
namespace Go.Proofs.Ytadbniademamhaa
open Go.RowKit

/-- the first cells as a list -/
def vls (F : Nat → Value) : Nat → List Value
  | 0 => []
  | n + 1 => vls F n ++ [F n]
theorem vls_len (F : Nat → Value) : ∀ n, (vls F n).length = n
  | 0 => rfl
  | n + 1 => by simp [vls, vls_len F n]
theorem vls_at (F : Nat → Value) : ∀ n k, k < n → (vls F n)[k]? = some (F k)
  | 0, k, h => by omega
  | n + 1, k, h => by
    by_cases e : k < n
    · rw [vls, List.getElem?_append_left (by rw [vls_len]; exact e), vls_at F n k e]
    · obtain rfl : k = n := by omega
      rw [vls, List.getElem?_append_right (by rw [vls_len]; omega), vls_len]
      simp
theorem vls_congr {F G : Nat → Value} : ∀ {n}, (∀ k, k < n → F k = G k) → vls F n = vls G n
  | 0, _ => rfl
  | n + 1, h => by simp only [vls]; rw [vls_congr (fun k hk => h k (by omega)), h n (by omega)]
/-- an own list of structs -/
theorem ow_vls {w : World} {B n m : Nat} {e : TypeId} {v : Value} {F : Nat → Value} (h : w.ownsRow B e m v n (vls F (n * m))) : ∃ a cap b, v = .slice a n cap ∧ OwV a b (n * m) F w ∧ (n * m = 0 ∨ B ≤ b) ∧ n ≤ cap := by
  have h' := h
  obtain ⟨hlen, hv | ⟨b, cap, cur, hv, hg, hcur, _, hm, _, _⟩⟩ := h'
  · obtain ⟨rfl, rfl⟩ := hv
    exact ⟨none, 0, B, rfl, .inl (by simp), .inl (by simp), Nat.le_refl _⟩
  · subst hv
    refine ⟨some ⟨b, 0, none⟩, cap, b, rfl, .inr ⟨rfl, fun k hk => ⟨?_, h.frozenAt k⟩⟩, .inr hg, by assumption⟩
    rw [h.cellAt k hk]
    exact vls_at F _ k hk

end Go.Proofs.Ytadbniademamhaa

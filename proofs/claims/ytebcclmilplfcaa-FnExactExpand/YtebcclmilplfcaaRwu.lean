/- How bytes that came in are read, one by one. -/
import Derived.Test.YtebcclmilplfcaaRwi
import Derived.Test.YtebcclmilplfcaaBym
namespace Go.Proofs.Ytebcclmilplfcaa
open Go.ChangeShapes Go.WideShapes Go.ChangeAt Go.RowKit

theorem bytesF_of {H : Type} {enc : TypeId × Value → H} {W : World} {base : Nat} {spare : Nat → Bool} {held : Bool} {a : Option Addr} {len cap : Nat} {d : DataW H} {p : List MemPlace}
    (h : DataW.Trod enc Try.prog W base spare held 23 (.slice a len cap) d p) : len ≤ maxLen ∧ ∃ f : Nat → Int, (∀ k, k < len → 0 ≤ f k ∧ f k ≤ 255) ∧ PxU a len f W := by
  obtain ⟨fuel, hf⟩ := h
  rcases open_ints Try.underlying23 Try.underlying5 (by kernel_rfl) hf with ⟨hcs, _⟩ | ⟨x, l, c, zs, hcs, _, hl, hm, hz, _, hcell, hwz⟩
  · simp [Value.cells] at hcs
    obtain ⟨rfl, rfl, rfl⟩ := hcs
    exact ⟨by unfold maxLen; omega, fun _ => 0, fun k hk => absurd hk (Nat.not_lt_zero _), .inl rfl⟩
  · simp [Value.cells] at hcs
    obtain ⟨rfl, rfl, rfl⟩ := hcs
    refine ⟨Nat.le_trans hl hm, fun k => zs.getD k 0, ?_⟩
    have hzl : len ≤ zs.length := by rw [hz]; split <;> omega
    clear hz
    refine ⟨fun k hk => ?_, ?_⟩
    · have hm2 : zs.getD k 0 ∈ zs := by
        rw [List.getD_eq_getElem?_getD, List.getElem?_eq_getElem (by omega)]
        exact List.getElem_mem (by omega)
      have hb : 0 ≤ zs.getD k 0 ∧ zs.getD k 0 ≤ 255 := bounds_u8 (hwz _ hm2)
      exact hb
    · by_cases h0 : len = 0
      · exact .inl h0
      · obtain ⟨b, off, rfl, hc⟩ := _root_.Go.ints_at hcell (by omega)
        exact .inr ⟨b, off, rfl, fun k hk => hc k (by omega)⟩

end Go.Proofs.Ytebcclmilplfcaa

/- Unfolding: the specification, where it can be. -/
import Derived.Test.YtpeocbhnnpppjaaUnI
import Derived.Test.YtpeocbhnnpppjaaRsd
import Derived.Deep.RegionHeld
namespace Go.Proofs.Ytpeocbhnnpppjaa
open Go.RowKit

theorem slotAt {a : Option Addr} {b n : Nat} {f : Nat → Value} {w : World} (h : OwV a b n f w) {k : Nat} (hk : k < n) : (∃ v, w.cell? ⟨b, k, none⟩ = some v) ∧ w.frozen? ⟨b, k, none⟩ = false := by
  rcases h with h | h
  · omega
  · exact ⟨⟨_, (h.2 k hk).1⟩, (h.2 k hk).2⟩
/-- a product of residues, and its remainder -/
theorem prod2 (a b : Int) (ha : 0 ≤ a ∧ a < 12289) (hb : 0 ≤ b ∧ b < 12289) : ∃ Y, IntKind.i64.wrap (a * b) = Y ∧ Y.tmod 12289 = res (a * b) := by
  have v1 : (a * b).natAbs ≤ 12289 * 12289 := natb (by omega) (by omega)
  refine ⟨a * b, wrapn v1 (by omega), ?_⟩
  rw [Int.tmod_eq_emod_of_nonneg (Int.mul_nonneg ha.1 hb.1)]
  rfl
theorem res_sub (a b c d : Int) : res (res a * res b - res c * res d) = res (a * b - c * d) := by
  unfold res
  rw [Int.sub_emod, ← Int.mul_emod, ← Int.mul_emod, ← Int.sub_emod]
theorem rowAt {a : Option Addr} {b n : Nat} {f : Nat → Int} {w : World} (h : OwV a b n (fun k => .int .i64 (f k)) w) {k : Nat} (hk : k < n) : w.cell? ⟨b, k, none⟩ = some (.int .i64 (f k)) := by
  rcases h with h | h
  · omega
  · exact (h.2 k hk).1
/-- the difference of two products of residues, and its residue -/
theorem diff2 (a b c d : Int) (ha : 0 ≤ a ∧ a < 12289) (hb : 0 ≤ b ∧ b < 12289) (hc : 0 ≤ c ∧ c < 12289) (hd : 0 ≤ d ∧ d < 12289) :
    ∃ X, IntKind.i64.wrap (a * b) = a * b ∧ IntKind.i64.wrap (c * d) = c * d ∧ IntKind.i64.wrap (a * b - c * d) = X ∧ res X = res (a * b - c * d) := by
  have v1 : (a * b).natAbs ≤ 12289 * 12289 := natb (by omega) (by omega)
  have v2 : (c * d).natAbs ≤ 12289 * 12289 := natb (by omega) (by omega)
  exact ⟨a * b - c * d, wrapn v1 (by omega), wrapn v2 (by omega), by rw [IntKind.wrap_i64]; omega, rfl⟩

end Go.Proofs.Ytpeocbhnnpppjaa

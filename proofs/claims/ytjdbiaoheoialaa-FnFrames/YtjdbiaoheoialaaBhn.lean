/- A mapping behind another: the numbers. -/
import Derived.Test.YtjdbiaoheoialaaRfm
import Derived.Test.YtjdbiaoheoialaaVec
import Derived.Test.YtjdbiaoheoialaaPla
namespace Go.Proofs.Ytjdbiaoheoialaa
open Go.RowKit

/-- column k of a matrix -/
def colF (M : Nat → Int) (k j : Nat) : Int := M (3 * j + k)
/-- the matrix of the two, by rows -/
def bhM (M L : Nat → Int) (j : Nat) : Int := timF M (colF L (j % 3)) (j / 3)
/-- the shift of the two: what the first shifts is turned, the last's own shift comes in the first's scale -/
def bhT (M T S : Nat → Int) (E : Int) (i : Nat) : Int := timF M S i + T i * E
/-- the first k columns are done -/
def bhK (M L : Nat → Int) (k j : Nat) : Int := if j % 3 < k then bhM M L j else 0
theorem bhK_0 (M L : Nat → Int) : bhK M L 0 = fun _ => 0 := by funext j; unfold bhK; rw [if_neg (by omega)]
theorem bhK_3 (M L : Nat → Int) : bhK M L 3 = bhM M L := by funext j; unfold bhK; rw [if_pos (by omega)]
theorem timF_b {M V : Nat → Int} (hM : ∀ k, k < 9 → -1000000 ≤ M k ∧ M k ≤ 1000000) (hV : ∀ k, k < 3 → -1000000 ≤ V k ∧ V k ≤ 1000000) {i : Nat} (hi : i < 3) : ((-1000000000000 ≤ M (3 * i) * V 0 ∧ M (3 * i) * V 0 ≤ 1000000000000) ∧ (-1000000000000 ≤ M (3 * i + 1) * V 1 ∧ M (3 * i + 1) * V 1 ≤ 1000000000000) ∧ (-1000000000000 ≤ M (3 * i + 2) * V 2 ∧ M (3 * i + 2) * V 2 ≤ 1000000000000)) ∧ -3000000000000 ≤ timF M V i ∧ timF M V i ≤ 3000000000000 := by
  have g0 := mul_b6 (hM (3 * i) (by omega)) (hV 0 (by omega))
  have g1 := mul_b6 (hM (3 * i + 1) (by omega)) (hV 1 (by omega))
  have g2 := mul_b6 (hM (3 * i + 2) (by omega)) (hV 2 (by omega))
  refine ⟨⟨g0, g1, g2⟩, ?_⟩
  unfold timF
  omega
theorem colF_b {L : Nat → Int} (hL : ∀ k, k < 9 → -1000000 ≤ L k ∧ L k ≤ 1000000) {k : Nat} (hk : k < 3) : ∀ j, j < 3 → -1000000 ≤ colF L k j ∧ colF L k j ≤ 1000000 := fun j hj => hL _ (by omega)
theorem bhM_b {M L : Nat → Int} (hM : ∀ k, k < 9 → -1000000 ≤ M k ∧ M k ≤ 1000000) (hL : ∀ k, k < 9 → -1000000 ≤ L k ∧ L k ≤ 1000000) {j : Nat} (hj : j < 9) : (bhM M L j).natAbs ≤ 3000000000000 := by
  have := (timF_b hM (colF_b hL (show j % 3 < 3 by omega)) (show j / 3 < 3 by omega)).2
  unfold bhM
  omega
theorem bhT_b {M T S : Nat → Int} {E : Int} (hM : ∀ k, k < 9 → -1000000 ≤ M k ∧ M k ≤ 1000000) (hT : ∀ k, k < 3 → -1000000 ≤ T k ∧ T k ≤ 1000000) (hS : ∀ k, k < 3 → -1000000 ≤ S k ∧ S k ≤ 1000000) (hE : -1000000 ≤ E ∧ E ≤ 1000000) {i : Nat} (hi : i < 3) : (bhT M T S E i).natAbs ≤ 4000000000000 := by
  have h1 := (timF_b hM hS hi).2
  have h2 := mul_b6 (hT i hi) hE
  unfold bhT
  omega
/-- a round lays one column: cells k, 3 + k, 6 + k -/
theorem c13_col (M L T : Nat → Int) (D : Int) {k : Nat} (hk : k < 3) : (((c13 (bhK M L k) T D).set k (.int .i64 (timF M (colF L k) 0))).set (3 + k) (.int .i64 (timF M (colF L k) 1))).set (6 + k) (.int .i64 (timF M (colF L k) 2)) = c13 (bhK M L (k + 1)) T D := by
  match k, hk with
  | 0, _ => simp [c13, bhK, bhM]
  | 1, _ => simp [c13, bhK, bhM]
  | 2, _ => simp [c13, bhK, bhM]

end Go.Proofs.Ytjdbiaoheoialaa

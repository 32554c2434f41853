/- A row that is written in place. -/
import Derived.Test.YthfkdejlkegmoaaLnm
import Derived.Test.YthfkdejlkegmoaaHom
import Derived.Test.YthfkdejlkegmoaaItr
namespace Go.Proofs.Ythfkdejlkegmoaa
open Go.RowKit

theorem Row.upd {b n : Nat} {g : Nat → Int} {w : World} (h : Row b n g w) {q : Nat} (hq : q < n) (v : Int) : Row b n (Lnm.upd g q v) (w.setCell ⟨b, q, none⟩ (.int .i64 v)) := fun k hk => by
  obtain ⟨h1, h2⟩ := h k hk
  refine ⟨?_, by rw [World.frozen?_setCell]; exact h2⟩
  unfold Lnm.upd
  by_cases e : k = q
  · subst e; rw [if_pos rfl]; exact World.cell?_setCell_same' _ _ _ (by rw [h1]; rfl)
  · rw [if_neg e, World.cell?_setCell_other _ _ _ _ (by intro hh; injection hh with _ h5 _; exact e h5.symm)]; exact h1

theorem sumW_sm {f : Nat → Int} {M : Int} (hM : M ≤ 1000000000000) : ∀ {n : Nat}, n ≤ 1048576 → (∀ k, k < n → -M ≤ f k ∧ f k ≤ M) → sumW (fl f n) = Lnm.sm f n
  | 0, _, _ => rfl
  | n + 1, hn, h => by
    have ih := sumW_sm hM (n := n) (by omega) (fun k hk => h k (by omega))
    have h1 := h n (by omega)
    have h2 := Lnm.sm_bound (f := f) (M := M) (n := n) (fun k hk => h k (by omega))
    have h0 : 0 ≤ M := by omega
    have h3 : M * (n : Int) ≤ 1000000000000 * 1048576 := Int.mul_le_mul hM (by omega) (by omega) (by omega)
    show sumW (fl f n ++ [f n]) = Lnm.sm f n + f n
    rw [sumW_snoc, ih]
    unfold wrap64
    omega
theorem fl_mem {f : Nat → Int} {x : Int} : ∀ {n : Nat}, x ∈ fl f n → ∃ j, j < n ∧ x = f j
  | n + 1, h => by
    rcases List.mem_append.1 h with h | h
    · obtain ⟨j, hj, e⟩ := fl_mem h
      exact ⟨j, by omega, e⟩
    · exact ⟨n, by omega, by simpa using h⟩
theorem plc_lt {p l j : Nat} (hp : 0 < p) (hj : j < p) : Lnm.plc p l j < p * p := by
  have ht := Nat.mod_lt l hp
  have hq := Nat.mod_lt (l / p * j + l % p) hp
  unfold Lnm.plc
  split
  · have : j * p + p ≤ p * p := by rw [← Nat.succ_mul]; exact Nat.mul_le_mul_right _ (by omega)
    omega
  · generalize (l / p * j + l % p) % p = q at *
    have : q * p + p ≤ p * p := by rw [← Nat.succ_mul]; exact Nat.mul_le_mul_right _ (by omega)
    omega

end Go.Proofs.Ythfkdejlkegmoaa

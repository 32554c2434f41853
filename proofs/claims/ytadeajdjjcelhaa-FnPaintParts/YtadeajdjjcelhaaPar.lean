/- Two lists of shapes, painted together: the numbers. -/
import Derived.Test.YtadeajdjjcelhaaPntS2
import Derived.Test.YtadeajdjjcelhaaAdd
namespace Go.Proofs.Ytadeajdjjcelhaa
open Go.RowKit
set_option maxRecDepth 100000
set_option maxHeartbeats 2000000

/-- a list's numbers by their places -/
def gOf (L : List Int) (q : Nat) : Int := L.getD q 0
theorem gOf_left {L : List Int} (M : List Int) {q : Nat} (h : q < L.length) : gOf (L ++ M) q = gOf L q := by
  unfold gOf
  rw [List.getD_eq_getElem?_getD, List.getD_eq_getElem?_getD, List.getElem?_append_left h]
theorem gOf_right {L : List Int} (M : List Int) {q r : Nat} (h : q = L.length + r) : gOf (L ++ M) q = gOf M r := by
  unfold gOf
  rw [List.getD_eq_getElem?_getD, List.getD_eq_getElem?_getD, List.getElem?_append_right (by omega)]
  congr 2; omega

section
variable {L M : List Int} {n : Nat}
theorem shG_left (hL : L.length = n * 7) {k : Nat} (h : k < n) : shG (gOf (L ++ M)) k = shG (gOf L) k := by
  unfold shG
  rw [gOf_left M (by omega), gOf_left M (by omega), gOf_left M (by omega), gOf_left M (by omega), gOf_left M (by omega), gOf_left M (by omega), gOf_left M (by omega)]
theorem shG_right (hL : L.length = n * 7) (k : Nat) : shG (gOf (L ++ M)) (n + k) = shG (gOf M) k := by
  unfold shG
  rw [gOf_right M (r := k * 7) (by omega), gOf_right M (r := k * 7 + 1) (by omega), gOf_right M (r := k * 7 + 2) (by omega), gOf_right M (r := k * 7 + 3) (by omega), gOf_right M (r := k * 7 + 4) (by omega), gOf_right M (r := k * 7 + 5) (by omega), gOf_right M (r := k * 7 + 6) (by omega)]
theorem insG_left (hL : L.length = n * 7) {k : Nat} (h : k < n) (x y : Int) : insG (gOf (L ++ M)) x y k = insG (gOf L) x y k := by
  unfold insG
  rw [gOf_left M (by omega), gOf_left M (by omega), gOf_left M (by omega), gOf_left M (by omega), gOf_left M (by omega), gOf_left M (by omega), gOf_left M (by omega)]
theorem insG_right (hL : L.length = n * 7) (k : Nat) (x y : Int) : insG (gOf (L ++ M)) x y (n + k) = insG (gOf M) x y k := by
  unfold insG
  rw [gOf_right M (r := k * 7) (by omega), gOf_right M (r := k * 7 + 1) (by omega), gOf_right M (r := k * 7 + 2) (by omega), gOf_right M (r := k * 7 + 3) (by omega), gOf_right M (r := k * 7 + 4) (by omega), gOf_right M (r := k * 7 + 5) (by omega), gOf_right M (r := k * 7 + 6) (by omega)]

theorem dens_left (hL : L.length = n * 7) (x y : Int) : ∀ k, k ≤ n → dens (gOf (L ++ M)) x y k = dens (gOf L) x y k
  | 0, _ => rfl
  | k + 1, h => by
    simp only [dens]
    rw [dens_left hL x y k (by omega), insG_left hL (by omega), gOf_left M (by omega)]
theorem dens_app (hL : L.length = n * 7) (x y : Int) : ∀ k, dens (gOf (L ++ M)) x y (n + k) = dens (gOf L) x y n + dens (gOf M) x y k
  | 0 => by rw [Nat.add_zero, dens_left hL x y n (Nat.le_refl _)]; simp [dens]
  | k + 1 => by
    rw [← Nat.add_assoc]
    simp only [dens]
    rw [dens_app hL x y k, insG_right hL k, gOf_right M (r := k * 7 + 6) (by omega)]
    omega

theorem allG_left (hL : L.length = n * 7) : ∀ k, k ≤ n → allG (shG (gOf (L ++ M))) k = allG (shG (gOf L)) k
  | 0, _ => rfl
  | k + 1, h => by
    simp only [allG]
    rw [allG_left hL k (by omega), shG_left hL (by omega)]
theorem allG_app (hL : L.length = n * 7) (h1 : allG (shG (gOf L)) n = true) : ∀ k, allG (shG (gOf M)) k = true → allG (shG (gOf (L ++ M))) (n + k) = true
  | 0, _ => by rw [Nat.add_zero, allG_left hL n (Nat.le_refl _)]; exact h1
  | k + 1, h => by
    simp only [allG, Bool.and_eq_true] at h
    rw [← Nat.add_assoc]
    simp only [allG, Bool.and_eq_true]
    exact ⟨allG_app hL h1 k h.1, by rw [shG_right hL k]; exact h.2⟩
theorem okS_app {m : Nat} (hL : L.length = n * 7) (h1 : okS (gOf L) n = true) (h2 : okS (gOf M) m = true) (h64 : n + m ≤ 64) : okS (gOf (L ++ M)) (n + m) = true := by
  unfold okS at *
  simp only [Bool.and_eq_true, decide_eq_true_eq] at *
  exact ⟨h64, allG_app hL h1.2 m h2.2⟩
theorem pict_app (hL : L.length = n * 7) (W : Int) (m q : Nat) : pict (gOf (L ++ M)) W (n + m) q = pict (gOf L) W n q + pict (gOf M) W m q := dens_app hL _ _ m
end

theorem paint_parts {g : Nat → Int} {n : Nat} {W H : Int} (h : paintB g n W H = true) : inB W 1 64 = true ∧ inB H 1 64 = true ∧ okS g n = true := by
  unfold paintB at h
  simp only [Bool.and_eq_true] at h
  exact h
theorem pict_bd {g : Nat → Int} {n : Nat} (h : okS g n = true) (W : Int) (q : Nat) : (pict g W n q).natAbs ≤ 64000 := by
  have := dens_bound (x := (q : Int) % W) (y := (q : Int) / W) h n (Nat.le_refl _)
  have := okS_le h
  unfold pict
  omega
theorem allB_of {f : Nat → Int} : ∀ n, (∀ q, q < n → (f q).natAbs ≤ 1000000000) → allB f n = true
  | 0, _ => rfl
  | n + 1, h => by
    simp only [allB, Bool.and_eq_true]
    refine ⟨allB_of n fun q hq => h q (by omega), ?_⟩
    have := h n (by omega)
    unfold inB
    simp only [Bool.and_eq_true, decide_eq_true_eq]
    omega
theorem okB_of {W H : Int} {f : Nat → Int} (hW : inB W 1 64 = true) (hH : inB H 1 64 = true) (hf : ∀ q, (f q).natAbs ≤ 1000000000) : okB W H (W * H).toNat f = true := by
  have h1 := side_bounds hW
  have h2 := side_bounds hH
  unfold okB
  rw [hW, hH, allB_of _ fun q _ => hf q]
  have : 0 ≤ W * H := Int.mul_nonneg (by omega) (by omega)
  simp
  omega

theorem wr_cong (a b k : Int) (h : a = b + 18446744073709551616 * k) : wrap64 a = wrap64 b := by
  unfold wrap64
  omega
theorem wr_form (a : Int) : ∃ k, wrap64 a = a + 18446744073709551616 * k := by
  unfold wrap64
  exact ⟨-((a + 9223372036854775808) / 18446744073709551616), by omega⟩

theorem wa (x y : Int) : wrap64 (wrap64 x + y) = wrap64 (x + y) := by
  obtain ⟨k, hk⟩ := wr_form x
  exact wr_cong _ _ k (by rw [hk]; omega)
theorem wb (x y : Int) : wrap64 (x + wrap64 y) = wrap64 (x + y) := by rw [Int.add_comm, wa, Int.add_comm]
theorem wm (c y : Int) : wrap64 (c * wrap64 y) = wrap64 (c * y) := by
  obtain ⟨k, hk⟩ := wr_form y
  refine wr_cong _ _ (c * k) ?_
  rw [hk, Int.mul_add, ← Int.mul_assoc, ← Int.mul_assoc, Int.mul_comm c 18446744073709551616]
theorem sums_add (W : Int) (f g : Nat → Int) : ∀ n, (sums W (plus f g) n).1 = wrap64 ((sums W f n).1 + (sums W g n).1) ∧ (sums W (plus f g) n).2.1 = wrap64 ((sums W f n).2.1 + (sums W g n).2.1) ∧ (sums W (plus f g) n).2.2 = wrap64 ((sums W f n).2.2 + (sums W g n).2.2)
  | 0 => by refine ⟨?_, ?_, ?_⟩ <;> (simp only [sums]; unfold wrap64; omega)
  | n + 1 => by
    obtain ⟨h1, h2, h3⟩ := sums_add W f g n
    simp only [sums]
    rw [h1, h2, h3]
    refine ⟨?_, ?_, ?_⟩
    · simp only [plus, wa, wb]
      congr 1; omega
    · simp only [plus, wa, wb, wm, Int.mul_add]
      congr 1; omega
    · simp only [plus, wa, wb, wm, Int.mul_add]
      congr 1; omega

end Go.Proofs.Ytadeajdjjcelhaa

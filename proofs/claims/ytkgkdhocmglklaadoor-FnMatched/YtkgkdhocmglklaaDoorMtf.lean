/- A cube that is turned is found again: numbers alone. -/
import Derived.Test.YtkgkdhocmglklaaDoorMtn
import Derived.Test.YtkgkdhocmglklaaDoorMts
namespace Go.Proofs.YtkgkdhocmglklaaDoor
open Go.RowKit

/-- the fit at a place of the row of all -/
def sq (co : Nat → Int → Int → Int → Int) (r : Int) (m p : Nat) : FT :=
  ⟨((p / m / m / m : Nat) : Int), ((p / m / m % m : Nat) : Int) - r, ((p / m % m : Nat) : Int) - r, ((p % m : Nat) : Int) - r,
    co (p / m / m / m) (((p / m / m % m : Nat) : Int) - r) (((p / m % m : Nat) : Int) - r) (((p % m : Nat) : Int) - r)⟩
/-- one behind the other -/
def fo (co : Nat → Int → Int → Int → Int) (r : Int) (m : Nat) : Nat → FT
  | 0 => .no
  | p + 1 => cmb (fo co r m p) (sq co r m p)
theorem dm {a m k : Nat} (hk : k < m) : (a * m + k) % m = k ∧ (a * m + k) / m = a := by
  refine ⟨?_, ?_⟩
  · rw [Nat.add_comm, Nat.add_mul_mod_self_right, Nat.mod_eq_of_lt hk]
  · rw [Nat.add_comm, Nat.add_mul_div_right _ _ (by omega), Nat.div_eq_of_lt hk, Nat.zero_add]
theorem sq_at (co : Nat → Int → Int → Int → Int) (r : Int) {m T i j k : Nat} (hi : i < m) (hj : j < m) (hk : k < m) :
    sq co r m (((T * m + i) * m + j) * m + k) = ⟨(T : Int), (i : Int) - r, (j : Int) - r, (k : Int) - r, co T ((i : Int) - r) ((j : Int) - r) ((k : Int) - r)⟩ := by
  unfold sq
  rw [(dm hk).1, (dm hk).2, (dm hj).1, (dm hj).2, (dm hi).1, (dm hi).2]
theorem bz_fo (co : Nat → Int → Int → Int → Int) (r : Int) {m T i j : Nat} (hi : i < m) (hj : j < m) : ∀ k, k ≤ m → bz (co T) (T : Int) r ((i : Int) - r) ((j : Int) - r) (fo co r m (((T * m + i) * m + j) * m)) k = fo co r m (((T * m + i) * m + j) * m + k)
  | 0, _ => rfl
  | k + 1, hk => by
    show cmb (bz _ _ _ _ _ _ k) _ = cmb (fo co r m (((T * m + i) * m + j) * m + k)) (sq co r m (((T * m + i) * m + j) * m + k))
    rw [bz_fo co r hi hj k (by omega), sq_at co r hi hj (by omega)]
theorem by_fo (co : Nat → Int → Int → Int → Int) (r : Int) {m T i : Nat} (hi : i < m) : ∀ j, j ≤ m → by' (co T) (T : Int) r ((i : Int) - r) m (fo co r m ((T * m + i) * m * m)) j = fo co r m (((T * m + i) * m + j) * m)
  | 0, _ => rfl
  | j + 1, hj => by
    show bz _ _ _ _ _ (by' _ _ _ _ _ _ j) m = _
    rw [by_fo co r hi j (by omega), bz_fo co r hi (by omega) m (Nat.le_refl _)]
    congr 1
    rw [← Nat.add_assoc, Nat.add_mul ((T * m + i) * m + j) 1 m, Nat.one_mul]
theorem bx_fo (co : Nat → Int → Int → Int → Int) (r : Int) {m T : Nat} : ∀ i, i ≤ m → bx (co T) (T : Int) r m (fo co r m (T * m * m * m)) i = fo co r m ((T * m + i) * m * m)
  | 0, _ => rfl
  | i + 1, hi => by
    show by' _ _ _ _ _ (bx _ _ _ _ _ i) m = _
    rw [bx_fo co r i (by omega), by_fo co r (by omega) m (Nat.le_refl _)]
    congr 1
    rw [← Nat.add_assoc, Nat.add_mul (T * m + i) 1 m, Nat.one_mul]
theorem bt_fo (co : Nat → Int → Int → Int → Int) (r : Int) (m : Nat) : ∀ T, bt co r m T = fo co r m (T * m * m * m)
  | 0 => by simp [bt, fo]
  | T + 1 => by
    show bx _ _ _ _ (bt co r m T) m = _
    rw [bt_fo co r m T, bx_fo co r m (Nat.le_refl _)]
    congr 3
    rw [Nat.add_mul, Nat.one_mul]
/-- the first of the least -/
theorem fo_least {co : Nat → Int → Int → Int → Int} {r : Int} {m : Nat} : ∀ P, (∀ p, p < P → 0 ≤ (sq co r m p).c) → 1 ≤ P → ∃ q, q < P ∧ fo co r m P = sq co r m q ∧ ∀ p, p < P → (sq co r m q).c ≤ (sq co r m p).c ∧ ((sq co r m q).c = (sq co r m p).c → q ≤ p)
  | 0, _, h => by omega
  | P + 1, hc, _ => by
    by_cases h0 : P = 0
    · subst h0
      refine ⟨0, by omega, ?_, fun p hp => ?_⟩
      · show cmb .no (sq co r m 0) = _
        unfold cmb
        have := hc 0 (by omega)
        rw [if_neg (by omega), if_pos (.inl (by decide))]
      · obtain rfl : p = 0 := by omega
        exact ⟨Int.le_refl _, fun _ => Nat.le_refl _⟩
    · obtain ⟨q, hq, e, hl⟩ := fo_least P (fun p hp => hc p (by omega)) (by omega)
      have hP := hc P (by omega)
      have hQ := hc q (by omega)
      by_cases hlt : (sq co r m P).c < (sq co r m q).c
      · refine ⟨P, by omega, ?_, fun p hp => ?_⟩
        · show cmb (fo co r m P) (sq co r m P) = _
          rw [e]
          unfold cmb
          rw [if_neg (by omega), if_pos (.inr hlt)]
        · by_cases hpP : p = P
          · subst hpP; exact ⟨Int.le_refl _, fun _ => Nat.le_refl _⟩
          · have := (hl p (by omega)).1
            exact ⟨by omega, fun h => by omega⟩
      · refine ⟨q, by omega, ?_, fun p hp => ?_⟩
        · show cmb (fo co r m P) (sq co r m P) = _
          rw [e]
          unfold cmb
          rw [if_neg (by omega), if_neg (by omega)]
        · by_cases hpP : p = P
          · subst hpP; exact ⟨by omega, fun _ => by omega⟩
          · exact hl p (by omega)

end Go.Proofs.YtkgkdhocmglklaaDoor

namespace Go.Proofs.YtkgkdhocmglklaaDoor
open Go.RowKit

set_option maxRecDepth 100000 in
theorem same_all : (L24.all fun t => (List.range 12).any fun T => (List.range 9).all fun j => mt t j == mt (tqT T) j) = true := by decide +kernel
/-- each right turn turns space as one of the table does -/
theorem same_of {t : T4} (ht : tkT t = true) : ∃ T, T < 12 ∧ ∀ j, j < 9 → mt t j = mt (tqT T) j := by
  have h := List.all_eq_true.1 same_all t (tkT_mem ht)
  simp only [List.any_eq_true, List.all_eq_true, List.mem_range, beq_iff_eq] at h
  exact h
theorem tg_same {t u : T4} (h : ∀ j, j < 9 → mt t j = mt u j) (X : Int) (k : Nat) : tgT t X k = tgT u X k := by
  have hp : ∀ i, i < 3 → tpT t X i k = tpT u X i k := fun i hi => by
    show (mv (mt t) i _ _ _ + X - 1) / 2 = (mv (mt u) i _ _ _ + X - 1) / 2
    unfold mv
    rw [h _ (by omega), h _ (by omega), h _ (by omega)]
  show (tpT t X 2 k * X + tpT t X 1 k) * X + tpT t X 0 k = (tpT u X 2 k * X + tpT u X 1 k) * X + tpT u X 0 k
  rw [hp 0 (by omega), hp 1 (by omega), hp 2 (by omega)]
theorem tvs_same {g h : Nat → Int} (e : ∀ k, g k = h k) (f : Nat → Int) : ∀ n q, tvs g f n q = tvs h f n q
  | 0, _ => rfl
  | n + 1, q => by
    unfold tvs
    rw [e n, tvs_same e f n q]
/-- a voxel at its own place -/
theorem cAt_own {t : Nat → Int} {X : Int} (hX : 1 ≤ X) {k : Nat} (hk : (k : Int) < X * X * X) : cAt t X (kx X k - 0) (ky X k - 0) (kz X k - 0) = t k := by
  obtain ⟨hx, hy, hz⟩ := kxyz hX hk
  unfold cAt
  rw [Int.sub_zero, Int.sub_zero, Int.sub_zero, if_pos (inC_iff.2 ⟨hx, hy, hz⟩), ← k_xyz hX k]
  rfl
theorem dst_own {f t : Nat → Int} {X : Int} (hX : 1 ≤ X) {k : Nat} (hk : (k : Int) < X * X * X) : dst f t X 0 0 0 k = f k - t k := by
  unfold dst
  rw [cAt_own hX hk]
/-- what is the same costs nothing -/
theorem cst_same {f t : Nat → Int} {X : Int} (hX : 1 ≤ X) {n : Nat} (hn : (n : Int) = X * X * X) (h : ∀ k, k < n → f k = t k) : ∀ k, k ≤ n → cst f t X 0 0 0 k = 0
  | 0, _ => rfl
  | k + 1, hk => by
    unfold cst
    rw [cst_same hX hn h k (by omega), dst_own hX (by omega), h k (by omega)]
    simp
/-- what costs nothing is the same -/
theorem same_cst {f t : Nat → Int} {X : Int} (hX : 1 ≤ X) {n : Nat} (hn : (n : Int) = X * X * X) : ∀ k, k ≤ n → cst f t X 0 0 0 k = 0 → 0 ≤ cst f t X 0 0 0 k → ∀ j, j < k → f j = t j
  | 0, _, _, _, j, hj => by omega
  | k + 1, hk, h0, _, j, hj => by
    have hp : ∀ k, k ≤ n → 0 ≤ cst f t X 0 0 0 k := fun k => by
      induction k with
      | zero => intro _; exact Int.le_refl _
      | succ k ih =>
        intro hk
        have := ih (by omega)
        unfold cst
        rcases Int.le_total 0 (dst f t X 0 0 0 k) with h | h
        · have := Int.mul_nonneg h h; omega
        · have := Int.mul_nonneg_of_nonpos_of_nonpos h h; omega
    have h1 := hp k (by omega)
    unfold cst at h0
    have h2 : 0 ≤ dst f t X 0 0 0 k * dst f t X 0 0 0 k := by
      rcases Int.le_total 0 (dst f t X 0 0 0 k) with h | h
      · exact Int.mul_nonneg h h
      · exact Int.mul_nonneg_of_nonpos_of_nonpos h h
    have h3 : dst f t X 0 0 0 k * dst f t X 0 0 0 k = 0 := by omega
    have h4 : dst f t X 0 0 0 k = 0 := by
      rcases Int.mul_eq_zero.1 h3 with h | h <;> exact h
    rw [dst_own hX (by omega)] at h4
    by_cases e : j = k
    · rw [e]; omega
    · exact same_cst hX hn k (by omega) (by omega) h1 j (by omega)
/-- a cube that is turned by a right turn is found at no cost, and what is found turns it alike -/
theorem finds {t : T4} (ht : tkT t = true) {X : Int} (hX : 1 ≤ X) {n : Nat} (hn : (n : Int) = X * X * X) (v : Nat → Int) (hc : ∀ p, p < 12 * 1 * 1 * 1 → 0 ≤ (sq (mtC (tvs (tgT t X) v n) v X n) 0 1 p).c) :
    ∃ T : Nat, T < 12 ∧ bt (mtC (tvs (tgT t X) v n) v X n) 0 1 12 = ⟨(T : Int), 0, 0, 0, 0⟩ ∧ ∀ j, j < n → tvs (tgT (tqT T) X) v n j = tvs (tgT t X) v n j := by
  have sqe : ∀ p, sq (mtC (tvs (tgT t X) v n) v X n) 0 1 p = ⟨(p : Int), 0, 0, 0, mtC (tvs (tgT t X) v n) v X n p 0 0 0⟩ := fun p => by
    unfold sq
    simp [Nat.mod_one]
  rw [bt_fo]
  obtain ⟨q, hq, e, hl⟩ := fo_least (12 * 1 * 1 * 1) hc (by omega)
  obtain ⟨S, hS, hs⟩ := same_of ht
  have hz : mtC (tvs (tgT t X) v n) v X n S 0 0 0 = 0 := cst_same hX hn (fun k _ => tvs_same (tg_same hs X) v n k) n (Nat.le_refl _)
  have h1 := (hl S (by omega)).1
  have h0 := hc q hq
  rw [sqe, sqe, hz] at h1
  rw [sqe] at h0
  have hq0 : mtC (tvs (tgT t X) v n) v X n q 0 0 0 = 0 := Int.le_antisymm h1 h0
  refine ⟨q, by omega, by rw [e, sqe, hq0], fun j hj => ?_⟩
  exact (same_cst hX hn n (Nat.le_refl _) hq0 (by unfold mtC at h0; exact h0) j hj).symm

end Go.Proofs.YtkgkdhocmglklaaDoor

/- Turns are a group; a cube that is turned twice: numbers alone. -/
import Derived.Test.YtkgkdhocmglklaaDoorTvn
namespace Go.Proofs.YtkgkdhocmglklaaDoor
open Go.RowKit

abbrev T4 := Int × Int × Int × Int
/-- the product of two turns -/
def m4 (t u : T4) : T4 :=
  ((qW t.1 t.2.1 t.2.2.1 t.2.2.2 u.1 u.2.1 u.2.2.1 u.2.2.2).tdiv 2, (qX t.1 t.2.1 t.2.2.1 t.2.2.2 u.1 u.2.1 u.2.2.1 u.2.2.2).tdiv 2,
   (qY t.1 t.2.1 t.2.2.1 t.2.2.2 u.1 u.2.1 u.2.2.1 u.2.2.2).tdiv 2, (qZ t.1 t.2.1 t.2.2.1 t.2.2.2 u.1 u.2.1 u.2.2.1 u.2.2.2).tdiv 2)
def b4 (t : T4) : T4 := (t.1, -t.2.1, -t.2.2.1, -t.2.2.2)
abbrev mt (t : T4) : Nat → Int := mtx t.1 t.2.1 t.2.2.1 t.2.2.2

def tkT (t : T4) : Bool := tkB t.1 t.2.1 t.2.2.1 t.2.2.2
theorem tkT_mem {t : T4} (h : tkT t = true) : t ∈ L24 := tk_mem h
theorem tkT_all : L24.all tkT = true := by decide +kernel
theorem tkT_of {t : T4} (h : t ∈ L24) : tkT t = true := List.all_eq_true.1 tkT_all t h

def prB (t u : T4) : Bool := L24.contains (m4 t u) && (List.range 3).all fun i => (List.range 3).all fun j => mt (m4 t u) (3 * i + j) == mt t (3 * i) * mt u j + mt t (3 * i + 1) * mt u (3 + j) + mt t (3 * i + 2) * mt u (6 + j)
set_option maxRecDepth 100000 in
theorem pr_all : (L24.all fun t => L24.all fun u => prB t u) = true := by decide +kernel
set_option maxRecDepth 100000 in
theorem asc_all : (L24.all fun t => L24.all fun u => L24.all fun v => m4 (m4 t u) v == m4 t (m4 u v)) = true := by decide +kernel
set_option maxRecDepth 100000 in
theorem bk_all : (L24.all fun t => L24.contains (b4 t) && m4 t (b4 t) == (2, 0, 0, 0) && m4 (b4 t) t == (2, 0, 0, 0) && m4 (2, 0, 0, 0) t == t) = true := by decide +kernel
theorem mt_one : (List.range 9).map (mt (2, 0, 0, 0)) = [1, 0, 0, 0, 1, 0, 0, 0, 1] := by decide +kernel

theorem pr_of {t u : T4} (ht : tkT t = true) (hu : tkT u = true) : tkT (m4 t u) = true ∧ ∀ i, i < 3 → ∀ j, j < 3 → mt (m4 t u) (3 * i + j) = mt t (3 * i) * mt u j + mt t (3 * i + 1) * mt u (3 + j) + mt t (3 * i + 2) * mt u (6 + j) := by
  have h := List.all_eq_true.1 (List.all_eq_true.1 pr_all t (tkT_mem ht)) u (tkT_mem hu)
  unfold prB at h
  simp only [Bool.and_eq_true, List.all_eq_true, List.mem_range, beq_iff_eq] at h
  exact ⟨tkT_of (by simpa using h.1), h.2⟩
theorem asc_of {t u v : T4} (ht : tkT t = true) (hu : tkT u = true) (hv : tkT v = true) : m4 (m4 t u) v = m4 t (m4 u v) := by
  have h := List.all_eq_true.1 (List.all_eq_true.1 (List.all_eq_true.1 asc_all t (tkT_mem ht)) u (tkT_mem hu)) v (tkT_mem hv)
  exact eq_of_beq h
theorem bk_of {t : T4} (ht : tkT t = true) : tkT (b4 t) = true ∧ m4 t (b4 t) = (2, 0, 0, 0) ∧ m4 (b4 t) t = (2, 0, 0, 0) ∧ m4 (2, 0, 0, 0) t = t := by
  have h := List.all_eq_true.1 bk_all t (tkT_mem ht)
  simp only [Bool.and_eq_true, beq_iff_eq] at h
  exact ⟨tkT_of (by simpa using h.1.1.1), h.1.1.2, h.1.2, h.2⟩
theorem one_ok : tkT (2, 0, 0, 0) = true := by decide +kernel

/-- a signed row: it takes one of the three, or its negative -/
def sgR (m : Nat → Int) (i : Nat) : Bool :=
  (decide (m (3 * i) = 1 ∨ m (3 * i) = -1) && decide (m (3 * i + 1) = 0) && decide (m (3 * i + 2) = 0)) ||
  (decide (m (3 * i) = 0) && decide (m (3 * i + 1) = 1 ∨ m (3 * i + 1) = -1) && decide (m (3 * i + 2) = 0)) ||
  (decide (m (3 * i) = 0) && decide (m (3 * i + 1) = 0) && decide (m (3 * i + 2) = 1 ∨ m (3 * i + 2) = -1))
set_option maxRecDepth 100000 in
theorem sgR_all : (L24.all fun t => (List.range 3).all fun i => sgR (mt t) i) = true := by decide +kernel
theorem mv_one {t : T4} (ht : tkT t = true) {i : Nat} (hi : i < 3) (x y z : Int) : mv (mt t) i x y z = x ∨ mv (mt t) i x y z = -x ∨ mv (mt t) i x y z = y ∨ mv (mt t) i x y z = -y ∨ mv (mt t) i x y z = z ∨ mv (mt t) i x y z = -z := by
  have h := List.all_eq_true.1 sgR_all t (tkT_mem ht)
  simp only [List.all_eq_true, List.mem_range] at h
  have h := h i hi
  unfold sgR at h
  unfold mv
  generalize mt t (3 * i) = p at *
  generalize mt t (3 * i + 1) = q at *
  generalize mt t (3 * i + 2) = r at *
  simp only [Bool.and_eq_true, Bool.or_eq_true, decide_eq_true_eq] at h
  rcases h with (⟨⟨h0, h1⟩, h2⟩ | ⟨⟨h0, h1⟩, h2⟩) | ⟨⟨h0, h1⟩, h2⟩
  · subst h1 h2; rcases h0 with rfl | rfl <;> omega
  · subst h0 h2; rcases h1 with rfl | rfl <;> omega
  · subst h0 h1; rcases h2 with rfl | rfl <;> omega

abbrev tpT (t : T4) (X : Int) (i k : Nat) : Int := tp t.1 t.2.1 t.2.2.1 t.2.2.2 X i k
abbrev tgT (t : T4) (X : Int) (k : Nat) : Int := tg t.1 t.2.1 t.2.2.1 t.2.2.2 X k

/-- twice from the middle -/
theorem tp_mid {t : T4} (ht : tkT t = true) {X : Int} {k i : Nat} (hi : i < 3) :
    2 * tpT t X i k - X + 1 = mv (mt t) i (2 * kx X k - X + 1) (2 * ky X k - X + 1) (2 * kz X k - X + 1) := by
  have h := mv_one ht hi (2 * kx X k - X + 1) (2 * ky X k - X + 1) (2 * kz X k - X + 1)
  unfold tpT tp
  generalize mv (mt t) i (2 * kx X k - X + 1) (2 * ky X k - X + 1) (2 * kz X k - X + 1) = m at *
  omega
/-- the three numbers of the place that is reached -/
theorem tg_xyz {t : T4} (ht : tkT t = true) {X : Int} (hX : 1 ≤ X) {k : Nat} (hk : (k : Int) < X * X * X) :
    kx X (tgT t X k).toNat = tpT t X 0 k ∧ ky X (tgT t X k).toNat = tpT t X 1 k ∧ kz X (tgT t X k).toNat = tpT t X 2 k := by
  have p0 := (tp_in (a := t.1) (b := t.2.1) (c := t.2.2.1) (d := t.2.2.2) ht hX hk (i := 0) (by omega)).2
  have p1 := (tp_in (a := t.1) (b := t.2.1) (c := t.2.2.1) (d := t.2.2.2) ht hX hk (i := 1) (by omega)).2
  have p2 := (tp_in (a := t.1) (b := t.2.1) (c := t.2.2.1) (d := t.2.2.2) ht hX hk (i := 2) (by omega)).2
  have hg := tg_in (a := t.1) (b := t.2.1) (c := t.2.2.1) (d := t.2.2.2) ht hX hk
  have e : (((tgT t X k).toNat : Nat) : Int) = (tpT t X 2 k * X + tpT t X 1 k) * X + tpT t X 0 k := by
    rw [Int.toNat_of_nonneg hg.1]; rfl
  unfold kx ky kz
  rw [e]
  unfold tpT
  generalize tp t.1 t.2.1 t.2.2.1 t.2.2.2 X 0 k = u at *
  generalize tp t.1 t.2.1 t.2.2.1 t.2.2.2 X 1 k = v at *
  generalize tp t.1 t.2.1 t.2.2.1 t.2.2.2 X 2 k = r at *
  have d1 : ((r * X + v) * X + u) / X = r * X + v := by
    rw [Int.add_comm, Int.add_mul_ediv_right _ _ (by omega), Int.ediv_eq_zero_of_lt (by omega) (by omega)]; omega
  have d2 : (r * X + v) / X = r := by
    rw [Int.add_comm, Int.add_mul_ediv_right _ _ (by omega), Int.ediv_eq_zero_of_lt (by omega) (by omega)]; omega
  refine ⟨?_, ?_, ?_⟩
  · rw [Int.add_comm, Int.add_mul_emod_self_right, Int.emod_eq_of_lt (by omega) (by omega)]
  · rw [d1, Int.add_comm, Int.add_mul_emod_self_right, Int.emod_eq_of_lt (by omega) (by omega)]
  · rw [d1, d2]

/-- a place by its three numbers -/
theorem k_xyz {X : Int} (_ : 1 ≤ X) (k : Nat) : (k : Int) = (kz X k * X + ky X k) * X + kx X k := by
  unfold kx ky kz
  have h1 := Int.mul_ediv_add_emod (k : Int) X
  have h2 := Int.mul_ediv_add_emod ((k : Int) / X) X
  have h3 : (k : Int) / X / X * X + (k : Int) / X % X = (k : Int) / X := by rw [Int.mul_comm]; exact h2
  rw [h3, Int.mul_comm]; exact h1.symm

/-- a product takes a vector where the second takes it, and then the first -/
theorem mv_mul {t u : T4} (ht : tkT t = true) (hu : tkT u = true) {i : Nat} (hi : i < 3) (x y z : Int) :
    mv (mt t) i (mv (mt u) 0 x y z) (mv (mt u) 1 x y z) (mv (mt u) 2 x y z) = mv (mt (m4 t u)) i x y z := by
  have h := (pr_of ht hu).2 i hi
  have h0 := h 0 (by omega)
  have h1 := h 1 (by omega)
  have h2 := h 2 (by omega)
  simp only [Nat.add_zero] at h0
  unfold mv
  rw [h0, h1, h2]
  simp only [Nat.mul_zero, Nat.zero_add, Nat.mul_one, Nat.reduceMul, Nat.reduceAdd]
  simp only [Int.mul_add, Int.add_mul, Int.mul_assoc]
  omega

/-- turned by the second, then by the first -/
theorem tg_mul {t u : T4} (ht : tkT t = true) (hu : tkT u = true) {X : Int} (hX : 1 ≤ X) {k : Nat} (hk : (k : Int) < X * X * X) : tgT t X (tgT u X k).toNat = tgT (m4 t u) X k := by
  obtain ⟨e0, e1, e2⟩ := tg_xyz hu hX hk
  have hp : ∀ i, i < 3 → tpT t X i (tgT u X k).toNat = tpT (m4 t u) X i k := fun i hi => by
    have m := mv_mul ht hu hi (2 * kx X k - X + 1) (2 * ky X k - X + 1) (2 * kz X k - X + 1)
    rw [← tp_mid hu (i := 0) (by omega), ← tp_mid hu (i := 1) (by omega), ← tp_mid hu (i := 2) (by omega)] at m
    unfold tpT tp
    rw [e0, e1, e2]
    show (mv (mt t) i _ _ _ + X - 1) / 2 = (mv (mt (m4 t u)) i _ _ _ + X - 1) / 2
    rw [m]
  have p0 := hp 0 (by omega)
  have p1 := hp 1 (by omega)
  have p2 := hp 2 (by omega)
  show (tpT t X 2 _ * X + tpT t X 1 _) * X + tpT t X 0 _ = (tpT (m4 t u) X 2 k * X + tpT (m4 t u) X 1 k) * X + tpT (m4 t u) X 0 k
  rw [p0, p1, p2]
/-- the turn that turns nothing -/
theorem tg_one {X : Int} (hX : 1 ≤ X) (k : Nat) : tgT (2, 0, 0, 0) X k = k := by
  have h : ∀ j, j < 9 → mt (2, 0, 0, 0) j = [1, 0, 0, 0, 1, 0, 0, 0, 1].getD j 0 := by decide +kernel
  have e0 : tpT (2, 0, 0, 0) X 0 k = kx X k := by
    have := tp_mid one_ok (X := X) (k := k) (i := 0) (by omega)
    unfold mv at this
    rw [h _ (by omega), h _ (by omega), h _ (by omega)] at this
    simp at this; omega
  have e1 : tpT (2, 0, 0, 0) X 1 k = ky X k := by
    have := tp_mid one_ok (X := X) (k := k) (i := 1) (by omega)
    unfold mv at this
    rw [h _ (by omega), h _ (by omega), h _ (by omega)] at this
    simp at this; omega
  have e2 : tpT (2, 0, 0, 0) X 2 k = kz X k := by
    have := tp_mid one_ok (X := X) (k := k) (i := 2) (by omega)
    unfold mv at this
    rw [h _ (by omega), h _ (by omega), h _ (by omega)] at this
    simp at this; omega
  show (tpT (2, 0, 0, 0) X 2 k * X + tpT (2, 0, 0, 0) X 1 k) * X + tpT (2, 0, 0, 0) X 0 k = k
  rw [e0, e1, e2]
  exact (k_xyz hX k).symm

theorem tg_nat {t : T4} (ht : tkT t = true) {X : Int} (hX : 1 ≤ X) {k : Nat} (hk : (k : Int) < X * X * X) : (((tgT t X k).toNat : Nat) : Int) < X * X * X := by
  have hg := tg_in (a := t.1) (b := t.2.1) (c := t.2.2.1) (d := t.2.2.2) ht hX hk
  rw [Int.toNat_of_nonneg hg.1]; exact hg.2
/-- there and back -/
theorem tg_back {t : T4} (ht : tkT t = true) {X : Int} (hX : 1 ≤ X) {k : Nat} (hk : (k : Int) < X * X * X) : (tgT (b4 t) X (tgT t X k).toNat).toNat = k ∧ (tgT t X (tgT (b4 t) X k).toNat).toNat = k := by
  obtain ⟨hb, h1, h2, _⟩ := bk_of ht
  rw [tg_mul hb ht hX hk, tg_mul ht hb hX hk, h1, h2, tg_one hX]
  exact ⟨by omega, by omega⟩

/-- the new voxels, place by place -/
theorem tvs_at {g f : Nat → Int} {n : Nat} (inj : ∀ k, k < n → ∀ l, l < n → (g k).toNat = (g l).toNat → k = l) : ∀ m, m ≤ n → ∀ k, k < m → tvs g f m (g k).toNat = f k
  | 0, _, _, h => by omega
  | m + 1, hm, k, hk => by
    unfold tvs
    by_cases e : (g k).toNat = (g m).toNat
    · rw [if_pos e, inj k (by omega) m (by omega) e]
    · rw [if_neg e]
      refine tvs_at inj m (by omega) k ?_
      have : k ≠ m := fun h => e (by rw [h])
      omega
theorem tg_inj {t : T4} (ht : tkT t = true) {X : Int} (hX : 1 ≤ X) {n : Nat} (hn : (n : Int) = X * X * X) : ∀ k, k < n → ∀ l, l < n → (tgT t X k).toNat = (tgT t X l).toNat → k = l := fun k hk l hl e => by
  have h1 := (tg_back ht hX (k := k) (by omega)).1
  have h2 := (tg_back ht hX (k := l) (by omega)).1
  rw [e] at h1
  omega
/-- each place is reached: what lies there -/
theorem tvs_place {t : T4} (ht : tkT t = true) {X : Int} (hX : 1 ≤ X) {n : Nat} (hn : (n : Int) = X * X * X) (f : Nat → Int) {j : Nat} (hj : j < n) :
    ∃ k, k < n ∧ (tgT t X k).toNat = j ∧ tvs (tgT t X) f n j = f k := by
  obtain ⟨hb, _⟩ := bk_of ht
  have hk := tg_nat hb hX (k := j) (by omega)
  have h1 := (tg_back ht hX (k := j) (by omega)).2
  refine ⟨(tgT (b4 t) X j).toNat, by omega, h1, ?_⟩
  have := tvs_at (f := f) (tg_inj ht hX hn) n (Nat.le_refl _) (tgT (b4 t) X j).toNat (by omega)
  rw [h1] at this
  exact this
/-- turned twice is turned by the product -/
theorem tvs_mul {t u : T4} (ht : tkT t = true) (hu : tkT u = true) {X : Int} (hX : 1 ≤ X) {n : Nat} (hn : (n : Int) = X * X * X) (f : Nat → Int) {j : Nat} (hj : j < n) :
    tvs (tgT t X) (tvs (tgT u X) f n) n j = tvs (tgT (m4 t u) X) f n j := by
  obtain ⟨k, hk, hkj, e⟩ := tvs_place ht hX hn (tvs (tgT u X) f n) hj
  obtain ⟨l, hl, hlk, e'⟩ := tvs_place hu hX hn f hk
  have hm := tg_mul ht hu hX (k := l) (by omega)
  rw [hlk] at hm
  have h3 := tvs_at (f := f) (tg_inj (pr_of ht hu).1 hX hn) n (Nat.le_refl _) l hl
  rw [← hm, hkj] at h3
  rw [e, e', h3]
theorem tvs_one {X : Int} (hX : 1 ≤ X) {n : Nat} (hn : (n : Int) = X * X * X) (f : Nat → Int) {j : Nat} (hj : j < n) : tvs (tgT (2, 0, 0, 0) X) f n j = f j := by
  have h := tvs_at (f := f) (tg_inj one_ok hX hn) n (Nat.le_refl _) j hj
  rw [tg_one hX] at h
  simpa using h
/-- what is turned stays within what it was within -/
theorem tvs_within {t : T4} (ht : tkT t = true) {X : Int} (hX : 1 ≤ X) {n : Nat} (hn : (n : Int) = X * X * X) {f : Nat → Int} {lo hi : Int} (h : ∀ k, k < n → lo ≤ f k ∧ f k ≤ hi) {j : Nat} (hj : j < n) : lo ≤ tvs (tgT t X) f n j ∧ tvs (tgT t X) f n j ≤ hi := by
  obtain ⟨k, hk, _, e⟩ := tvs_place ht hX hn f hj
  rw [e]; exact h k hk

end Go.Proofs.YtkgkdhocmglklaaDoor

/- Lines of an image: sums over places, and what they have in common (numbers alone). -/
namespace Go.Proofs.Ytedjnemijeaeoaa.Lnm
/-- the sum of f over 0 .. n - 1 -/
def sm (f : Nat → Int) : Nat → Int
  | 0 => 0
  | n + 1 => sm f n + f n
theorem sm_congr {f g : Nat → Int} : ∀ {n : Nat}, (∀ k, k < n → f k = g k) → sm f n = sm g n
  | 0, _ => rfl
  | n + 1, h => by rw [sm, sm, sm_congr (fun k hk => h k (by omega)), h n (by omega)]
theorem sm_zero : ∀ n, sm (fun _ => 0) n = 0
  | 0 => rfl
  | n + 1 => by rw [sm, sm_zero n]; rfl
theorem sm_add (f g : Nat → Int) : ∀ n, sm (fun k => f k + g k) n = sm f n + sm g n
  | 0 => rfl
  | n + 1 => by rw [sm, sm, sm, sm_add f g n]; omega
theorem sm_sub (f g : Nat → Int) : ∀ n, sm (fun k => f k - g k) n = sm f n - sm g n
  | 0 => rfl
  | n + 1 => by rw [sm, sm, sm, sm_sub f g n]; omega
theorem sm_mul (c : Int) (f : Nat → Int) : ∀ n, sm (fun k => c * f k) n = c * sm f n
  | 0 => by simp [sm]
  | n + 1 => by rw [sm, sm, sm_mul c f n, Int.mul_add]
theorem sm_swap (f : Nat → Nat → Int) (m : Nat) : ∀ n, sm (fun i => sm (fun j => f i j) m) n = sm (fun j => sm (fun i => f i j) n) m
  | 0 => by simp only [sm]; rw [sm_zero]
  | n + 1 => by rw [sm, sm_swap f m n, ← sm_add]; rfl
theorem sm_split (f : Nat → Int) (a : Nat) : ∀ b, sm f (a + b) = sm f a + sm (fun k => f (a + k)) b
  | 0 => by simp [sm]
  | b + 1 => by rw [← Nat.add_assoc, sm, sm_split f a b, sm]; omega
/-- rows of p numbers -/
theorem sm_rows (f : Nat → Int) (p : Nat) : ∀ q, sm f (q * p) = sm (fun y => sm (fun x => f (y * p + x)) p) q
  | 0 => by rw [Nat.zero_mul]; rfl
  | q + 1 => by rw [Nat.succ_mul, sm_split, sm_rows f p q, sm]
/-- one alone -/
theorem sm_one (c : Int) (a : Nat) : ∀ n, sm (fun k => if k = a then c else 0) n = if a < n then c else 0
  | 0 => by simp [sm]
  | n + 1 => by
    rw [sm, sm_one c a n]
    by_cases h : n = a
    · subst h; simp
    · rw [if_neg h]
      by_cases h2 : a < n
      · rw [if_pos h2, if_pos (by omega)]; omega
      · rw [if_neg h2, if_neg (by omega)]; omega
theorem sm_bound {f : Nat → Int} {M : Int} : ∀ {n : Nat}, (∀ k, k < n → -M ≤ f k ∧ f k ≤ M) → -(M * n) ≤ sm f n ∧ sm f n ≤ M * n
  | 0, _ => by simp [sm]
  | n + 1, h => by
    have h1 := sm_bound (fun k hk => h k (Nat.lt_succ_of_lt hk))
    have h2 := h n (by omega)
    rw [sm]
    have : M * ((n + 1 : Nat) : Int) = M * n + M := by rw [Int.natCast_succ, Int.mul_add, Int.mul_one]
    omega

/-- the place of step j on line l -/
def plc (p l j : Nat) : Nat := if l / p = p then j * p + l % p else ((l / p * j + l % p) % p) * p + j
/-- the start of the line of slope m through (x, y) -/
def tt (p x y m : Nat) : Nat := (((y : Int) - (m : Int) * (x : Int)) % (p : Int)).toNat
/-- the number of the line of slope m (p: the column) through (x, y) -/
def thr (p x y m : Nat) : Nat := if m = p then p * p + x else m * p + tt p x y m
/-- line l of the image f -/
def lin (p : Nat) (f : Nat → Int) (l : Nat) : Int := sm (fun j => f (plc p l j)) p

theorem tt_lt {p : Nat} (hp : 0 < p) (x y m : Nat) : tt p x y m < p := by
  unfold tt
  have h1 := Int.emod_nonneg ((y : Int) - (m : Int) * (x : Int)) (show (p : Int) ≠ 0 by omega)
  have h2 := Int.emod_lt_of_pos ((y : Int) - (m : Int) * (x : Int)) (show (0 : Int) < (p : Int) by omega)
  omega
theorem tt_iff {p x y m t : Nat} (hy : y < p) (ht : t < p) : tt p x y m = t ↔ y = (m * x + t) % p := by
  have hp : 0 < p := by omega
  have h1 := Int.emod_nonneg ((y : Int) - (m : Int) * (x : Int)) (show (p : Int) ≠ 0 by omega)
  have h2 := Int.emod_lt_of_pos ((y : Int) - (m : Int) * (x : Int)) (show (0 : Int) < (p : Int) by omega)
  have h3 := Int.emod_add_mul_ediv ((y : Int) - (m : Int) * (x : Int)) (p : Int)
  unfold tt
  constructor
  · intro h
    have e : (((m * x + t) % p : Nat) : Int) = (y : Int) % (p : Int) := by
      rw [Int.natCast_emod, Int.natCast_add, Int.natCast_mul]
      have : (t : Int) = ((y : Int) - (m : Int) * (x : Int)) % (p : Int) := by omega
      rw [this, Int.add_emod, Int.emod_emod_of_dvd _ (Int.dvd_refl _), ← Int.add_emod]
      congr 1; omega
    rw [Int.emod_eq_of_lt (by omega) (by omega)] at e
    omega
  · intro h
    have e : ((y : Int) - (m : Int) * (x : Int)) % (p : Int) = (t : Int) % (p : Int) := by
      rw [h, Int.natCast_emod, Int.natCast_add, Int.natCast_mul, Int.sub_emod, Int.emod_emod_of_dvd _ (Int.dvd_refl _), ← Int.sub_emod]
      congr 1; omega
    rw [e, Int.emod_eq_of_lt (by omega) (by omega)]
    omega
theorem thr_lt {p x y m : Nat} (hx : x < p) (hm : m ≤ p) : thr p x y m < (p + 1) * p := by
  unfold thr
  rw [Nat.succ_mul]
  split
  · omega
  · have := tt_lt (show 0 < p by omega) x y m
    have h2 : m * p + p ≤ p * p := by rw [← Nat.succ_mul]; exact Nat.mul_le_mul_right _ (by omega)
    omega
theorem thr_div {p x y m : Nat} (hx : x < p) : thr p x y m / p = m := by
  unfold thr
  split
  · rename_i h; rw [h, Nat.add_comm, Nat.add_mul_div_right _ _ (by omega), Nat.div_eq_of_lt hx, Nat.zero_add]
  · rw [Nat.add_comm, Nat.add_mul_div_right _ _ (by omega), Nat.div_eq_of_lt (tt_lt (by omega) x y m), Nat.zero_add]
theorem thr_iff {p x y l : Nat} (hx : x < p) (hy : y < p) : thr p x y (l / p) = l ↔ (if l / p = p then x = l % p else y = (l / p * x + l % p) % p) := by
  have hp : 0 < p := by omega
  have hl := Nat.div_add_mod l p
  have ht := Nat.mod_lt l hp
  generalize l / p = m at *
  generalize l % p = t at *
  rw [Nat.mul_comm] at hl
  unfold thr
  split
  · rename_i h; subst h; omega
  · rw [← tt_iff hy ht]; omega

/-- the sum over the first K places of those whose line of l's slope is l -/
def sct (p : Nat) (f : Nat → Int) (l K : Nat) : Int := sm (fun k => if thr p (k % p) (k / p) (l / p) = l then f k else 0) K
theorem divmod {p x y : Nat} (hx : x < p) : (y * p + x) % p = x ∧ (y * p + x) / p = y := by
  have h : y * p + x = x + p * y := by rw [Nat.mul_comm]; omega
  rw [h, Nat.add_mul_mod_self_left, Nat.add_mul_div_left _ _ (by omega), Nat.mod_eq_of_lt hx, Nat.div_eq_of_lt hx]; omega
theorem sct_lin {p : Nat} (hp : 0 < p) (f : Nat → Int) (l : Nat) : sct p f l (p * p) = lin p f l := by
  unfold sct lin
  rw [sm_rows]
  have ht := Nat.mod_lt l hp
  have e1 : ∀ y, y < p → sm (fun x => if thr p ((y * p + x) % p) ((y * p + x) / p) (l / p) = l then f (y * p + x) else 0) p = sm (fun x => if (if l / p = p then x = l % p else y = (l / p * x + l % p) % p) then f (y * p + x) else 0) p := by
    intro y hy
    refine sm_congr fun x hx => ?_
    rw [(divmod hx).1, (divmod hx).2]
    simp only [thr_iff hx hy]
  rw [sm_congr e1]
  unfold plc
  by_cases h : l / p = p
  · simp only [if_pos h]
    refine sm_congr fun y hy => ?_
    have e2 : ∀ x, x < p → (if x = l % p then f (y * p + x) else 0) = (if x = l % p then f (y * p + l % p) else 0) := fun x _ => by
      split
      · rename_i e; rw [e]
      · rfl
    rw [sm_congr e2, sm_one, if_pos ht]
  · simp only [if_neg h]
    rw [sm_swap]
    refine sm_congr fun x hx => ?_
    have e2 : ∀ y, y < p → (if y = (l / p * x + l % p) % p then f (y * p + x) else 0) = (if y = (l / p * x + l % p) % p then f ((l / p * x + l % p) % p * p + x) else 0) := fun y _ => by
      split
      · rename_i e; rw [e]
      · rfl
    rw [sm_congr e2, sm_one, if_pos (Nat.mod_lt _ hp)]

/-- the prime sides -/
def isP (n : Nat) : Bool := n == 2 || (n == 3 || (n == 5 || (n == 7 || (n == 11 || (n == 13 || (n == 17 || (n == 19 || (n == 23 || (n == 29 || n == 31)))))))))
def cnt (q : Nat → Bool) : Nat → Nat
  | 0 => 0
  | n + 1 => cnt q n + (if q n then 1 else 0)
theorem cnt_congr {q r : Nat → Bool} : ∀ {n : Nat}, (∀ k, k < n → q k = r k) → cnt q n = cnt r n
  | 0, _ => rfl
  | n + 1, h => by rw [cnt, cnt, cnt_congr (fun k hk => h k (by omega)), h n (by omega)]
theorem one_slope : ∀ p, p < 32 → isP p = true → ∀ d, d < p → 1 ≤ d → ∀ e, e < p → cnt (fun m => m * d % p == e) p = 1 := by
  decide +kernel
theorem cnt_sm (q : Nat → Bool) (c : Int) : ∀ n, sm (fun m => if q m = true then c else 0) n = (cnt q n : Nat) * c
  | 0 => by simp [sm, cnt]
  | n + 1 => by
    rw [sm, cnt_sm q c n, cnt]
    cases q n
    · simp
    · simp; rw [Int.add_mul, Int.one_mul]

theorem emod_congr {a b p : Int} : a % p = b % p ↔ (a - b) % p = 0 := by
  rw [Int.emod_eq_emod_iff_emod_sub_eq_zero]
/-- the two lines of slope m are one -/
theorem tt_same {p x y x0 y0 m : Nat} (hx0 : x0 < p) (hy0 : y0 < p) :
    (tt p x y m == tt p x0 y0 m) = (m * ((x + p - x0) % p) % p == (y + p - y0) % p) := by
  have hp : 0 < p := by omega
  have h1 := Int.emod_nonneg ((y : Int) - (m : Int) * (x : Int)) (show (p : Int) ≠ 0 by omega)
  have h2 := Int.emod_nonneg ((y0 : Int) - (m : Int) * (x0 : Int)) (show (p : Int) ≠ 0 by omega)
  have e1 : (tt p x y m = tt p x0 y0 m) ↔ ((y : Int) - (m : Int) * (x : Int)) % (p : Int) = ((y0 : Int) - (m : Int) * (x0 : Int)) % (p : Int) := by
    unfold tt; omega
  have e2 : (m * ((x + p - x0) % p) % p = (y + p - y0) % p) ↔ ((m : Int) * ((x : Int) - x0)) % (p : Int) = ((y : Int) - y0) % (p : Int) := by
    have a1 : ((m * ((x + p - x0) % p) % p : Nat) : Int) = ((m : Int) * ((x : Int) - x0)) % (p : Int) := by
      rw [Int.natCast_emod, Int.natCast_mul, Int.natCast_emod]
      have : ((x + p - x0 : Nat) : Int) = (x : Int) - x0 + p := by omega
      rw [this, Int.add_emod_right, Int.mul_emod, Int.emod_emod_of_dvd _ (Int.dvd_refl _), ← Int.mul_emod]
    have a2 : (((y + p - y0) % p : Nat) : Int) = ((y : Int) - y0) % (p : Int) := by
      rw [Int.natCast_emod]
      have : ((y + p - y0 : Nat) : Int) = (y : Int) - y0 + p := by omega
      rw [this, Int.add_emod_right]
    rw [← a1, ← a2]; omega
  have e3 : ((y : Int) - (m : Int) * (x : Int)) % (p : Int) = ((y0 : Int) - (m : Int) * (x0 : Int)) % (p : Int) ↔ ((m : Int) * ((x : Int) - x0)) % (p : Int) = ((y : Int) - y0) % (p : Int) := by
    rw [emod_congr, emod_congr]
    have b : (y : Int) - (m : Int) * (x : Int) - ((y0 : Int) - (m : Int) * (x0 : Int)) = -((m : Int) * ((x : Int) - x0) - ((y : Int) - y0)) := by
      rw [Int.mul_sub]; omega
    rw [b]
    rw [← Int.dvd_iff_emod_eq_zero, ← Int.dvd_iff_emod_eq_zero, Int.dvd_neg]
  have e4 := e1.trans (e3.trans e2.symm)
  rw [Bool.eq_iff_iff]
  simpa using e4
theorem cnt_false : ∀ n, cnt (fun _ => false) n = 0
  | 0 => rfl
  | n + 1 => by rw [cnt, cnt_false n]; rfl
theorem cnt_true : ∀ n, cnt (fun _ => true) n = n
  | 0 => rfl
  | n + 1 => by rw [cnt, cnt_true n]; rfl
/-- how many lines two places share -/
theorem shared {p x y x0 y0 : Nat} (h32 : p < 32) (hp : isP p = true) (hx : x < p) (hy : y < p) (hx0 : x0 < p) (hy0 : y0 < p) :
    cnt (fun m => thr p x y m == thr p x0 y0 m) (p + 1) = 1 + (if y * p + x = y0 * p + x0 then p else 0) := by
  have hk : (y * p + x = y0 * p + x0) ↔ (x = x0 ∧ y = y0) := by
    constructor
    · intro h
      have h1 := divmod (y := y) hx
      have h2 := divmod (y := y0) hx0
      rw [h] at h1
      omega
    · rintro ⟨rfl, rfl⟩; rfl
  rw [cnt]
  have e1 : ∀ m, m < p → (thr p x y m == thr p x0 y0 m) = (m * ((x + p - x0) % p) % p == (y + p - y0) % p) := by
    intro m hm
    rw [← tt_same hx0 hy0]
    unfold thr
    rw [if_neg (by omega), if_neg (by omega), Bool.eq_iff_iff]
    simp
  have e2 : (thr p x y p == thr p x0 y0 p) = (x == x0) := by
    unfold thr
    rw [if_pos rfl, if_pos rfl, Bool.eq_iff_iff]
    simp
  rw [cnt_congr e1, e2]
  by_cases h : x = x0
  · subst h
    have e3 : (x + p - x) % p = 0 := by rw [Nat.add_sub_cancel_left]; exact Nat.mod_self p
    simp only [e3, Nat.mul_zero, Nat.zero_mod, beq_self_eq_true, if_true]
    by_cases h2 : y = y0
    · subst h2
      have e4 : (y + p - y) % p = 0 := by rw [Nat.add_sub_cancel_left]; exact Nat.mod_self p
      rw [e4, if_pos rfl]
      simp only [beq_self_eq_true]
      rw [cnt_true]; omega
    · have e4 : (y + p - y0) % p ≠ 0 := by
        intro h3
        by_cases h4 : y0 ≤ y
        · have : y + p - y0 = (y - y0) + p := by omega
          rw [this, Nat.add_mod_right, Nat.mod_eq_of_lt (by omega)] at h3
          omega
        · rw [Nat.mod_eq_of_lt (by omega)] at h3
          omega
      have e5 : (0 == (y + p - y0) % p) = false := by simp; omega
      rw [e5, cnt_false, if_neg (fun hh => h2 (hk.1 hh).2)]
  · have e4 : 1 ≤ (x + p - x0) % p := by
        by_cases h4 : x0 ≤ x
        · have : x + p - x0 = (x - x0) + p := by omega
          rw [this, Nat.add_mod_right, Nat.mod_eq_of_lt (by omega)]
          omega
        · rw [Nat.mod_eq_of_lt (by omega)]
          omega
    rw [one_slope p h32 hp _ (Nat.mod_lt _ (by omega)) e4 _ (Nat.mod_lt _ (by omega))]
    have e5 : (x == x0) = false := by simpa using h
    rw [e5, if_neg (fun hh => h (hk.1 hh).1)]
    rfl

/-- the lines through a place: all, and p times the place -/
theorem lin_thr {p x0 y0 : Nat} (h32 : p < 32) (hp : isP p = true) (hx0 : x0 < p) (hy0 : y0 < p) (f : Nat → Int) :
    sm (fun m => lin p f (thr p x0 y0 m)) (p + 1) = sm f (p * p) + (p : Int) * f (y0 * p + x0) := by
  have hpos : 0 < p := by omega
  have e1 : ∀ m, m < p + 1 → lin p f (thr p x0 y0 m) = sm (fun k => if thr p (k % p) (k / p) m = thr p x0 y0 m then f k else 0) (p * p) := by
    intro m hm
    rw [← sct_lin hpos, sct, thr_div hx0]
  rw [sm_congr e1, sm_swap]
  have e2 : ∀ k, k < p * p → sm (fun m => if thr p (k % p) (k / p) m = thr p x0 y0 m then f k else 0) (p + 1) = f k + (if k = y0 * p + x0 then (p : Int) * f (y0 * p + x0) else 0) := by
    intro k hk
    have hx := Nat.mod_lt k hpos
    have hy : k / p < p := Nat.div_lt_of_lt_mul hk
    have hkk : k / p * p + k % p = k := by rw [Nat.mul_comm]; exact Nat.div_add_mod k p
    have := cnt_sm (fun m => thr p (k % p) (k / p) m == thr p x0 y0 m) (f k) (p + 1)
    simp only [beq_iff_eq] at this
    rw [this, shared h32 hp hx hy hx0 hy0, hkk]
    split
    · rename_i e; rw [← e, Int.natCast_add, Int.add_mul]; simp
    · simp
  rw [sm_congr e2, sm_add, sm_one, if_pos]
  have : y0 * p + p ≤ p * p := by rw [← Nat.succ_mul]; exact Nat.mul_le_mul_right _ (by omega)
  omega
/-- the first lines: all -/
theorem lin_first {p : Nat} (hp : 0 < p) (f : Nat → Int) : sm (lin p f) p = sm f (p * p) := by
  rw [sm_rows]
  refine sm_congr fun t ht => ?_
  unfold lin
  refine sm_congr fun j hj => ?_
  unfold plc
  rw [Nat.div_eq_of_lt ht, if_neg (by omega), Nat.zero_mul, Nat.zero_add, Nat.mod_mod, Nat.mod_eq_of_lt ht]

/-- one pixel anew -/
def upd (f : Nat → Int) (a : Nat) (v : Int) (k : Nat) : Int := if k = a then v else f k
theorem lin_upd {p x0 y0 : Nat} (hx0 : x0 < p) (hy0 : y0 < p) (f : Nat → Int) (v : Int) (l : Nat) :
    lin p (upd f (y0 * p + x0) v) l = lin p f l + (if thr p x0 y0 (l / p) = l then v - f (y0 * p + x0) else 0) := by
  have hpos : 0 < p := by omega
  rw [← sct_lin hpos, ← sct_lin hpos]
  unfold sct
  have e : ∀ k, k < p * p → (if thr p (k % p) (k / p) (l / p) = l then upd f (y0 * p + x0) v k else 0) = (if thr p (k % p) (k / p) (l / p) = l then f k else 0) + (if k = y0 * p + x0 then (if thr p x0 y0 (l / p) = l then v - f (y0 * p + x0) else 0) else 0) := by
    intro k hk
    unfold upd
    by_cases h : k = y0 * p + x0
    · subst h
      rw [(divmod hx0).1, (divmod hx0).2, if_pos rfl, if_pos rfl]
      split
      · omega
      · rfl
    · rw [if_neg h, if_neg h]; omega
  rw [sm_congr e, sm_add, sm_one, if_pos]
  have : y0 * p + p ≤ p * p := by rw [← Nat.succ_mul]; exact Nat.mul_le_mul_right _ (by omega)
  omega
end Go.Proofs.Ytedjnemijeaeoaa.Lnm

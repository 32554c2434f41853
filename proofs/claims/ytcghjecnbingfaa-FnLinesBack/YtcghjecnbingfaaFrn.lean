/- An image from its lines: numbers. -/
import Derived.Test.YtcghjecnbingfaaMss
namespace Go.Proofs.Ytcghjecnbingfaa
open Go.RowKit

/-- p times the pixel k, as the sums have it; the pixel -/
def frS (p : Nat) (g : Nat → Int) (k : Nat) : Int := Lnm.sm (fun i => g (Lnm.thr p (k % p) (k / p) i)) (p + 1) - Lnm.sm g p
def frX (p : Nat) (g : Nat → Int) (k : Nat) : Int := (frS p g k).tdiv p
/-- are the first n numbers alike -/
def eqL (f g : Nat → Int) : Nat → Bool
  | 0 => true
  | n + 1 => eqL f g n && (f n == g n)
/-- the sums are those of an image -/
def frT (p m : Nat) (g : Nat → Int) : Bool := toneB p p (p * p) (frX p g) && eqL (Lnm.lin p (frX p g)) g m
/-- each is a multiple of p -/
def frD (p : Nat) (g : Nat → Int) : Nat → Bool
  | 0 => true
  | n + 1 => frD p g n && ((frS p g n).tmod p == 0)

theorem eqL_at {f g : Nat → Int} : ∀ {n k : Nat}, eqL f g n = true → k < n → f k = g k
  | n + 1, k, h, hk => by
    unfold eqL at h
    rw [Bool.and_eq_true] at h
    by_cases e : k = n
    · subst e; simpa using h.2
    · exact eqL_at h.1 (by omega)
theorem eqL_of {f g : Nat → Int} : ∀ {n : Nat}, (∀ k, k < n → f k = g k) → eqL f g n = true
  | 0, _ => rfl
  | n + 1, h => by
    unfold eqL
    rw [eqL_of (fun k hk => h k (by omega)), h n (by omega)]; simp
theorem eqL_false {f g : Nat → Int} {n k : Nat} (hk : k < n) (h : f k ≠ g k) : eqL f g n = false := by
  cases e : eqL f g n
  · rfl
  · exact absurd (eqL_at e hk) h
theorem eqL_step {f g : Nat → Int} {k : Nat} (h : eqL f g k = true) (h' : f k = g k) : eqL f g (k + 1) = true := by
  unfold eqL; rw [h, h']; simp
theorem frD_at {p : Nat} {g : Nat → Int} : ∀ {n k : Nat}, frD p g n = true → k < n → (frS p g k).tmod p = 0
  | n + 1, k, h, hk => by
    unfold frD at h
    rw [Bool.and_eq_true] at h
    by_cases e : k = n
    · subst e; simpa using h.2
    · exact frD_at h.1 (by omega)
theorem frD_of {p : Nat} {g : Nat → Int} : ∀ {n : Nat}, (∀ k, k < n → (frS p g k).tmod p = 0) → frD p g n = true
  | 0, _ => rfl
  | n + 1, h => by
    unfold frD
    rw [frD_of (fun k hk => h k (by omega)), h n (by omega)]; rfl
theorem frD_step {p : Nat} {g : Nat → Int} {k : Nat} (h : frD p g k = true) (h' : (frS p g k).tmod p = 0) : frD p g (k + 1) = true := by
  unfold frD; rw [h, h']; rfl

/-- where the sums are an image's, p divides -/
theorem frT_frD {p m : Nat} {g : Nat → Int} (h2 : 2 ≤ p) (h32 : p < 32) (hp : Lnm.isP p = true) (hm : m = (p + 1) * p) (h : frT p m g = true) : frD p g (p * p) = true := by
  unfold frT at h
  rw [Bool.and_eq_true] at h
  have he := fun k hk => eqL_at h.2 (k := k) hk
  refine frD_of fun k hk => ?_
  have hx := Nat.mod_lt k (show 0 < p by omega)
  have hy : k / p < p := Nat.div_lt_of_lt_mul hk
  have hkk : k / p * p + k % p = k := by rw [Nat.mul_comm]; exact Nat.div_add_mod k p
  have e1 : Lnm.sm (fun i => g (Lnm.thr p (k % p) (k / p) i)) (p + 1) = Lnm.sm (fun i => Lnm.lin p (frX p g) (Lnm.thr p (k % p) (k / p) i)) (p + 1) :=
    Lnm.sm_congr fun i hi => (he _ (by rw [hm]; exact Lnm.thr_lt hx (by omega))).symm
  have e2 : Lnm.sm g p = Lnm.sm (Lnm.lin p (frX p g)) p := Lnm.sm_congr fun i hi => (he _ (by rw [hm, Nat.succ_mul]; omega)).symm
  have e3 := Lnm.lin_thr h32 hp hx hy (frX p g)
  have e4 := Lnm.lin_first (show 0 < p by omega) (frX p g)
  rw [hkk] at e3
  have e5 : frS p g k = (p : Int) * frX p g k := by
    unfold frS
    rw [e1, e2, e3, e4]; omega
  rw [e5]; exact Int.mul_tmod_right _ _
theorem dsq_zero {g l : Nat → Int} : ∀ {m : Nat}, (0 ≤ Lnm.sm (dsq g l) m) ∧ (Lnm.sm (dsq g l) m = 0 ↔ eqL l g m = true)
  | 0 => by simp [Lnm.sm, eqL]
  | m + 1 => by
    obtain ⟨h1, h2⟩ := dsq_zero (g := g) (l := l) (m := m)
    have h3 : 0 ≤ dsq g l m := by
      unfold dsq
      rcases Int.le_total 0 (g m - l m) with h | h
      · exact Int.mul_nonneg h h
      · exact Int.mul_nonneg_of_nonpos_of_nonpos h h
    have h4 : dsq g l m = 0 ↔ l m = g m := by
      unfold dsq
      rw [Int.mul_eq_zero]
      omega
    show 0 ≤ Lnm.sm (dsq g l) m + dsq g l m ∧ (Lnm.sm (dsq g l) m + dsq g l m = 0 ↔ (eqL l g m && (l m == g m)) = true)
    rw [Bool.and_eq_true, ← h2, beq_iff_eq, ← h4]
    omega
theorem frS_bound {p m : Nat} {g : Nat → Int} (h2 : 2 ≤ p) (h31 : p ≤ 31) (hm : m = (p + 1) * p) (hg : ∀ k, k < m → -200000 ≤ g k ∧ g k ≤ 200000) (k : Nat) : -20000000 ≤ frS p g k ∧ frS p g k ≤ 20000000 := by
  have hx := Nat.mod_lt k (show 0 < p by omega)
  have b1 := Lnm.sm_bound (f := fun i => g (Lnm.thr p (k % p) (k / p) i)) (M := 200000) (n := p + 1) (fun i hi => hg _ (by rw [hm]; exact Lnm.thr_lt hx (by omega)))
  have b2 := Lnm.sm_bound (f := g) (M := 200000) (n := p) (fun i hi => hg _ (by rw [hm, Nat.succ_mul]; omega))
  unfold frS
  omega

/-- an image and a flag are answered -/
def ImRB (rW rH : Int) (rN : Nat) (s : Nat → Int) (c : Bool) (w : World) (e : Ending) (w' : World) : Prop :=
  ∃ a0 cap b, e = .returned (.tuple #[im rW rH a0 rN cap, .bool c]) ∧ Ow a0 b rN s w' ∧ (rN = 0 ∨ w.heap.size ≤ b) ∧ Below w.heap.size w w'

set_option maxRecDepth 100000 in
set_option maxHeartbeats 1000000 in
theorem slicesEqual_any (a a' : Option Addr) (n m cap cap' : Nat) (f g : Nat → Int) (hl : n ≤ 1048576) (hl' : m ≤ 1048576) (w : World) (h : Px a n f w) (h' : Px a' m g w) :
    Calls Try.prog 25 #[.slice a n cap, .slice a' m cap'] w fun e w' => e = .returned (.bool (decide (n = m) && eqL f g n)) ∧ Below w.heap.size w w' := by
  by_cases hnm : n = m
  · subst hnm
    have hne : ((n : Int) != (n : Int)) = false := by simp
    obtain ⟨R, hR⟩ : ∃ R, R = (decide (n = n) && eqL f g n) := ⟨_, rfl⟩
    rw [← hR]
    have HR : Hid (R = eqL f g n) := by show R = _; rw [hR]; simp
    have HP := hide h
    have HP' := hide h'
    clear hR h h'
    go_enter Try.func25, Try.ntmps25
    go_wp2_with fail
    go_loopw [5, 13] (fun _ i wr => ∃ k d : Nat, k ≤ n ∧ i = .int .i64 k ∧ eqL f g k = true ∧ wr = w.drewN d) (fun _ i _ => n - (intOf i).toNat)
    case atStart => exact ⟨0, 0, by omega, rfl, rfl, rfl⟩
    case round =>
      obtain ⟨k, d, hk, rfl, ha, rfl⟩ := hrel
      by_cases hlt : k < n
      · obtain ⟨b, off, rfl, hz⟩ := HP.out.at hlt
        obtain ⟨b', off', rfl, hz'⟩ := HP'.out.at hlt
        by_cases he : f k = g k
        · have HE := hide (eqL_step ha he)
          have hE : (f k != g k) = false := by simp [he]
          clear ha he HP HP' HR
          generalize f k = x at *
          generalize g k = y at *
          go_wp2
          go_quiet (fail)
          go_wp2
          exact ⟨⟨k + 1, _, by omega, rfl, HE.out, rfl⟩, by simp [intOf]; omega⟩
        · have HE : Hid (R = false) := by show R = false; rw [HR.out]; exact eqL_false hlt he
          have hE : (f k != g k) = true := by simp [he]
          clear ha he HP HP' HR
          generalize f k = x at *
          generalize g k = y at *
          go_wp2
          go_quiet (fail)
          go_wp2
          go_ret
          exact ⟨by rw [HE.out]; rfl, below_drewN (below_drewN (Below.refl _ _) _) _⟩
      · obtain rfl : k = n := by omega
        have HE : Hid (R = true) := by show R = true; rw [HR.out]; exact ha
        clear ha HP HP' HR
        go_wp2
        go_ret
        exact ⟨by rw [HE.out]; rfl, below_drewN (Below.refl _ _) _⟩
  · have hne : ((n : Int) != (m : Int)) = true := by simp; omega
    rw [decide_eq_false hnm]
    clear hnm h h'
    go_enter Try.func25, Try.ntmps25
    go_wp2_with fail
    go_ret
    exact ⟨rfl, Below.refl _ _⟩

end Go.Proofs.Ytcghjecnbingfaa

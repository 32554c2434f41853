/- Distances: numbers. -/
import Derived.Test.YtipkfaajngabmaaDls
import Derived.Test.YtipkfaajngabmaaOff
namespace Go.Proofs.Ytipkfaajngabmaa
open Go.RowKit

def sq (x : Int) : Int := x * x
theorem sq_nn (x : Int) : 0 ≤ sq x := by
  unfold sq
  rcases Int.le_total 0 x with h | h
  · exact Int.mul_nonneg h h
  · exact Int.mul_nonneg_of_nonpos_of_nonpos h h
theorem sq_le {x : Int} {b : Nat} (h0 : -(b : Int) ≤ x) (h1 : x ≤ b) : sq x ≤ ((b * b : Nat) : Int) := by
  have h2 := natb (a := x) (b := x) (P := b) (Q := b) (by omega) (by omega)
  unfold sq
  omega
theorem sq_sub (x y : Int) : sq (x - y) = sq (y - x) := by
  unfold sq
  have : (y - x) = -(x - y) := by omega
  rw [this, Int.neg_mul_neg]
/-- the least d of those that are P, -1 where none is -/
def lst (P : Nat → Bool) (d : Nat → Int) : Nat → Int
  | 0 => -1
  | k + 1 => if P k = true then (if lst P d k < 0 ∨ d k < lst P d k then d k else lst P d k) else lst P d k
def Lst (P : Nat → Bool) (d : Nat → Int) (n : Nat) (v : Int) : Prop :=
  (v = -1 ∧ ∀ k, k < n → P k = false) ∨ (0 ≤ v ∧ (∃ k, k < n ∧ P k = true ∧ v = d k) ∧ ∀ i, i < n → P i = true → v ≤ d i)
theorem lst_ok {P : Nat → Bool} {d : Nat → Int} : ∀ {n : Nat}, (∀ k, k < n → P k = true → 0 ≤ d k) → Lst P d n (lst P d n)
  | 0, _ => .inl ⟨rfl, fun k hk => by omega⟩
  | n + 1, hd => by
    have ih := lst_ok (n := n) (fun k hk => hd k (by omega))
    unfold lst
    cases hp : P n
    · simp only [Bool.false_eq_true, if_false]
      rcases ih with ⟨h1, h2⟩ | ⟨h1, ⟨k, h2, h3, h4⟩, h5⟩
      · refine .inl ⟨h1, fun k hk => ?_⟩
        by_cases e : k = n
        · subst e; exact hp
        · exact h2 k (by omega)
      · refine .inr ⟨h1, ⟨k, by omega, h3, h4⟩, fun i hi hpi => ?_⟩
        by_cases e : i = n
        · subst e; rw [hp] at hpi; cases hpi
        · exact h5 i (by omega) hpi
    · simp only [if_true]
      have hdn := hd n (by omega) hp
      rcases ih with ⟨h1, h2⟩ | ⟨h1, ⟨k, h2, h3, h4⟩, h5⟩
      · rw [if_pos (.inl (by omega))]
        refine .inr ⟨hdn, ⟨n, by omega, hp, rfl⟩, fun i hi hpi => ?_⟩
        by_cases e : i = n
        · subst e; omega
        · rw [h2 i (by omega)] at hpi; cases hpi
      · by_cases hc : d n < lst P d n
        · rw [if_pos (.inr hc)]
          refine .inr ⟨hdn, ⟨n, by omega, hp, rfl⟩, fun i hi hpi => ?_⟩
          by_cases e : i = n
          · subst e; omega
          · have := h5 i (by omega) hpi; omega
        · rw [if_neg (by omega)]
          refine .inr ⟨h1, ⟨k, by omega, h3, h4⟩, fun i hi hpi => ?_⟩
          by_cases e : i = n
          · subst e; omega
          · exact h5 i (by omega) hpi
theorem Lst.uniq {P : Nat → Bool} {d : Nat → Int} {n : Nat} {u v : Int} (h : Lst P d n u) (h' : Lst P d n v) : u = v := by
  rcases h with ⟨h1, h2⟩ | ⟨h1, ⟨k, h2, h3, h4⟩, h5⟩ <;> rcases h' with ⟨g1, g2⟩ | ⟨g1, ⟨i, g2, g3, g4⟩, g5⟩
  · omega
  · rw [h2 i g2] at g3; cases g3
  · rw [g2 k h2] at h3; cases h3
  · have := h5 i g2 g3; have := g5 k h2 h3; omega

/-- the square of the way between two places -/
def dd (W : Int) (j k : Nat) : Int := sq ((j : Int) % W - (k : Int) % W) + sq ((j : Int) / W - (k : Int) / W)
def disS (W : Int) (n : Nat) (f : Nat → Int) (j : Nat) : Int := lst (fun k => decide (f k = 1)) (dd W j) n
theorem dd_nn (W : Int) (j k : Nat) : 0 ≤ dd W j k := by unfold dd; have := sq_nn ((j : Int) % W - (k : Int) % W); have := sq_nn ((j : Int) / W - (k : Int) / W); omega
theorem disS_ok (W : Int) (n : Nat) (f : Nat → Int) (j : Nat) : Lst (fun k => decide (f k = 1)) (dd W j) n (disS W n f j) := lst_ok (fun k _ _ => dd_nn W j k)

/-- a line of numbers: the least number and square of the way there -/
def lnF (g : Nat → Int) (n i : Nat) : Int := lst (fun k => decide (0 ≤ g k)) (fun k => g k + sq ((i : Int) - k)) n
theorem lnF_ok (g : Nat → Int) (n i : Nat) : Lst (fun k => decide (0 ≤ g k)) (fun k => g k + sq ((i : Int) - k)) n (lnF g n i) :=
  lst_ok (fun k _ h => by have := sq_nn ((i : Int) - k); simp at h; omega)
/-- by rows, then by columns -/
def rowF (W : Nat) (f : Nat → Int) (j : Nat) : Int := lnF (fun k => f (j / W * W + k) - 1) W (j % W)
def colF (W H : Nat) (o : Nat → Int) (j : Nat) : Int := lnF (fun b => o (b * W + j % W)) H (j / W)

theorem dd_nat (W j k : Nat) : dd (W : Int) j k = sq (((j % W : Nat) : Int) - ((k % W : Nat) : Int)) + sq (((j / W : Nat) : Int) - ((k / W : Nat) : Int)) := by unfold dd; rfl
theorem mul_add_lt {W H b c : Nat} (hb : b < H) (hc : c < W) : b * W + c < W * H := by
  have h1 : b * W + W ≤ H * W := by rw [← Nat.succ_mul]; exact Nat.mul_le_mul_right _ hb
  rw [Nat.mul_comm W H]
  omega
theorem mul_add_parts {W b c : Nat} (hc : c < W) : (b * W + c) / W = b ∧ (b * W + c) % W = c := by
  refine ⟨?_, ?_⟩
  · rw [Nat.mul_comm, Nat.mul_add_div (by omega), Nat.div_eq_of_lt hc]; omega
  · rw [Nat.mul_comm, Nat.mul_add_mod, Nat.mod_eq_of_lt hc]
theorem spec_dis {W H n : Nat} {f : Nat → Int} (hW : 1 ≤ W) (hn : n = W * H) (hf : bit1 f n) (j : Nat) : colF W H (rowF W f) j = disS W n f j := by
  refine Lst.uniq ?_ (disS_ok W n f j)
  have h0 := lnF_ok (fun b => rowF W f (b * W + j % W)) H (j / W)
  have hjw : j % W < W := Nat.mod_lt _ (by omega)
  have hrow : ∀ b, b < H → Lst (fun k => decide (0 ≤ f (b * W + k) - 1)) (fun k => f (b * W + k) - 1 + sq (((j % W : Nat) : Int) - k)) W (rowF W f (b * W + j % W)) := by
    intro b hb
    obtain ⟨e1, e2⟩ := mul_add_parts (b := b) hjw
    unfold rowF
    rw [e1, e2]
    exact lnF_ok _ _ _
  have hbit : ∀ b c, b < H → c < W → f (b * W + c) = 0 ∨ f (b * W + c) = 1 := fun b c hb hc => hf _ (by rw [hn]; exact mul_add_lt hb hc)
  have hdd : ∀ b c, c < W → dd W j (b * W + c) = sq (((j % W : Nat) : Int) - c) + sq (((j / W : Nat) : Int) - b) := by
    intro b c hc
    obtain ⟨e1, e2⟩ := mul_add_parts (b := b) hc
    rw [dd_nat, e1, e2]
  have hkk : ∀ k, k < n → k / W < H ∧ k % W < W ∧ k / W * W + k % W = k := by
    intro k hk
    refine ⟨?_, Nat.mod_lt _ (by omega), ?_⟩
    · rw [Nat.div_lt_iff_lt_mul (by omega), Nat.mul_comm]; omega
    · rw [Nat.mul_comm]; exact Nat.div_add_mod k W
  unfold colF
  rcases h0 with ⟨h1, h2⟩ | ⟨h1, ⟨b, h2, h3, h4⟩, h5⟩
  · refine .inl ⟨h1, fun k hk => ?_⟩
    obtain ⟨k1, k2, k3⟩ := hkk k hk
    have h6 := h2 _ k1
    simp at h6
    rcases hrow _ k1 with ⟨g1, g2⟩ | ⟨g1, _⟩
    · have := g2 _ k2
      simp [k3] at this ⊢
      omega
    · omega
  · refine .inr ⟨h1, ?_, fun i hi hpi => ?_⟩
    · simp at h3
      rcases hrow b h2 with ⟨g1, _⟩ | ⟨g1, ⟨c, g2, g3, g4⟩, _⟩
      · omega
      · simp at g3
        have hb1 := hbit b c h2 g2
        refine ⟨b * W + c, by rw [hn]; exact mul_add_lt h2 g2, by simp; omega, ?_⟩
        dsimp only at h4 g4
        rw [hdd b c g2, h4, g4]
        omega
    · obtain ⟨k1, k2, k3⟩ := hkk i hi
      simp at hpi
      have hb1 := hdd (i / W) (i % W) k2
      rw [k3] at hb1
      rcases hrow _ k1 with ⟨g1, g2⟩ | ⟨g1, _, g3⟩
      · have := g2 _ k2
        simp [k3] at this
        omega
      · have h6 := g3 _ k2 (by simp [k3]; omega)
        dsimp only at h6
        rw [k3] at h6
        have h7 := h5 _ k1 (by simpa using g1)
        dsimp only at h7
        rw [hb1]
        omega

/-- the least sum of a pixel and the square of the way there, at most 8192 -/
def lwF (W H : Int) (p g : Nat → Int) (m : Nat) (j : Nat) : Int := vis W H j g (fun i q v => min v (p q.toNat + g (i * 2) * g (i * 2) + g (i * 2 + 1) * g (i * 2 + 1))) 8192 m
theorem lwF_ok (W H : Int) (p g : Nat → Int) (j : Nat) : ∀ m, lwF W H p g m j ≤ 8192 ∧
    (∀ i, i < m → hasB W H ((j : Int) % W + g (i * 2)) ((j : Int) / W + g (i * 2 + 1)) = true → lwF W H p g m j ≤ p (((j : Int) / W + g (i * 2 + 1)) * W + ((j : Int) % W + g (i * 2))).toNat + (sq (g (i * 2)) + sq (g (i * 2 + 1)))) ∧
    (lwF W H p g m j = 8192 ∨ ∃ i, i < m ∧ hasB W H ((j : Int) % W + g (i * 2)) ((j : Int) / W + g (i * 2 + 1)) = true ∧ lwF W H p g m j = p (((j : Int) / W + g (i * 2 + 1)) * W + ((j : Int) % W + g (i * 2))).toNat + (sq (g (i * 2)) + sq (g (i * 2 + 1))))
  | 0 => ⟨by simp [lwF, vis], fun i hi => by omega, .inl rfl⟩
  | m + 1 => by
    obtain ⟨h1, h2, h3⟩ := lwF_ok W H p g j m
    unfold lwF at h1 h2 h3 ⊢
    rw [vis]
    generalize hv : vis W H j g (fun i q v => min v (p q.toNat + g (i * 2) * g (i * 2) + g (i * 2 + 1) * g (i * 2 + 1))) 8192 m = v at *
    cases hq : hasB W H ((j : Int) % W + g (m * 2)) ((j : Int) / W + g (m * 2 + 1))
    · simp only [Bool.false_eq_true, if_false]
      refine ⟨h1, fun i hi hb => ?_, ?_⟩
      · by_cases e : i = m
        · subst e; rw [hq] at hb; cases hb
        · exact h2 i (by omega) hb
      · rcases h3 with h3 | ⟨i, a1, a2, a3⟩
        · exact .inl h3
        · exact .inr ⟨i, by omega, a2, a3⟩
    · simp only [if_true]
      have hs : g (m * 2) * g (m * 2) + g (m * 2 + 1) * g (m * 2 + 1) = sq (g (m * 2)) + sq (g (m * 2 + 1)) := rfl
      generalize hz : p (((j : Int) / W + g (m * 2 + 1)) * W + ((j : Int) % W + g (m * 2))).toNat = z at *
      rw [Int.add_assoc, hs]
      refine ⟨by omega, fun i hi hb => ?_, ?_⟩
      · by_cases e : i = m
        · subst e; rw [hz]; omega
        · have := h2 i (by omega) hb; omega
      · by_cases hc : v ≤ z + (sq (g (m * 2)) + sq (g (m * 2 + 1)))
        · rw [show min v (z + (sq (g (m * 2)) + sq (g (m * 2 + 1)))) = v by omega]
          rcases h3 with h3 | ⟨i, a1, a2, a3⟩
          · exact .inl h3
          · exact .inr ⟨i, by omega, a2, a3⟩
        · refine .inr ⟨m, by omega, hq, ?_⟩
          rw [hz]
          omega
/-- down the columns: 127 offsets -/
theorem off_col (i : Nat) (_hi : i < 127) : offF 0 63 (i * 2) = 0 ∧ offF 0 63 (i * 2 + 1) = (i : Int) - 63 := by
  have h1 := offF_x 0 63 i 0 (by omega)
  have h2 := offF_y 0 63 i 0 (by omega)
  rw [show i * (2 * 0 + 1) + 0 = i by omega] at h1 h2
  exact ⟨by rw [h1]; simp, h2⟩
theorem off_row (i : Nat) (hi : i < 127) : offF 63 0 (i * 2) = (i : Int) - 63 ∧ offF 63 0 (i * 2 + 1) = 0 := by
  have h1 := offF_x 63 0 0 i (by omega)
  have h2 := offF_y 63 0 0 i (by omega)
  rw [show 0 * (2 * 63 + 1) + i = i by omega] at h1 h2
  exact ⟨h1, by rw [h2]; simp⟩
def farF (f : Nat → Int) (k : Nat) : Int := (1 - f k) * 8192
def impF (W H : Int) (f : Nat → Int) (j : Nat) : Int := lwF W H (lwF W H (farF f) (offF 0 63) 127) (offF 63 0) 127 j

theorem imp_dis {W H : Int} {n : Nat} {f : Nat → Int} (hW : 1 ≤ W) (hW' : W ≤ 64) (hH' : H ≤ 64) (hn : (n : Int) = W * H) (hf : bit1 f n) (hex : ∃ k, k < n ∧ f k = 1) (j : Nat) (hj : j < n) : impF W H f j = disS W n f j := by
  refine Lst.uniq ?_ (disS_ok W n f j)
  obtain ⟨hj1, hj2⟩ := place_spot hW hn hj
  obtain ⟨⟨x0, x1⟩, y0, y1⟩ := hasB_iff.1 hj1
  obtain ⟨r1, r2, r3⟩ := lwF_ok W H (lwF W H (farF f) (offF 0 63) 127) (offF 63 0) j 127
  have hcol : ∀ (c b : Int), 0 ≤ c → c < W → 0 ≤ b → b < H → ∀ q : Nat, (q : Int) = b * W + c → lwF W H (farF f) (offF 0 63) 127 q ≤ 8192 ∧
      (∀ k : Nat, k < n → (k : Int) % W = c → lwF W H (farF f) (offF 0 63) 127 q ≤ farF f k + sq ((k : Int) / W - b)) ∧
      (lwF W H (farF f) (offF 0 63) 127 q = 8192 ∨ ∃ k : Nat, k < n ∧ (k : Int) % W = c ∧ lwF W H (farF f) (offF 0 63) 127 q = farF f k + sq ((k : Int) / W - b)) := by
    intro c b c0 c1 b0 b1 q hqe
    obtain ⟨s1, s2⟩ := spot_place (hasB_iff.2 ⟨⟨c0, c1⟩, b0, b1⟩)
    obtain ⟨t1, t2, t3⟩ := lwF_ok W H (farF f) (offF 0 63) q 127
    rw [hqe, s1, s2] at t2 t3
    refine ⟨t1, fun k hk hkc => ?_, ?_⟩
    · obtain ⟨k1, k2⟩ := place_spot hW hn hk
      obtain ⟨⟨a0, a1⟩, a2, a3⟩ := hasB_iff.1 k1
      have hi : ((k : Int) / W - b + 63).toNat < 127 := by omega
      have h5 := t2 _ hi
      obtain ⟨o1, o2⟩ := off_col _ hi
      rw [o1, o2] at h5
      rw [show (((k : Int) / W - b + 63).toNat : Int) - 63 = (k : Int) / W - b by omega, Int.add_zero, show b + ((k : Int) / W - b) = (k : Int) / W by omega, ← hkc] at h5
      have h6 := h5 k1
      rw [k2] at h6
      have : sq 0 = 0 := rfl
      rw [this, Int.toNat_natCast] at h6
      omega
    · rcases t3 with t3 | ⟨i, i1, i2, i3⟩
      · exact .inl t3
      · right
        obtain ⟨o1, o2⟩ := off_col i i1
        rw [o1, o2] at i2 i3
        rw [Int.add_zero] at i2 i3
        obtain ⟨p0, p1⟩ := place_lt i2 hn
        obtain ⟨u1, u2⟩ := spot_place i2
        refine ⟨((b + ((i : Int) - 63)) * W + c).toNat, by omega, by rw [Int.toNat_of_nonneg p0]; exact u1, ?_⟩
        rw [i3, Int.toNat_of_nonneg p0, u2]
        have : sq 0 = 0 := rfl
        rw [this, show b + ((i : Int) - 63) - b = (i : Int) - 63 by omega]
        omega
  have hup : ∀ k, k < n → f k = 1 → impF W H f j ≤ dd W j k := by
    intro k hk hfk
    obtain ⟨k1, k2⟩ := place_spot hW hn hk
    obtain ⟨⟨a0, a1⟩, a2, a3⟩ := hasB_iff.1 k1
    have hi : ((k : Int) % W - (j : Int) % W + 63).toNat < 127 := by omega
    have h5 := r2 _ hi
    obtain ⟨o1, o2⟩ := off_row _ hi
    rw [o1, o2] at h5
    rw [show (((k : Int) % W - (j : Int) % W + 63).toNat : Int) - 63 = (k : Int) % W - (j : Int) % W by omega, Int.add_zero, show (j : Int) % W + ((k : Int) % W - (j : Int) % W) = (k : Int) % W by omega] at h5
    have hb : hasB W H ((k : Int) % W) ((j : Int) / W) = true := hasB_iff.2 ⟨⟨a0, a1⟩, y0, y1⟩
    have h6 := h5 hb
    obtain ⟨p0, p1⟩ := place_lt hb hn
    have h7 := (hcol ((k : Int) % W) ((j : Int) / W) a0 a1 y0 y1 _ (Int.toNat_of_nonneg p0)).2.1 k hk rfl
    have hfar : farF f k = 0 := by unfold farF; rw [hfk]; rfl
    have hz : sq 0 = 0 := rfl
    unfold impF dd
    rw [sq_sub ((j : Int) % W), sq_sub ((j : Int) / W)]
    omega
  have hsmall : ∀ k, k < n → dd W j k ≤ 7938 := by
    intro k hk
    obtain ⟨k1, k2⟩ := place_spot hW hn hk
    obtain ⟨⟨a0, a1⟩, a2, a3⟩ := hasB_iff.1 k1
    have h1 := sq_le (x := (j : Int) % W - (k : Int) % W) (b := 63) (by omega) (by omega)
    have h2 := sq_le (x := (j : Int) / W - (k : Int) / W) (b := 63) (by omega) (by omega)
    unfold dd
    omega
  obtain ⟨ke, hke, hfe⟩ := hex
  have hlow := hup ke hke hfe
  have hs := hsmall ke hke
  right
  rcases r3 with r3 | ⟨i, i1, i2, i3⟩
  · unfold impF at hlow; omega
  · obtain ⟨o1, o2⟩ := off_row i i1
    rw [o1, o2] at i2 i3
    rw [Int.add_zero] at i2 i3
    obtain ⟨⟨a0, a1⟩, _⟩ := hasB_iff.1 i2
    obtain ⟨p0, p1⟩ := place_lt i2 hn
    have hz : sq 0 = 0 := rfl
    have hsn := sq_nn ((i : Int) - 63)
    rcases (hcol _ _ a0 a1 y0 y1 _ (Int.toNat_of_nonneg p0)).2.2 with h8 | ⟨k, k1, k2, k3⟩
    · unfold impF at hlow
      rw [i3, h8] at hlow
      omega
    · have hsn2 := sq_nn ((k : Int) / W - (j : Int) / W)
      have hfk : f k = 1 := by
        rcases hf k k1 with h | h
        · exfalso
          have : farF f k = 8192 := by unfold farF; rw [h]; rfl
          unfold impF at hlow
          rw [i3, k3, this] at hlow
          omega
        · exact h
      have hfar : farF f k = 0 := by unfold farF; rw [hfk]; rfl
      refine ⟨?_, ⟨k, k1, by simpa using hfk, ?_⟩, fun i hi hpi => hup i hi (by simpa using hpi)⟩
      · unfold impF; rw [i3, k3, hfar]; omega
      · unfold impF dd
        rw [i3, k3, hfar, k2, sq_sub ((j : Int) / W), show (j : Int) % W - ((j : Int) % W + ((i : Int) - 63)) = -((i : Int) - 63) by omega]
        have : sq (-((i : Int) - 63)) = sq ((i : Int) - 63) := by unfold sq; rw [Int.neg_mul_neg]
        rw [this]
        omega

end Go.Proofs.Ytipkfaajngabmaa

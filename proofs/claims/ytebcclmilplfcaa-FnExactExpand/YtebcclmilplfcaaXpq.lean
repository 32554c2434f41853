/- Rice's bits that stand there are read: numbers alone. -/
import Derived.Test.YtebcclmilplfcaaXpw
namespace Go.Proofs.Ytebcclmilplfcaa
open Go.RowKit

theorem bits_of (X : List Int) (hX : isBits X) (P B : List Int) (hB : B = P ++ fl (byA X) (nB X.length)) (j : Nat) (hj : j < X.length) : bitE (gB B) B.length (8 * P.length + j) = X.getD j 0 := by
  have hl : B.length = P.length + nB X.length := by rw [hB, List.length_append, fl_len]
  have hn : X.length ≤ 8 * nB X.length := by unfold nB; omega
  unfold bitE bitU
  rw [if_pos (by omega), show (8 * P.length + j) / 8 = P.length + j / 8 by omega, show (8 * P.length + j) % 8 = j % 8 by omega]
  have e : gB B (P.length + j / 8) = byA X (j / 8) := by
    show B.getD (P.length + j / 8) 0 = _
    rw [hB, getD_cat, if_neg (by omega), show P.length + j / 8 - P.length = j / 8 by omega, fl_at _ _ _ (by unfold nB; omega)]
  rw [e]
  unfold byA
  rw [bitv_sm, sm_bit (fun k => hX _) 8 (j % 8) (by omega), show 8 * (j / 8) + j % 8 = j by omega]
theorem sm_mod (x : Nat) : ∀ m, sm (fun k => (x : Int) / 2 ^ k % 2) m = (x : Int) % 2 ^ m
  | 0 => by simp [sm]
  | m + 1 => by
    simp only [sm]
    rw [sm_mod x m]
    have := @Nat.mod_mul (2 ^ m) 2 x
    rw [Int.pow_succ]
    have e : ((x % (2 ^ m * 2) : Nat) : Int) = ((x % 2 ^ m + 2 ^ m * (x / 2 ^ m % 2) : Nat) : Int) := by rw [this]
    push_cast at e
    rw [e, Int.mul_comm (2 ^ m)]
theorem rcB_pre (f : Nat → Int) (K : Nat) : ∀ n k, k ≤ n → ∃ R, rcB f K n = rcB f K k ++ R
  | 0, k, h => ⟨[], by obtain rfl : k = 0 := by omega
                       simp⟩
  | n + 1, k, h => by
    by_cases e : k = n + 1
    · exact ⟨[], by rw [e]; simp⟩
    · obtain ⟨R, hR⟩ := rcB_pre f K n k (by omega)
      exact ⟨R ++ (ones (f n / 2 ^ K).toNat ++ [0] ++ bitK (f n) K), by simp only [rcB]; rw [hR, List.append_assoc]⟩
/-- the reader of rice's bits: so many tones are through, it is at o -/
def RcI (B : List Int) (n K : Nat) (L : List Int) (o : Nat) (f : Nat → Int) : Prop := K ≤ 15 ∧ L.length ≤ n ∧ L = fl f L.length ∧ ∃ P, B = P ++ fl (byA (rcB f K n)) (nB (rcN f K n)) ∧ o = 8 * P.length + rcN f K L.length
/-- what one round of the reader has found: h ones, and the low bits -/
def RcS (g : Nat → Int) (N K o : Nat) (x : Int) (o' : Nat) : Prop := ∃ (h : Nat) (t : Int), x = IntKind.i64.wrap (IntKind.i64.wrap ((h : Int) * 2 ^ min K 64) + t) ∧ (K ≤ 62 → t = uvE g N (min (o + h + 1) (8 * N)) K) ∧ (∀ k, k < h → bitE g N (o + k) = 1) ∧ bitE g N (o + h) = 0 ∧ o' = min (min (o + h + 1) (8 * N) + K) (8 * N)
theorem RcI.step {B : List Int} {n K : Nat} {L : List Int} {o : Nat} {f : Nat → Int} (hf : tnB f n) (h : RcI B n K L o f) (hl : L.length < n) {x : Int} {o' : Nat} (s : RcS (gB B) B.length K o x o') : RcI B n K (L ++ [x]) o' f := by
  obtain ⟨hK, _, h2, P, hB, rfl⟩ := h
  obtain ⟨h, t, rfl, ht, h1, h0, rfl⟩ := s
  have a := hf L.length hl
  obtain ⟨y, hy⟩ : ∃ y : Nat, f L.length = y := ⟨(f L.length).toNat, by omega⟩
  obtain ⟨R, hR⟩ := rcB_pre f K n (L.length + 1) (by omega)
  have hXl := rcB_len f K n
  rw [← hXl] at hB
  have bt := bits_of (rcB f K n) (rcB_bits f K n) P B hB
  have hBl : B.length = P.length + nB (rcB f K n).length := by rw [hB, List.length_append, fl_len]
  have hnB : (rcB f K n).length ≤ 8 * nB (rcB f K n).length := by unfold nB; omega
  have hz : rcN f K (L.length + 1) ≤ (rcB f K n).length := by rw [hXl]; exact rcN_mono f K (by omega)
  obtain ⟨D, hD⟩ : ∃ D : Nat, f L.length / 2 ^ K = D := ⟨(f L.length / 2 ^ K).toNat, by have := Int.ediv_nonneg a.1 (Int.le_of_lt (pow_pos2 K)); omega⟩
  have hr : rcN f K (L.length + 1) = rcN f K L.length + (D + 1 + K) := by simp only [rcN]; rw [hD]; simp
  have hX : ∀ j, j < D + 1 + K → (rcB f K n).getD (rcN f K L.length + j) 0 = (ones D ++ [0] ++ bitK (f L.length) K).getD j 0 := fun j hj => by
    rw [hR]
    simp only [rcB]
    rw [hD, Int.toNat_natCast, List.append_assoc, getD_cat, if_neg (by rw [rcB_len]; omega), rcB_len, show rcN f K L.length + j - rcN f K L.length = j by omega, getD_cat, if_pos (by simp only [List.length_append, ones_len, bitK_len, List.length_cons, List.length_nil]; omega)]
  have hq : ∀ j, j < D + 1 + K → bitE (gB B) B.length (8 * P.length + rcN f K L.length + j) = (ones D ++ [0] ++ bitK (f L.length) K).getD j 0 := fun j hj => by
    rw [Nat.add_assoc, bt _ (by omega), hX j hj]
  have hq1 : ∀ j, j < D → bitE (gB B) B.length (8 * P.length + rcN f K L.length + j) = 1 := fun j hj => by
    rw [hq j (by omega), getD_cat, if_pos (by simp [ones_len]; omega), getD_cat, if_pos (by rw [ones_len]; exact hj)]
    simp [ones, List.getD_eq_getElem?_getD, hj]
  have hq0 : bitE (gB B) B.length (8 * P.length + rcN f K L.length + D) = 0 := by
    rw [hq D (by omega), getD_cat, if_pos (by simp [ones_len]), getD_cat, if_neg (by rw [ones_len]; omega), ones_len]
    simp
  have hq2 : ∀ j, j < K → bitE (gB B) B.length (8 * P.length + rcN f K L.length + D + 1 + j) = f L.length / 2 ^ j % 2 := fun j hj => by
    rw [show 8 * P.length + rcN f K L.length + D + 1 + j = 8 * P.length + rcN f K L.length + (D + 1 + j) by omega, hq _ (by omega), getD_cat, if_neg (by simp [ones_len]), show D + 1 + j - (ones D ++ [(0 : Int)]).length = j by rw [List.length_append, ones_len]; simp]
    exact fl_at _ _ _ hj
  have hh : h = D := by
    by_cases e1 : h < D
    · have := hq1 h e1; omega
    · by_cases e2 : D < h
      · have := h1 D e2; omega
      · omega
  subst hh
  have hmin : min (8 * P.length + rcN f K L.length + h + 1) (8 * B.length) = 8 * P.length + rcN f K L.length + h + 1 := by omega
  have hmin2 : min (8 * P.length + rcN f K L.length + h + 1 + K) (8 * B.length) = 8 * P.length + rcN f K (L.length + 1) := by omega
  have ht' : t = f L.length % 2 ^ K := by
    rw [ht (by omega), hmin, hy, ← sm_mod]
    unfold uvE
    exact sm_congr fun k hk => by rw [hq2 k hk, hy]
  have hx : (h : Int) * 2 ^ K + t = f L.length := by
    rw [ht', ← hD, Int.mul_comm]
    exact Int.mul_ediv_add_emod _ _
  have hm0 : 0 ≤ (h : Int) * 2 ^ K := Int.mul_nonneg (by omega) (Int.le_of_lt (pow_pos2 K))
  have ht0 : 0 ≤ t := by rw [ht']; exact Int.emod_nonneg _ (by have := pow_pos2 K; omega)
  have hw : IntKind.i64.wrap (IntKind.i64.wrap ((h : Int) * 2 ^ K) + t) = f L.length := by
    generalize (h : Int) * 2 ^ K = z at *
    rw [IntKind.wrap_i64, IntKind.wrap_i64]; omega
  rw [show min K 64 = K by omega, hw, hmin, hmin2]
  have hlen : (L ++ [f L.length]).length = L.length + 1 := by simp
  refine ⟨hK, by omega, ?_, P, ?_, ?_⟩
  · rw [hlen]; simp only [fl]; rw [← h2]
  · rw [← hXl]; exact hB
  · rw [hlen]
theorem RcI.last {B : List Int} {n K : Nat} {L : List Int} {o : Nat} {f : Nat → Int} (h : RcI B n K L o f) (hz : L.length = n ∨ 8 * B.length ≤ o) : L = fl f n := by
  obtain ⟨_, h1, h2, P, hB, rfl⟩ := h
  have hc : L.length = n := by
    rcases hz with hz | hz
    · exact hz
    · by_cases e : L.length = n
      · exact e
      · exfalso
        have hBl : B.length = P.length + nB (rcN f K n) := by rw [hB, List.length_append, fl_len]
        have hm := rcN_mono f K (show L.length + 1 ≤ n by omega)
        have hr : rcN f K L.length + 1 ≤ rcN f K (L.length + 1) := by simp only [rcN]; omega
        have hnB : rcN f K n ≤ 8 * nB (rcN f K n) := by unfold nB; omega
        omega
  rw [h2, hc]

end Go.Proofs.Ytebcclmilplfcaa

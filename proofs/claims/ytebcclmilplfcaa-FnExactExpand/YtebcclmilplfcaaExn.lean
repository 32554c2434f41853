/- What is read out of bytes that a codec wrote: numbers alone. -/
import Derived.Test.YtebcclmilplfcaaExi
import Derived.Test.YtebcclmilplfcaaCmm
namespace Go.Proofs.Ytebcclmilplfcaa
open Go.RowKit

/-- bytes as a function -/
abbrev gB (B : List Int) : Nat → Int := fun k => B.getD k 0
theorem gB_mid (P : List Int) (x : Int) (Q : List Int) : gB (P ++ x :: Q) P.length = x := by
  show (P ++ x :: Q).getD P.length 0 = x
  rw [getD_cat, if_neg (by omega), Nat.sub_self]
  rfl
theorem uv_byte (P : List Int) (x : Int) (Q : List Int) (h0 : 0 ≤ x) (h1 : x ≤ 255) (N : Nat) (hN : N = (P ++ x :: Q).length) : uvE (gB (P ++ x :: Q)) N (8 * P.length) 8 = x := by
  have e : uvE (gB (P ++ x :: Q)) N (8 * P.length) 8 = sm (fun k => x / 2 ^ k % 2) 8 := by
    unfold uvE
    refine sm_congr fun k hk => ?_
    unfold bitE bitU
    rw [if_pos (by rw [hN, List.length_append, List.length_cons]; omega), show (8 * P.length + k) / 8 = P.length by omega, show (8 * P.length + k) % 8 = k by omega, gB_mid]
  rw [e]
  exact sm_of 8 x h0 (by simp only [Int.reducePow]; omega)
/-- a small number that stands there is read -/
theorem tsR_read (N : Nat) : ∀ (r k : Nat) (acc : Int) (v : Nat) (P Q : List Int), (smL v).length ≤ r → N = (P ++ smL v ++ Q).length → tsR (gB (P ++ smL v ++ Q)) N r k acc (8 * P.length) = (acc + (v : Int) * 128 ^ k, 8 * (P ++ smL v).length)
  | 0, k, acc, v, P, Q, h, hN => by
    exfalso
    by_cases hb : 127 < v
    · rw [smL_big hb] at h; simp at h
    · rw [smL_low (by omega)] at h; simp at h
  | r + 1, k, acc, v, P, Q, h, hN => by
    by_cases hb : 127 < v
    · have e : P ++ smL v ++ Q = P ++ (128 + (v : Int) % 128) :: (smL (v / 128) ++ Q) := by rw [smL_big hb, List.append_assoc]; rfl
      have hu : uvE (gB (P ++ smL v ++ Q)) N (8 * P.length) 8 = 128 + (v : Int) % 128 := by
        rw [e]
        exact uv_byte P _ _ (by omega) (by omega) N (by rw [hN, e])
      simp only [tsR]
      rw [hu, if_neg (by omega)]
      have hlen : P.length + 1 ≤ N := by rw [hN, e, List.length_append, List.length_cons]; omega
      have e2 : P ++ smL v ++ Q = (P ++ [128 + (v : Int) % 128]) ++ smL (v / 128) ++ Q := by rw [e]; simp
      have ih := tsR_read N r (k + 1) (acc + (128 + (v : Int) % 128) % 128 * 128 ^ k) (v / 128) (P ++ [128 + (v : Int) % 128]) Q (by rw [smL_big hb] at h; simp at h; omega) (by rw [← e2]; exact hN)
      rw [← e2] at ih
      rw [show min (8 * P.length + 8) (8 * N) = 8 * (P ++ [128 + (v : Int) % 128]).length by rw [List.length_append]; simp; omega, ih]
      refine Prod.ext ?_ ?_
      · show _ = _
        rw [Int.pow_succ]
        have h1 : (128 + (v : Int) % 128) % 128 = (v : Int) % 128 := by omega
        have h2 : ((v / 128 : Nat) : Int) * (128 ^ k * 128) = (((v / 128 : Nat) : Int) * 128) * 128 ^ k := by rw [Int.mul_comm (128 ^ k) 128, ← Int.mul_assoc]
        have h3 : (v : Int) = (v : Int) % 128 + ((v / 128 : Nat) : Int) * 128 := by omega
        rw [h1, h2]
        conv => rhs; rw [h3]
        rw [Int.add_mul, Int.add_assoc]
      · show _ = _
        rw [List.length_append, List.length_append, List.length_append, smL_big hb]
        simp
        omega
    · have e : P ++ smL v ++ Q = P ++ (v : Int) :: Q := by rw [smL_low (by omega), List.append_assoc]; rfl
      have hu : uvE (gB (P ++ smL v ++ Q)) N (8 * P.length) 8 = (v : Int) := by
        rw [e]
        exact uv_byte P _ _ (by omega) (by omega) N (by rw [hN, e])
      have hlen : P.length + 1 ≤ N := by rw [hN, e, List.length_append, List.length_cons]; omega
      simp only [tsR]
      rw [hu, if_pos (by omega)]
      refine Prod.ext ?_ ?_
      · show _ = _
        rw [show (v : Int) % 128 = v by omega]
      · show _ = _
        rw [List.length_append, smL_low (by omega)]
        simp
        omega
theorem ts_read (v : Nat) (hv : v ≤ 2097151) (P Q : List Int) (B : List Int) (hB : B = P ++ smL v ++ Q) : tsV (gB B) B.length (8 * P.length) = v ∧ tsO (gB B) B.length (8 * P.length) = 8 * (P ++ smL v).length := by
  subst hB
  have := tsR_read _ 3 0 0 v P Q (smL_len v hv).2 rfl
  unfold tsV tsO
  rw [this]
  simp
/-- two bytes -/
theorem sm_16 (β : Nat → Int) : sm β 16 = sm β 8 + sm (fun k => β (8 + k)) 8 * 256 := by
  simp only [sm, Nat.reduceAdd]
  omega
theorem uv_word (P : List Int) (x y : Int) (Q : List Int) (h0 : 0 ≤ x) (h1 : x ≤ 255) (h2 : 0 ≤ y) (h3 : y ≤ 255) (B : List Int) (hB : B = P ++ x :: y :: Q) : uvE (gB B) B.length (8 * P.length) 16 = x + y * 256 := by
  have a := uv_byte P x (y :: Q) h0 h1 B.length (by rw [hB])
  have b := uv_byte (P ++ [x]) y Q h2 h3 B.length (by rw [hB]; simp)
  rw [← hB] at a
  rw [show P ++ [x] ++ y :: Q = B by rw [hB]; simp, show 8 * (P ++ [x]).length = 8 * P.length + 8 by rw [List.length_append]; simp; omega] at b
  unfold uvE at a b ⊢
  rw [sm_16, a]
  have e : sm (fun k => bitE (gB B) B.length (8 * P.length + (8 + k))) 8 = y := by
    rw [← b]
    exact sm_congr fun k _ => by rw [Nat.add_assoc]
  rw [e]

/-- tones of which a codec made these bytes -/
def Vld (c : Nat) (f : Nat → Int) (n : Nat) (B : List Int) : Prop := cmOk c f n = true ∧ cmL c f n = B
theorem Vld.is {c : Nat} {f : Nat → Int} {n : Nat} {B : List Int} (h : Vld c f n B) : n ≤ 65536 ∧ tnB f n ∧ B = smL n ++ cdL c f n := by
  obtain ⟨h1, h2⟩ := h
  have ht : tonB f n = true := by simp only [cmOk, Bool.and_eq_true] at h1; exact h1.1
  obtain ⟨hn, hb⟩ := tonB_is ht
  refine ⟨hn, hb, ?_⟩
  rw [← h2]
  unfold cmL
  rw [if_pos h1]
theorem Vld.count {c : Nat} {f : Nat → Int} {n : Nat} {B : List Int} (h : Vld c f n B) : tsV (gB B) B.length 0 = n ∧ tsO (gB B) B.length 0 = 8 * (smL n).length := by
  obtain ⟨hn, _, hB⟩ := h.is
  have := ts_read n (by omega) [] (cdL c f n) B (by rw [hB]; rfl)
  simpa using this

end Go.Proofs.Ytebcclmilplfcaa

/- Plain tones that stand there are read: numbers alone. -/
import Derived.Test.YtebcclmilplfcaaXps
namespace Go.Proofs.Ytebcclmilplfcaa
open Go.RowKit

theorem plL_pre (f : Nat → Int) : ∀ n k, k ≤ n → ∃ R, plL f n = plL f k ++ R
  | 0, k, h => ⟨[], by obtain rfl : k = 0 := by omega
                       simp⟩
  | n + 1, k, h => by
    by_cases e : k = n + 1
    · exact ⟨[], by rw [e]; simp⟩
    · obtain ⟨R, hR⟩ := plL_pre f n k (by omega)
      exact ⟨R ++ [f n % 256, f n / 256 % 256], by simp only [plL]; rw [hR, List.append_assoc]⟩
/-- of bytes that are plain all tones are read -/
theorem pl_all (f : Nat → Int) (n : Nat) (hf : tnB f n) (P B : List Int) (hB : B = P ++ plL f n) (c : Nat) (hc : c ≤ n) (hz : c = n ∨ 8 * B.length ≤ rdO B.length (8 * P.length) 16 c) : c = n ∧ fl (rdF (gB B) B.length (8 * P.length) 16) c = fl f n := by
  have hlen : B.length = P.length + 2 * n := by rw [hB, List.length_append, plL_len]
  have hcn : c = n := by
    rcases hz with h | h
    · exact h
    · unfold rdO at h; omega
  refine ⟨hcn, ?_⟩
  subst hcn
  refine fl_congr fun i hi => ?_
  obtain ⟨R, hR⟩ := plL_pre f c (i + 1) (by omega)
  have a := hf i hi
  have u := uv_word (P ++ plL f i) (f i % 256) (f i / 256 % 256) R (by omega) (by omega) (by omega) (by omega) B (by rw [hB, hR]; simp [plL])
  unfold rdF
  rw [show rdO B.length (8 * P.length) 16 i = 8 * (P ++ plL f i).length by rw [List.length_append, plL_len]; unfold rdO; omega, u]
  omega

end Go.Proofs.Ytebcclmilplfcaa

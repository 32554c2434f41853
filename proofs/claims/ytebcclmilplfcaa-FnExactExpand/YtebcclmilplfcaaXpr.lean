/- The program's reader: tones as runs. -/
import Derived.Test.YtebcclmilplfcaaXpp
import Derived.Lib.MinMax
namespace Go.Proofs.Ytebcclmilplfcaa
open Go.RowKit

theorem tsO_grow (g : Nat → Int) (N o : Nat) (ho : o < 8 * N) : o < tsO g N o := by
  unfold tsO
  rw [show tsR g N 3 0 0 o = if uvE g N o 8 < 128 then (0 + uvE g N o 8 % 128 * 128 ^ 0, min (o + 8) (8 * N)) else tsR g N 2 1 (0 + uvE g N o 8 % 128 * 128 ^ 0) (min (o + 8) (8 * N)) from rfl]
  have hU := uvE_bd g N o 8
  split
  · show o < min (o + 8) (8 * N); omega
  · have := (tsR_bd g N 2 1 (0 + uvE g N o 8 % 128 * 128 ^ 0) (min (o + 8) (8 * N)) (by omega) (by omega) (by omega)).2.2.1
    omega
theorem cntR_is (f : Nat → Int) (v : Int) : ∀ m j k, k < cntR f v j m → f (j + k) = v
  | 0, j, k, h => by simp [cntR] at h
  | m + 1, j, k, h => by
    simp only [cntR] at h
    split at h
    · match k with
      | 0 => assumption
      | k + 1 =>
        have := cntR_is f v m (j + 1) k (by omega)
        rwa [show j + 1 + k = j + (k + 1) by omega] at this
    · omega
/-- the reader of runs of these bytes: i tones are through, it is at o -/
def RnI (B : List Int) (n : Nat) (L : List Int) (o : Nat) (f : Nat → Int) : Prop := L.length ≤ n ∧ L = fl f L.length ∧ ∃ P, B = P ++ rnL f n (n - L.length) ∧ o = 8 * P.length
theorem fl_app (f : Nat → Int) (i : Nat) : ∀ r, (∀ k, k < r → f (i + k) = f i) → fl f (i + r) = fl f i ++ List.replicate r (f i)
  | 0, _ => by simp
  | r + 1, h => by
    rw [show i + (r + 1) = (i + r) + 1 from rfl]
    simp only [fl]
    rw [fl_app f i r (fun k hk => h k (by omega)), h r (by omega), List.replicate_succ', List.append_assoc]
theorem RnI.step {B : List Int} {n : Nat} {L : List Int} {o : Nat} {f : Nat → Int} (hf : tnB f n) (hn : n ≤ 65536) (h : RnI B n L o f) (hl : L.length < n) :
    RnI B n (L ++ List.replicate (min (tsV (gB B) B.length o) (n - L.length : Nat)).toNat (tsV (gB B) B.length (tsO (gB B) B.length o))) (tsO (gB B) B.length (tsO (gB B) B.length o)) f := by
  obtain ⟨_, h2, P, hB, rfl⟩ := h
  obtain ⟨m, hm⟩ : ∃ m, n - L.length = m + 1 := ⟨n - L.length - 1, by omega⟩
  have e1 : n - (m + 1) = L.length := by omega
  have e2 : n - m = L.length + 1 := by omega
  rw [hm, rnL, e1, e2] at hB
  have hc := cntR_le f (f L.length) m (L.length + 1)
  have hci := cntR_is f (f L.length) m (L.length + 1)
  generalize cntR f (f L.length) (L.length + 1) m = r at *
  have a := hf L.length hl
  have t1 := ts_read (1 + r) (by omega) P (smL (f L.length).toNat ++ rnL f n (m - r)) B (by rw [hB]; simp)
  have t2 := ts_read (f L.length).toNat (by omega) (P ++ smL (1 + r)) (rnL f n (m - r)) B (by rw [hB]; simp)
  rw [t1.2, t2.1, t2.2, t1.1, show (min ((1 + r : Nat) : Int) ((n - L.length : Nat) : Int)).toNat = 1 + r by omega, show (((f L.length).toNat : Nat) : Int) = f L.length by omega]
  have hlen : (L ++ List.replicate (1 + r) (f L.length)).length = L.length + (1 + r) := by simp
  refine ⟨by omega, ?_, P ++ smL (1 + r) ++ smL (f L.length).toNat, ?_, rfl⟩
  · rw [hlen, fl_app f L.length (1 + r) (fun k hk => by
      match k with
      | 0 => rfl
      | k + 1 => have := hci k (by omega); rwa [show L.length + 1 + k = L.length + (k + 1) by omega] at this), ← h2]
  · rw [hlen, hB, show n - (L.length + (1 + r)) = m - r by omega]; simp
theorem RnI.last {B : List Int} {n : Nat} {L : List Int} {o : Nat} {f : Nat → Int} (hn : n ≤ 65536) (h : RnI B n L o f) (hz : L.length = n ∨ 8 * B.length ≤ o) : L = fl f n := by
  obtain ⟨h1, h2, P, hB, rfl⟩ := h
  have hc : L.length = n := by
    rcases hz with hz | hz
    · exact hz
    · by_cases e : L.length = n
      · exact e
      · exfalso
        obtain ⟨m, hm⟩ : ∃ m, n - L.length = m + 1 := ⟨n - L.length - 1, by omega⟩
        rw [hm, rnL] at hB
        have hc := cntR_le f (f (n - (m + 1))) m (n - m)
        have l := (smL_len (1 + cntR f (f (n - (m + 1))) (n - m) m) (by omega)).1
        rw [hB] at hz
        simp only [List.length_append] at hz
        omega
  rw [h2, hc]

end Go.Proofs.Ytebcclmilplfcaa

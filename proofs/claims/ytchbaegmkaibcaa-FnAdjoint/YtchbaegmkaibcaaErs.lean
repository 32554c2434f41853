/- Erode, the specification. -/
import Derived.Test.YtchbaegmkaibcaaL2a
import Derived.Test.YtchbaegmkaibcaaErt
namespace Go.Proofs.Ytchbaegmkaibcaa
open Go.RowKit

theorem ero_bd {W H : Int} {n : Nat} {f : Nat → Int} (hn : (n : Int) = W * H) (hf : bit1 f n) (m : Nat) (g : Nat → Int) (p : Int) : 0 ≤ vis W H p g (fun _ q v => min v (f q.toNat)) 1 m ∧ vis W H p g (fun _ q v => min v (f q.toNat)) 1 m ≤ 1 := by
  refine vis_ind (P := fun _ v => 0 ≤ v ∧ v ≤ 1) (by omega) ?_ (fun _ _ _ _ h => h)
  intro k v _ hq hv
  obtain ⟨q0, q1⟩ := place_lt hq hn
  have := bit_at hf q0 q1
  omega
theorem ero_step0 {W H : Int} {n : Nat} {f : Nat → Int} (hn : (n : Int) = W * H) (hf : bit1 f n) {g : Nat → Int} {p : Int} {j : Nat} (h : atF W H f (p % W + g (j * 2)) (p / W + g (j * 2 + 1)) 1 = 0) : vis W H p g (fun _ q v => min v (f q.toNat)) 1 (j + 1) = 0 := by
  have hb := ero_bd hn hf j g p
  unfold atF at h
  unfold vis
  cases hq : hasB W H (p % W + g (j * 2)) (p / W + g (j * 2 + 1))
  · rw [hq] at h; simp at h
  · rw [hq] at h
    simp only [if_true] at h ⊢
    rw [h]
    omega
theorem ero_step1 {W H : Int} {n : Nat} {f : Nat → Int} (hn : (n : Int) = W * H) (hf : bit1 f n) {g : Nat → Int} {p : Int} {j : Nat} (h : ¬ atF W H f (p % W + g (j * 2)) (p / W + g (j * 2 + 1)) 1 = 0) : vis W H p g (fun _ q v => min v (f q.toNat)) 1 (j + 1) = vis W H p g (fun _ q v => min v (f q.toNat)) 1 j := by
  have hb := ero_bd hn hf j g p
  unfold atF at h
  rw [vis]
  cases hq : hasB W H (p % W + g (j * 2)) (p / W + g (j * 2 + 1))
  · simp
  · rw [hq] at h
    simp only [if_true] at h ⊢
    obtain ⟨q0, q1⟩ := place_lt hq hn
    have := bit_at hf q0 q1
    omega

end Go.Proofs.Ytchbaegmkaibcaa

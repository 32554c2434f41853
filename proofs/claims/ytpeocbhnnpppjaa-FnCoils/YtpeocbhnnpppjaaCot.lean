/- What two coils saw folded comes back wherever they tell two rows apart. -/
import Derived.Test.YtpeocbhnnpppjaaCls
import Derived.Test.YtpeocbhnnpppjaaUnA
namespace Go.Proofs.Ytpeocbhnnpppjaa
open Go.RowKit

theorem res_tmod (x : Int) : res (x.tmod 12289) = res x := by
  unfold res
  rw [Int.tmod_def, Int.sub_mul_emod_self_left]
theorem tmod_zero (x : Int) : x.tmod 12289 = 0 ↔ res x = 0 := by
  unfold res
  constructor
  · intro h; exact Int.emod_eq_zero_of_dvd (Int.dvd_of_tmod_eq_zero h)
  · intro h; exact Int.tmod_eq_zero_of_dvd (Int.dvd_of_emod_eq_zero h)
/-- the number by which the law tells rows apart -/
def lwD (a0 a1 b0 b1 : Int) : Int := (a0.tmod 12289 * b1.tmod 12289 - a1.tmod 12289 * b0.tmod 12289).tmod 12289
theorem lwD_iff (a0 a1 b0 b1 : Int) : lwD a0 a1 b0 b1 = 0 ↔ crs a0 a1 b0 b1 = 0 := by
  unfold lwD
  rw [tmod_zero, ← res_sub2, ← res_mul_l, ← res_mul_r, ← res_mul_l (a1.tmod 12289), ← res_mul_r (res (a1.tmod 12289))]
  rw [res_tmod, res_tmod, res_tmod, res_tmod, res_mul_r, res_mul_l, res_mul_r, res_mul_l, res_sub2]
  rfl
/-- the second coil's sensitivities -/
def coil2 (g : Nat → Int) (i : Nat) : Int := (3 * (i : Int)).tmod 7 + (g i).tmod 5
theorem coil2_bd (g : Nat → Int) (i : Nat) : -10 ≤ coil2 g i ∧ coil2 g i ≤ 10 := by
  unfold coil2
  have h1 := Int.tmod_lt_of_pos (3 * (i : Int)) (show (0 : Int) < 7 by omega)
  have h2 := Int.lt_tmod_of_pos (3 * (i : Int)) (show (0 : Int) < 7 by omega)
  have h3 := Int.tmod_lt_of_pos (g i) (show (0 : Int) < 5 by omega)
  have h4 := Int.lt_tmod_of_pos (g i) (show (0 : Int) < 5 by omega)
  omega
theorem allB_of {f : Nat → Int} : ∀ n, (∀ k, k < n → -1000000000 ≤ f k ∧ f k ≤ 1000000000) → allB f n = true
  | 0, _ => rfl
  | n + 1, h => allB_step (allB_of n fun k hk => h k (by omega)) (by have := h n (by omega); unfold inB; simp; omega)
theorem ok_of {W H : Int} {n : Nat} {f : Nat → Int} (h1 : 1 ≤ W ∧ W ≤ 64) (h2 : 1 ≤ H ∧ H ≤ 64) (h3 : (n : Int) = W * H) (h4 : ∀ k, k < n → -1000000000 ≤ f k ∧ f k ≤ 1000000000) : okB W H n f = true := by
  unfold okB
  rw [allB_of n h4, decide_eq_true h3, show inB W 1 64 = true by unfold inB; simp; omega, show inB H 1 64 = true by unfold inB; simp; omega]
  rfl
/-- what is right of the law's four images -/
theorem coils_ok {W H : Int} {n : Nat} {f g : Nat → Int} (h : foldB W H n f W H n g = true) :
    foldB W H n f W H n (coil2 g) = true ∧ unfB W (H / 2) (n / 2) (foldF (n / 2) f g) W (H / 2) (n / 2) (foldF (n / 2) f (coil2 g)) W H n g W H n (coil2 g) = true ∧ okB W H n f = true ∧ (1 ≤ n / 2 ∧ n = n / 2 + n / 2 ∧ n ≤ 4096) ∧ (1 ≤ W ∧ W ≤ 64) := by
  unfold foldB at h
  simp only [Bool.and_eq_true, decide_eq_true_eq] at h
  obtain ⟨hf, hg, -, -, h2⟩ := h
  obtain ⟨p1, p2, p3, p4⟩ := okB_parts hf
  obtain ⟨q1, q2⟩ := side_bounds p1
  obtain ⟨r1, r2⟩ := side_bounds p2
  have hp := prod_bounds p1 p2
  obtain ⟨M, hM⟩ : ∃ M : Int, H = 2 * M := ⟨H / 2, by omega⟩
  have hM2 : H / 2 = M := by omega
  have hWM : W * H = 2 * (W * M) := by rw [hM, ← Int.mul_assoc, Int.mul_comm W 2, Int.mul_assoc]
  obtain ⟨Q, hQ⟩ : ∃ Q, W * M = Q := ⟨_, rfl⟩
  rw [hQ] at hWM
  have hn2 : ((n / 2 : Nat) : Int) = W * (H / 2) := by rw [hM2, hQ]; omega
  have hb : okB W H n (coil2 g) = true := ok_of ⟨q1, q2⟩ ⟨r1, r2⟩ p3 fun k _ => by have := coil2_bd g k; omega
  have hres : ∀ (x : Nat → Int) k, -1000000000 ≤ foldF (n / 2) f x k ∧ foldF (n / 2) f x k ≤ 1000000000 := fun x k => by have := res_bd (f k * x k + f (k + n / 2) * x (k + n / 2)); unfold foldF; omega
  have hF : ∀ x, okB W (H / 2) (n / 2) (foldF (n / 2) f x) = true := fun x => ok_of ⟨q1, q2⟩ (by omega) hn2 fun k _ => hres x k
  refine ⟨?_, ?_, hf, by omega, q1, q2⟩
  · unfold foldB
    rw [hf, hb, decide_eq_true rfl, decide_eq_true rfl, decide_eq_true h2]
    rfl
  · unfold unfB
    rw [hF, hF, hg, hb, decide_eq_true (show H = 2 * (H / 2) by omega)]
    simp
/-- what comes out, place by place -/
theorem coils_at {N : Nat} (f g h : Nat → Int) {q : Nat} (hq : q < N) (hd : lwD (g q) (g (q + N)) (h q) (h (q + N)) ≠ 0) :
    curF N (foldF N f g) (foldF N f h) g h N q = res (f q) ∧ curF N (foldF N f g) (foldF N f h) g h N (q + N) = res (f (q + N)) := by
  have hc : crs (g q) (g (q + N)) (h q) (h (q + N)) ≠ 0 := fun e => hd ((lwD_iff _ _ _ _).2 e)
  obtain ⟨s1, s2⟩ := slv_ok (f q) (f (q + N)) (g q) (g (q + N)) (h q) (h (q + N)) hc
  unfold curF
  rw [if_pos hq, if_pos hq, if_neg (show ¬ q + N < N by omega), Nat.add_sub_cancel, if_pos hq]
  exact ⟨s1, s2⟩
/-- how many of the first places the law finds alike -/
def badL (N : Nat) (g h : Nat → Int) : Nat → Nat
  | 0 => 0
  | q + 1 => badL N g h q + (if lwD (g q) (g (q + N)) (h q) (h (q + N)) = 0 then 1 else 0)
theorem badL_cnt (N : Nat) (F G g h : Nat → Int) : ∀ q, badL N g h q = cntF N F G g h q
  | 0 => rfl
  | q + 1 => by
    unfold badL cntF
    rw [badL_cnt N F G g h q]
    have : (lwD (g q) (g (q + N)) (h q) (h (q + N)) = 0) ↔ uA N F G g h q = 0 := lwD_iff _ _ _ _
    simp only [this]
theorem badL_le (N : Nat) (g h : Nat → Int) : ∀ q, badL N g h q ≤ q
  | 0 => Nat.le_refl _
  | q + 1 => by have := badL_le N g h q; unfold badL; split <;> omega

end Go.Proofs.Ytpeocbhnnpppjaa

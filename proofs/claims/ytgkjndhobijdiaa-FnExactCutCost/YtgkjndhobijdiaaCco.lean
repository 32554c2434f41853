/- What a parting costs: numbers; when costs are right. -/
import Derived.Test.YtgkjndhobijdiaaGry
import Derived.Test.YtgkjndhobijdiaaL2b
import Derived.Test.YtgkjndhobijdiaaBes
namespace Go.Proofs.Ytgkjndhobijdiaa
open Go.RowKit

theorem okB_side {W H : Int} {n : Nat} {f : Nat → Int} (h : okB W H n f = true) : (1 ≤ W ∧ W ≤ 64) ∧ (1 ≤ H ∧ H ≤ 64) ∧ (n : Int) = W * H ∧ 1 ≤ n ∧ n ≤ 4096 := by
  obtain ⟨q1, q2, q3, q4⟩ := okB_parts h
  have := prod_bounds q1 q2
  exact ⟨side_bounds q1, side_bounds q2, q3, by omega, by omega⟩
def cutB (W1 H1 : Int) (n1 : Nat) (g : Nat → Int) (W2 H2 : Int) (n2 : Nat) (h : Nat → Int) (lk : Int) : Bool := gryB W1 H1 n1 g 4095 && (gryB W2 H2 n2 h 4095 && (decide (W1 = W2) && (decide (H1 = H2) && inB lk 0 4095)))
theorem cutB_parts {W1 H1 : Int} {n1 : Nat} {g : Nat → Int} {W2 H2 : Int} {n2 : Nat} {h : Nat → Int} {lk : Int} (e : cutB W1 H1 n1 g W2 H2 n2 h lk = true) :
    gryB W1 H1 n1 g 4095 = true ∧ gryB W2 H2 n2 h 4095 = true ∧ W1 = W2 ∧ H1 = H2 ∧ n1 = n2 ∧ (0 ≤ lk ∧ lk ≤ 4095) := by
  unfold cutB inB at e
  simp only [Bool.and_eq_true, decide_eq_true_eq] at e
  obtain ⟨e1, e2, e3, e4, e5⟩ := e
  have a := okB_side (gryB_parts e1).1
  have b := okB_side (gryB_parts e2).1
  subst e3 e4
  exact ⟨e1, e2, rfl, rfl, by omega, e5⟩

/-- to the right, down -/
def ahdF : Nat → Int
  | 0 => 1 | 1 => 0 | 2 => 0 | 3 => 1 | _ => 0
theorem ahdF_bd : ∀ j, j < 2 * 2 → -64 ≤ ahdF j ∧ ahdF j ≤ 64 := by decide
/-- the links of a pixel that are cut, on top of z -/
def lnkS (f : Nat → Int) (lk : Int) (k : Nat) (q v : Int) : Int := if f q.toNat = f k then v else v + lk
def lnkV (W H : Int) (f : Nat → Int) (lk : Int) (k : Nat) (z : Int) (m : Nat) : Int := vis W H k ahdF (fun _ q v => lnkS f lk k q v) z m
def ownC (f g h : Nat → Int) (k : Nat) : Int := if f k = 0 then g k else h k
def cstU (W H : Int) (f g h : Nat → Int) (lk : Int) : Nat → Int
  | 0 => 0
  | k + 1 => lnkV W H f lk k (cstU W H f g h lk k + ownC f g h k) 2
theorem lnkV_bd (W H : Int) (f : Nat → Int) (lk : Int) (k : Nat) (z : Int) (m : Nat) (hl : 0 ≤ lk ∧ lk ≤ 4095) : z ≤ lnkV W H f lk k z m ∧ lnkV W H f lk k z m ≤ z + 4095 * (m : Int) := by
  unfold lnkV
  refine vis_ind (P := fun j v => z ≤ v ∧ v ≤ z + 4095 * (j : Int)) (by omega) ?_ (fun k v _ _ h => by omega)
  intro j v _ _ hv
  unfold lnkS
  split <;> omega
theorem cstU_bd (W H : Int) (f g h : Nat → Int) (lk : Int) (n : Nat) (hg : ∀ k, k < n → 0 ≤ g k ∧ g k ≤ 4095) (hh : ∀ k, k < n → 0 ≤ h k ∧ h k ≤ 4095) (hl : 0 ≤ lk ∧ lk ≤ 4095) : ∀ k, k ≤ n → 0 ≤ cstU W H f g h lk k ∧ cstU W H f g h lk k ≤ 12285 * (k : Int)
  | 0, _ => by simp [cstU]
  | k + 1, hk => by
    have ih := cstU_bd W H f g h lk n hg hh hl k (by omega)
    have h1 := hg k (by omega)
    have h2 := hh k (by omega)
    have h3 := lnkV_bd W H f lk k (cstU W H f g h lk k + ownC f g h k) 2 hl
    have h4 : 0 ≤ ownC f g h k ∧ ownC f g h k ≤ 4095 := by unfold ownC; split <;> omega
    simp only [cstU]
    omega
def cosB (W H : Int) (n : Nat) (f : Nat → Int) (W1 H1 : Int) (n1 : Nat) (g : Nat → Int) (W2 H2 : Int) (n2 : Nat) (h : Nat → Int) (lk : Int) : Bool := maskB W H n f && (cutB W1 H1 n1 g W2 H2 n2 h lk && (decide (W = W1) && decide (H = H1)))
def cstV (W H : Int) (n : Nat) (f : Nat → Int) (W1 H1 : Int) (n1 : Nat) (g : Nat → Int) (W2 H2 : Int) (n2 : Nat) (h : Nat → Int) (lk : Int) : Int := if cosB W H n f W1 H1 n1 g W2 H2 n2 h lk = true then cstU W H f g h lk n else -1

/-- the list's fold -/
def lnkL (f : Nat → Int) (lk : Int) (k : Nat) (z : Int) (L : List Int) : Int := L.foldl (fun v q => if (k : Int) < q ∧ f q.toNat ≠ f k then v + lk else v) z
theorem lnkL_snoc (f : Nat → Int) (lk : Int) (k : Nat) (z : Int) (L : List Int) (q : Int) : lnkL f lk k z (L ++ [q]) = if (k : Int) < q ∧ f q.toNat ≠ f k then lnkL f lk k z L + lk else lnkL f lk k z L := by
  unfold lnkL; rw [List.foldl_append]; rfl
theorem lnkL_nil (f : Nat → Int) (lk : Int) (k : Nat) (z : Int) : lnkL f lk k z [] = z := rfl
theorem lnkL_app (f : Nat → Int) (lk : Int) (k : Nat) (z : Int) (L M : List Int) : lnkL f lk k z (L ++ M) = lnkL f lk k (lnkL f lk k z L) M := by
  unfold lnkL; rw [List.foldl_append]
theorem lnkL_if (f : Nat → Int) (lk : Int) (k : Nat) (z : Int) (p : Prop) [Decidable p] (q : Int) : lnkL f lk k z (if p then [q] else []) = if p ∧ ((k : Int) < q ∧ f q.toNat ≠ f k) then z + lk else z := by
  by_cases hp : p
  · rw [if_pos hp]
    simp only [lnkL, List.foldl, hp, true_and]
  · rw [if_neg hp, if_neg (fun e => hp e.1)]
    rfl
set_option linter.unusedSimpArgs false in
theorem lnk_bes {W H : Int} {n : Nat} (f : Nat → Int) (lk : Int) (k : Nat) (z : Int) (hn : (n : Int) = W * H) (hW : 1 ≤ W) (hk : k < n) : lnkL f lk k z (besL W H k) = lnkV W H f lk k z 2 := by
  have e := Int.mul_ediv_add_emod (k : Int) W
  have r0 : 0 ≤ (k : Int) % W := Int.emod_nonneg _ (by omega)
  have r1 : (k : Int) % W < W := Int.emod_lt_of_pos _ (by omega)
  have hd0 : 0 ≤ (k : Int) / W := Int.ediv_nonneg (by omega) (by omega)
  have hd : (k : Int) / W < H := by
    apply Int.ediv_lt_of_lt_mul (by omega)
    rw [Int.mul_comm, ← hn]; omega
  unfold besL besA besB besC besD lnkV
  rw [lnkL_app, lnkL_app, lnkL_app, lnkL_if, lnkL_if, lnkL_if, lnkL_if]
  simp only [vis]
  have a0 : ahdF (0 * 2) = 1 := rfl
  have a1 : ahdF (0 * 2 + 1) = 0 := rfl
  have a2 : ahdF (1 * 2) = 0 := rfl
  have a3 : ahdF (1 * 2 + 1) = 1 := rfl
  rw [a0, a1, a2, a3]
  have p1 : ((k : Int) / W + 0) * W + (k % W + 1) = k + 1 := by rw [Int.add_zero, Int.mul_comm]; omega
  have p2 : ((k : Int) / W + 1) * W + (k % W + 0) = k + W := by rw [Int.add_mul, Int.mul_comm]; omega
  rw [p1, p2]
  generalize (k : Int) % W = x at *
  generalize (k : Int) / W = y at *
  have b1 : hasB W H (x + 1) (y + 0) = decide (x < W - 1) := by
    unfold hasB inB
    by_cases h : x < W - 1
    · simp [h]; omega
    · simp [h]; omega
  have b2 : hasB W H (x + 0) (y + 1) = decide (y < H - 1) := by
    unfold hasB inB
    by_cases h : y < H - 1
    · simp [h]; omega
    · simp [h]; omega
  rw [b1, b2]
  have g1 : (k : Int) < k + 1 := by omega
  have g2 : (k : Int) < k + W := by omega
  have g3 : ¬ (k : Int) < k - 1 := by omega
  have g4 : ¬ (k : Int) < k - W := by omega
  simp only [g1, g2, g3, g4, true_and, false_and, and_false, if_false, decide_eq_true_eq, lnkS]
  by_cases c1 : x < W - 1 <;> by_cases c2 : y < H - 1 <;> by_cases c3 : f ((k : Int) + 1).toNat = f k <;> by_cases c4 : f ((k : Int) + W).toNat = f k <;> simp [c1, c2, c3, c4]

set_option maxRecDepth 100000 in
set_option maxHeartbeats 2000000 in
theorem sameSize_any (W H : Int) (a : Option Addr) (n cap : Nat) (W1 H1 : Int) (a1 : Option Addr) (n1 cap1 : Nat) (w : World) :
    Calls Try.prog 78 #[im W H a n cap, im W1 H1 a1 n1 cap1] w fun e w' => e = .returned (.bool (decide (W = W1) && decide (H = H1))) ∧ Below w.heap.size w w' := by
  have HS0 := hide (((St.start w).box [.int .i64 W, .int .i64 H, .slice a n cap] 30).box' [.int .i64 W1, .int .i64 H1, .slice a1 n1 cap1] 30 (b := w.heap.size + 1) (by simp))
  by_cases h1 : W = W1
  · subst h1
    by_cases h2 : H = H1
    · subst h2
      go_enter Try.func78, Try.ntmps78
      go_wp2_with fail
      go_ret
      exact ⟨by simp, HS0.out.below⟩
    · have t : (H == H1) = false := by simp [h2]
      go_enter Try.func78, Try.ntmps78
      go_wp2_with fail
      go_ret
      exact ⟨by simp [h2], HS0.out.below⟩
  · have t : (W == W1) = false := by simp [h1]
    go_enter Try.func78, Try.ntmps78
    go_wp2_with fail
    go_ret
    exact ⟨by simp [h1], HS0.out.below⟩

end Go.Proofs.Ytgkjndhobijdiaa

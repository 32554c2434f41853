/- Refutes: numbers alone; the library's Min. -/
import Derived.Test.YtadbniademamhaaKep
import Derived.Test.YtadbniademamhaaUpd
import Derived.Lib.MinMax
namespace Go.Proofs.Ytadbniademamhaa
open Go.RowKit

/-- the weighted sum at place q of the first k bounds, of L places -/
def wsA (F : Nat → Nat → Int) (wt : Nat → Int) (L q k : Nat) : Int := if q < L then dotS wt (fun i => F i q) k else 0
/-- while bound k is added, up to place p -/
def wsM (F : Nat → Nat → Int) (wt : Nat → Int) (L k p q : Nat) : Int := if q < p then wsA F wt L q (k + 1) else wsA F wt L q k
theorem wsA_0 (F : Nat → Nat → Int) (wt : Nat → Int) (L q : Nat) : wsA F wt L q 0 = 0 := by unfold wsA dotS; split <;> rfl
theorem wsM_0 (F : Nat → Nat → Int) (wt : Nat → Int) (L k q : Nat) : wsM F wt L k 0 q = wsA F wt L q k := by unfold wsM; rw [if_neg (by omega)]
theorem wsM_L (F : Nat → Nat → Int) (wt : Nat → Int) (L k q : Nat) : wsM F wt L k L q = wsA F wt L q (k + 1) := by
  unfold wsM
  by_cases h : q < L
  · rw [if_pos h]
  · rw [if_neg h]; unfold wsA; rw [if_neg h, if_neg h]
theorem wsM_here {F : Nat → Nat → Int} {wt : Nat → Int} {L k p : Nat} (h : p < L) : wsM F wt L k p p + wt k * F k p = wsA F wt L p (k + 1) := by
  unfold wsM wsA
  rw [if_neg (by omega), if_pos h, if_pos h]
  rfl
theorem wsM_next (F : Nat → Nat → Int) (wt : Nat → Int) (L k p q : Nat) : updN (wsM F wt L k p) p (wsA F wt L p (k + 1)) q = wsM F wt L k (p + 1) q := by
  unfold updN wsM
  by_cases e : q = p
  · subst e
    rw [if_pos rfl, if_pos (by omega)]
  · rw [if_neg e]
    by_cases hq : q < p
    · rw [if_pos hq, if_pos (by omega)]
    · rw [if_neg hq, if_neg (by omega)]
theorem wprod_bd {a x : Int} (h0 : 0 ≤ a) (h1 : a ≤ 1000) (h2 : -1000 ≤ x) (h3 : x ≤ 1000) : -1000000 ≤ a * x ∧ a * x ≤ 1000000 := by
  have := natb (a := a) (b := x) (P := 1000) (Q := 1000) (by omega) (by omega)
  omega
theorem wsA_bd {F : Nat → Nat → Int} {wt : Nat → Int} {L q : Nat} : ∀ k, (∀ i, i < k → q < L → -1000000 ≤ wt i * F i q ∧ wt i * F i q ≤ 1000000) → -(k * 1000000) ≤ wsA F wt L q k ∧ wsA F wt L q k ≤ k * 1000000 := fun k h => by
  unfold wsA
  by_cases hq : q < L
  · rw [if_pos hq]
    exact dotS_bd (M := 1000000) (by omega) k (fun i hi => h i hi hq)
  · rw [if_neg hq]; omega
/-- do the weights refute -/
def refB (m : Nat) (ln : Nat → Nat) (F : Nat → Nat → Int) (Bv : Nat → Int) (n : Nat) (wt : Nat → Int) : Bool :=
  bdB m ln F Bv && (decide (n = m) && (alW wt 0 1000 n && (allG (fun q => decide (0 ≤ wsA F wt (ln 0) q m)) (ln 0) && decide (dotS wt Bv m < 0))))

/-- the least of the first k numbers -/
def mnS (s : Nat → Int) : Nat → Int
  | 0 => s 0
  | k + 1 => min (mnS s k) (s k)
theorem mnS_all (s : Nat → Int) : ∀ k, 0 < k → (decide (0 ≤ mnS s k) = allG (fun q => decide (0 ≤ s q)) k)
  | 1, _ => by
    show decide (0 ≤ min (s 0) (s 0)) = (true && decide (0 ≤ s 0))
    rw [Int.min_self, Bool.true_and]
  | k + 2, _ => by
    have ih := mnS_all s (k + 1) (by omega)
    show decide (0 ≤ min (mnS s (k + 1)) (s (k + 1))) = (allG _ (k + 1) && decide (0 ≤ s (k + 1)))
    rw [← ih]
    by_cases h1 : 0 ≤ mnS s (k + 1) <;> by_cases h2 : 0 ≤ s (k + 1)
    · have : 0 ≤ min (mnS s (k + 1)) (s (k + 1)) := by omega
      simp [h1, h2, this]
    · have : ¬ 0 ≤ min (mnS s (k + 1)) (s (k + 1)) := by omega
      simp [h2, this]
    · have : ¬ 0 ≤ min (mnS s (k + 1)) (s (k + 1)) := by omega
      simp [h1, this]
    · have : ¬ 0 ≤ min (mnS s (k + 1)) (s (k + 1)) := by omega
      simp [h1, this]

set_option maxRecDepth 100000 in
set_option maxHeartbeats 4000000 in
theorem min_any (a : Option Addr) (n cap : Nat) (s : Nat → Int) (h0 : 0 < n) (hl : n ≤ 1048576) (w : World) (h : Px a n s w) :
    Calls Try.prog 18 #[.slice a n cap] w fun e w' => e = .returned (.int .i64 (mnS s n)) ∧ w' = w := by
  have HP := hide h
  obtain ⟨b, off, rfl, z0'⟩ := h.at h0
  have z0 : w.cell? ⟨b, off, none⟩ = some (.int .i64 (s 0)) := z0'
  have h1 : ¬ (n : Int) < 1 := by omega
  have h2 : (0 : Int) < (n : Int) := by omega
  clear h z0'
  go_enter Try.func18, Try.ntmps18
  go_wp2_with fail
  clear z0
  go_loop [3, 4] (fun v i => ∃ k : Nat, 1 ≤ k ∧ k ≤ n ∧ i = .int .i64 k ∧ v = .int .i64 (mnS s k)) (fun _ i => n - (intOf i).toNat)
  case atStart => exact ⟨1, by omega, by omega, rfl, by show _ = Value.int .i64 (min (s 0) (s 0)); rw [Int.min_self]⟩
  case round =>
    obtain ⟨k, hk1, hk, rfl, rfl⟩ := hrel
    by_cases hlt : k < n
    · obtain ⟨b', off', heq, z⟩ := HP.out.at hlt
      cases heq
      have HY : Hid (mnS s (k + 1) = min (mnS s k) (s k)) := rfl
      clear HP
      generalize mnS s k = X at *
      generalize s k = Y at *
      go_wp2_with fail
      exact ⟨⟨k + 1, by omega, by omega, rfl, by rw [HY.out]⟩, by simp [intOf]; omega⟩
    · obtain rfl : k = n := by omega
      clear HP
      go_wp2_with fail
      go_ret
      exact ⟨rfl, rfl⟩

end Go.Proofs.Ytadbniademamhaa

/- Doses of organs, and goals: numbers alone. -/
import Derived.Test.YtfpeobkncileiaaGol
import Derived.Test.YtfpeobkncileiaaLvn
namespace Go.Proofs.Ytfpeobkncileiaa
open Go.RowKit

/-- are they doses and organs -/
def dsB (m p : Nat) (f : Nat → Int) : Bool := decide (m = p) && (decide (m ≤ 1024) && alW f 0 1000000000 m)
theorem dsB_parts {m p : Nat} {f : Nat → Int} (h : dsB m p f = true) : p = m ∧ m ≤ 1024 ∧ ∀ k, k < m → 0 ≤ f k ∧ f k ≤ 1000000000 := by
  unfold dsB at h
  rw [Bool.and_eq_true, Bool.and_eq_true, decide_eq_true_eq, decide_eq_true_eq] at h
  exact ⟨h.1.symm, h.2.1, fun k hk => inB_iff.1 (alW_at h.2.2 hk)⟩
/-- are they goals -/
def gsB (n : Nat) (g : Nat → Int) : Bool := decide (n ≤ 64) && allG (fun i => gokB (g (i * 4)) (g (i * 4 + 2)) (g (i * 4 + 3))) n
theorem gsB_parts {n : Nat} {g : Nat → Int} (h : gsB n g = true) : n ≤ 64 ∧ ∀ i, i < n → gokB (g (i * 4)) (g (i * 4 + 2)) (g (i * 4 + 3)) = true := by
  unfold gsB at h
  rw [Bool.and_eq_true, decide_eq_true_eq] at h
  exact ⟨h.1, fun i hi => allG_at h.2 i hi⟩
/-- how many of the first k are above l, below l -/
def cA (s : Nat → Int) (l : Int) : Nat → Int
  | 0 => 0
  | k + 1 => cA s l k + (if l < s k then 1 else 0)
def cB (s : Nat → Int) (l : Int) : Nat → Int
  | 0 => 0
  | k + 1 => cB s l k + (if s k < l then 1 else 0)
theorem cA_bd (s : Nat → Int) (l : Int) : ∀ k, 0 ≤ cA s l k ∧ cA s l k ≤ k
  | 0 => by simp [cA]
  | k + 1 => by have := cA_bd s l k; unfold cA; split <;> omega
theorem cB_bd (s : Nat → Int) (l : Int) : ∀ k, 0 ≤ cB s l k ∧ cB s l k ≤ k
  | 0 => by simp [cB]
  | k + 1 => by have := cB_bd s l k; unfold cB; split <;> omega
theorem cA_congr {s t : Nat → Int} (l : Int) : ∀ k, (∀ q, q < k → s q = t q) → cA s l k = cA t l k
  | 0, _ => rfl
  | k + 1, h => by unfold cA; rw [cA_congr l k (fun q hq => h q (by omega)), h k (by omega)]
theorem cB_congr {s t : Nat → Int} (l : Int) : ∀ k, (∀ q, q < k → s q = t q) → cB s l k = cB t l k
  | 0, _ => rfl
  | k + 1, h => by unfold cB; rw [cB_congr l k (fun q hq => h q (by omega)), h k (by omega)]
theorem getD_app_lt {L : List Int} {x : Int} {q : Nat} (h : q < L.length) : (L ++ [x]).getD q 0 = L.getD q 0 := by
  simp only [List.getD]
  rw [List.getElem?_append_left h]
theorem getD_app_at (L : List Int) (x : Int) : (L ++ [x]).getD L.length 0 = x := by simp [List.getD]
/-- the doses of an organ -/
def doL (f g : Nat → Int) (o : Int) : Nat → List Int
  | 0 => []
  | k + 1 => if g k = o then doL f g o k ++ [f k] else doL f g o k
theorem doL_pos {f g : Nat → Int} {o : Int} {k : Nat} (h : g k = o) : doL f g o (k + 1) = doL f g o k ++ [f k] := if_pos h
theorem doL_neg {f g : Nat → Int} {o : Int} {k : Nat} (h : ¬ g k = o) : doL f g o (k + 1) = doL f g o k := if_neg h
theorem doL_len (f g : Nat → Int) (o : Int) : ∀ k, (doL f g o k).length ≤ k
  | 0 => by simp [doL]
  | k + 1 => by
    have := doL_len f g o k
    unfold doL
    split
    · simp; omega
    · omega
def hiA (f g : Nat → Int) (o l : Int) : Nat → Int
  | 0 => 0
  | k + 1 => hiA f g o l k + (if g k = o ∧ l < f k then 1 else 0)
def hiB (f g : Nat → Int) (o l : Int) : Nat → Int
  | 0 => 0
  | k + 1 => hiB f g o l k + (if g k = o ∧ f k < l then 1 else 0)
theorem hiA_bd (f g : Nat → Int) (o l : Int) : ∀ k, 0 ≤ hiA f g o l k ∧ hiA f g o l k ≤ k
  | 0 => by simp [hiA]
  | k + 1 => by have := hiA_bd f g o l k; unfold hiA; split <;> omega
theorem hiB_bd (f g : Nat → Int) (o l : Int) : ∀ k, 0 ≤ hiB f g o l k ∧ hiB f g o l k ≤ k
  | 0 => by simp [hiB]
  | k + 1 => by have := hiB_bd f g o l k; unfold hiB; split <;> omega
theorem hiA_eq (f g : Nat → Int) (o l : Int) : ∀ k, cA (fun q => (doL f g o k).getD q 0) l (doL f g o k).length = hiA f g o l k
  | 0 => rfl
  | k + 1 => by
    have ih := hiA_eq f g o l k
    unfold doL hiA
    by_cases h : g k = o
    · rw [if_pos h, List.length_append, List.length_singleton]
      unfold cA
      rw [cA_congr (t := fun q => (doL f g o k).getD q 0) l _ (fun q hq => getD_app_lt hq), ih, getD_app_at]
      simp [h]
    · rw [if_neg h, ih, if_neg (fun hh => h hh.1)]; omega
theorem hiB_eq (f g : Nat → Int) (o l : Int) : ∀ k, cB (fun q => (doL f g o k).getD q 0) l (doL f g o k).length = hiB f g o l k
  | 0 => rfl
  | k + 1 => by
    have ih := hiB_eq f g o l k
    unfold doL hiB
    by_cases h : g k = o
    · rw [if_pos h, List.length_append, List.length_singleton]
      unfold cB
      rw [cB_congr (t := fun q => (doL f g o k).getD q 0) l _ (fun q hq => getD_app_lt hq), ih, getD_app_at]
      simp [h]
    · rw [if_neg h, ih, if_neg (fun hh => h hh.1)]; omega
/-- is a goal missed, met -/
def misB (kd c a b : Int) : Bool := (decide (kd = 1) && decide (0 < a)) || ((decide (kd = 2) && decide (0 < b)) || (decide (kd = 3) && decide (c < a)))
def metB (kd c a b : Int) : Bool := if kd = 2 then decide (b = 0) else decide (a ≤ c)
theorem mis_met {kd l c a b : Int} (h : gokB kd l c = true) (hb : 0 ≤ b) : misB kd c a b = !metB kd c a b := by
  unfold gokB at h
  rw [Bool.and_eq_true, Bool.and_eq_true, Bool.and_eq_true, inB_iff, inB_iff, inB_iff, Bool.or_eq_true, decide_eq_true_eq, decide_eq_true_eq] at h
  obtain ⟨⟨h1, h2⟩, -, ⟨h3, -⟩, h4⟩ := h
  unfold misB metB
  have hk : kd = 1 ∨ kd = 2 ∨ kd = 3 := by omega
  rcases hk with rfl | rfl | rfl
  · have hc : c = 0 := by omega
    subst hc
    by_cases ha : 0 < a
    · have : ¬ a ≤ 0 := by omega
      simp [ha, this]
    · have : a ≤ 0 := by omega
      simp [ha, this]
  · by_cases hb0 : 0 < b
    · have : ¬ b = 0 := by omega
      simp [hb0, this]
    · have : b = 0 := by omega
      simp [this]
  · by_cases ha : c < a
    · have : ¬ a ≤ c := by omega
      simp [ha, this]
    · have : a ≤ c := by omega
      simp [ha, this]
/-- the goals that are missed -/
def msB (f g gl : Nat → Int) (m k : Nat) : Bool := misB (gl (k * 4)) (gl (k * 4 + 3)) (hiA f g (gl (k * 4 + 1)) (gl (k * 4 + 2)) m) (hiB f g (gl (k * 4 + 1)) (gl (k * 4 + 2)) m)
def msL (f g gl : Nat → Int) (m : Nat) : Nat → List Int
  | 0 => []
  | k + 1 => if msB f g gl m k = true then msL f g gl m k ++ [(k : Int)] else msL f g gl m k
theorem msL_pos {f g gl : Nat → Int} {m k : Nat} (h : msB f g gl m k = true) : msL f g gl m (k + 1) = msL f g gl m k ++ [(k : Int)] := if_pos h
theorem msL_neg {f g gl : Nat → Int} {m k : Nat} (h : msB f g gl m k = false) : msL f g gl m (k + 1) = msL f g gl m k := if_neg (by rw [h]; simp)
theorem msL_len (f g gl : Nat → Int) (m : Nat) : ∀ k, (msL f g gl m k).length ≤ k
  | 0 => by simp [msL]
  | k + 1 => by
    have := msL_len f g gl m k
    unfold msL
    split
    · simp; omega
    · omega
def mzB (m p n : Nat) (f gl : Nat → Int) : Bool := dsB m p f && gsB n gl
def mzN (m p n : Nat) (f g gl : Nat → Int) : Nat := if mzB m p n f gl = true then (msL f g gl m n).length else 0
theorem mzN_le (m p n : Nat) (f g gl : Nat → Int) (hn : n ≤ 1048576) : mzN m p n f g gl ≤ 1048576 := by
  unfold mzN
  have := msL_len f g gl m n
  split <;> omega

/-- a list by its list -/
theorem LsR.ofL {w w' : World} {v : Value} {n : Nat} {L : List Int} (h : w'.ownsRow w.heap.size 2 1 v n (ints L)) (hb : Below w.heap.size w w') : LsR n (fun q => L.getD q 0) w (.returned v) w' := by
  by_cases hn : 0 < n
  · obtain ⟨a, cap, b, hv, ho, hB, _⟩ := ow_of_some h hn
    rw [Nat.mul_one] at ho
    exact ⟨a, cap, b, by rw [hv], ho, .inr hB, hb⟩
  · obtain ⟨hlen, hv | ⟨b, cap, cur, hv, _⟩⟩ := h
    · obtain ⟨rfl, rfl⟩ := hv
      exact ⟨_, _, 0, rfl, .inl (by omega), .inl (by omega), hb⟩
    · obtain rfl : n = 0 := by omega
      exact ⟨_, _, 0, by rw [hv], .inl rfl, .inl rfl, hb⟩

end Go.Proofs.Ytfpeobkncileiaa

/- Leaves give the row again, with as many units as it has steps up, and no leaves have fewer: numbers alone. -/
import Derived.Test.YtfpeobkncileiaaLln
namespace Go.Proofs.Ytfpeobkncileiaa
open Go.RowKit

/-- the steps up of the first k, from a beginning -/
def upS (f : Nat → Int) : Nat → Int
  | 0 => 0
  | k + 1 => upS f k + (if (if k = 0 then 0 else f (k - 1)) < f k then f k - (if k = 0 then 0 else f (k - 1)) else 0)
/-- what stands ahead of place k -/
def pre1 (f : Nat → Int) (k : Nat) : Int := if k = 0 then 0 else f (k - 1)
theorem upS_step (f : Nat → Int) (k : Nat) : upS f (k + 1) = upS f k + (if pre1 f k < f k then f k - pre1 f k else 0) := rfl
theorem upS_congr {f g : Nat → Int} : ∀ {n : Nat}, (∀ k, k < n → f k = g k) → upS f n = upS g n
  | 0, _ => rfl
  | n + 1, h => by
    rw [upS_step, upS_step, upS_congr (fun k hk => h k (by omega)), h n (by omega)]
    have : pre1 f n = pre1 g n := by
      unfold pre1
      by_cases h0 : n = 0
      · rw [if_pos h0, if_pos h0]
      · rw [if_neg h0, if_neg h0, h (n - 1) (by omega)]
    rw [this]
theorem upS_bd {f : Nat → Int} {B : Int} (hB : 0 ≤ B) : ∀ n, (∀ k, k < n → 0 ≤ f k ∧ f k ≤ B) → 0 ≤ upS f n ∧ upS f n ≤ B * n
  | 0, _ => by simp [upS]
  | n + 1, h => by
    have ih := upS_bd hB n (fun k hk => h k (by omega))
    have h1 := h n (by omega)
    have h2 : 0 ≤ pre1 f n := by
      unfold pre1
      split
      · omega
      · exact (h (n - 1) (by omega)).1
    rw [upS_step, show B * ((n + 1 : Nat) : Int) = B * n + B by rw [Int.natCast_add, Int.mul_add]; simp]
    split <;> omega
/-- no leaves have fewer units than their row has steps up -/
theorem up_leaf {l r u : Int} (hu : 0 ≤ u) (hlr : l < r) (hl : 0 ≤ l) : ∀ n : Nat, upS (fun q => if l ≤ (q : Int) ∧ (q : Int) < r then u else 0) n = if l < (n : Int) then u else 0
  | 0 => by rw [if_neg (by omega)]; rfl
  | n + 1 => by
    rw [upS_step, up_leaf hu hlr hl n]
    by_cases h0 : n = 0
    · subst h0
      rw [show pre1 (fun q : Nat => if l ≤ (q : Int) ∧ (q : Int) < r then u else 0) 0 = 0 from rfl]
      repeat' split
      all_goals omega
    · unfold pre1
      rw [if_neg h0]
      have e : ((n - 1 : Nat) : Int) = (n : Int) - 1 := by omega
      simp only [e]
      repeat' split
      all_goals omega
theorem upS_add (f g : Nat → Int) : ∀ n, upS (fun q => f q + g q) n ≤ upS f n + upS g n
  | 0 => by simp [upS]
  | n + 1 => by
    have ih := upS_add f g n
    rw [upS_step, upS_step, upS_step]
    have : pre1 (fun q => f q + g q) n = pre1 f n + pre1 g n := by
      unfold pre1
      by_cases h0 : n = 0
      · simp [h0]
      · simp [h0]
    rw [this]
    repeat' split
    all_goals omega
theorem up_units {n : Int} {f : Nat → Int} : ∀ (m : Nat), (∀ i, i < m → lfB n f i = true) → ∀ N : Nat, upS (fun q => gvS f q m) N ≤ uS f m
  | 0, _, N => by
    have : upS (fun q => gvS f q 0) N = upS (fun _ => 0) N := rfl
    rw [this]
    have h0 : ∀ N, upS (fun _ => 0) N = 0 := fun N => by
      induction N with
      | zero => rfl
      | succ k ih => rw [upS_step, ih]; unfold pre1; split <;> simp
    rw [h0]
    exact Int.le_refl _
  | m + 1, h, N => by
    have h2 := lfB_iff.1 (h m (by omega))
    have ih := up_units m (fun i hi => h i (by omega)) N
    have ha := upS_add (fun q => gvS f q m) (fun q => if f (m * 3) ≤ (q : Int) ∧ (q : Int) < f (m * 3 + 1) then f (m * 3 + 2) else 0) N
    have hl := up_leaf (l := f (m * 3)) (r := f (m * 3 + 1)) (u := f (m * 3 + 2)) (by omega) h2.2.1 h2.1 N
    have e : upS (fun q => gvS f q (m + 1)) N = upS (fun q => gvS f q m + (if f (m * 3) ≤ (q : Int) ∧ (q : Int) < f (m * 3 + 1) then f (m * 3 + 2) else 0)) N := rfl
    rw [e]
    unfold uS
    split at hl <;> omega

/-- how many of the list are at most q -/
def cLe (L : List Int) (q : Int) : Nat := (L.filter (fun x => decide (x ≤ q))).length
theorem cLe_app (L M : List Int) (q : Int) : cLe (L ++ M) q = cLe L q + cLe M q := by unfold cLe; rw [List.filter_append, List.length_append]
theorem cLe_rep (t : Nat) (x q : Int) : cLe (List.replicate t x) q = if x ≤ q then t else 0 := by
  unfold cLe
  by_cases h : x ≤ q
  · rw [if_pos h, List.filter_replicate]; simp [h]
  · rw [if_neg h, List.filter_replicate]; simp [h]
theorem cLe_up (g : Nat → Int) (q : Nat) : ∀ k, q + 1 ≤ k → cLe (upL g k) q = (upL g (q + 1)).length := by
  have lo : ∀ k, k ≤ q + 1 → cLe (upL g k) q = (upL g k).length := fun k => by
    induction k with
    | zero => intro _; rfl
    | succ k ih =>
      intro hk
      unfold upL
      rw [cLe_app, cLe_rep, if_pos (by omega), ih (by omega), List.length_append, List.length_replicate]
  intro k
  induction k with
  | zero => intro h; omega
  | succ k ih =>
    intro hk
    by_cases h : k = q
    · subst h; exact lo _ (Nat.le_refl _)
    · unfold upL
      rw [cLe_app, cLe_rep, if_neg (by omega), ih (by omega)]
      rfl
theorem cLe_dn (g : Nat → Int) (q : Nat) : ∀ k, q + 1 ≤ k → cLe (dnL g k) q = (dnL g (q + 1)).length := by
  have lo : ∀ k, k ≤ q + 1 → cLe (dnL g k) q = (dnL g k).length := fun k => by
    induction k with
    | zero => intro _; rfl
    | succ k ih =>
      intro hk
      unfold dnL
      rw [cLe_app, cLe_rep, if_pos (by omega), ih (by omega), List.length_append, List.length_replicate]
  intro k
  induction k with
  | zero => intro h; omega
  | succ k ih =>
    intro hk
    by_cases h : k = q
    · subst h; exact lo _ (Nat.le_refl _)
    · unfold dnL
      rw [cLe_app, cLe_rep, if_neg (by omega), ih (by omega)]
      rfl
/-- what the first k openings give at a place -/
def opS (U D : List Int) (q : Nat) : Nat → Int
  | 0 => 0
  | k + 1 => opS U D q k + (if U.getD k 0 ≤ (q : Int) ∧ (q : Int) < D.getD k 0 then 1 else 0)
theorem gvS_congr {f g : Nat → Int} (q : Nat) : ∀ {m : Nat}, (∀ j, j < m * 3 → f j = g j) → gvS f q m = gvS g q m
  | 0, _ => rfl
  | m + 1, h => by
    unfold gvS
    rw [gvS_congr q (fun j hj => h j (by omega)), h (m * 3) (by omega), h (m * 3 + 1) (by omega), h (m * 3 + 2) (by omega)]
theorem uS_congr {f g : Nat → Int} : ∀ {m : Nat}, (∀ j, j < m * 3 → f j = g j) → uS f m = uS g m
  | 0, _ => rfl
  | m + 1, h => by
    unfold uS
    rw [uS_congr (fun j hj => h j (by omega)), h (m * 3 + 2) (by omega)]
theorem getD_app_l {L M : List Int} {j : Nat} (h : j < L.length) : (L ++ M).getD j 0 = L.getD j 0 := by
  simp only [List.getD]
  rw [List.getElem?_append_left h]
theorem getD_app_r {L M : List Int} (j : Nat) : (L ++ M).getD (L.length + j) 0 = M.getD j 0 := by
  simp only [List.getD]
  rw [List.getElem?_append_right (by omega), Nat.add_sub_cancel_left]
theorem getD_set_o {L : List Int} {i j : Nat} (x : Int) (h : i ≠ j) : (L.set i x).getD j 0 = L.getD j 0 := by
  simp only [List.getD]
  rw [List.getElem?_set_ne h]
theorem getD_set_s {L : List Int} {i : Nat} (x : Int) (h : i < L.length) : (L.set i x).getD i 0 = x := by
  simp only [List.getD]
  rw [List.getElem?_set_self h]
  rfl
theorem las_parts {G : List Int} {u d : Int} (h : lasB G u d = true) : 0 < G.length ∧ G.getD (G.length - 3) 0 = u ∧ G.getD (G.length - 2) 0 = d := by
  unfold lasB at h
  simpa using h
/-- what is gathered gives what the openings give, and has as many units -/
theorem gat_gv (U D : List Int) (q : Nat) : ∀ k, gvS (fun j => (gat U D k).getD j 0) q (gtc U D k) = opS U D q k ∧ uS (fun j => (gat U D k).getD j 0) (gtc U D k) = k
  | 0 => ⟨rfl, rfl⟩
  | k + 1 => by
    obtain ⟨ih1, ih2⟩ := gat_gv U D q k
    have hl := (gat_len U D k).1
    cases h : lasB (gat U D k) (U.getD k 0) (D.getD k 0)
    · rw [(gat_f h).1, (gat_f h).2]
      generalize gat U D k = G at *
      generalize gtc U D k = c at *
      have a0 : (G ++ [U.getD k 0, D.getD k 0, 1]).getD (c * 3) 0 = U.getD k 0 := by rw [← hl]; exact getD_app_r 0
      have a1 : (G ++ [U.getD k 0, D.getD k 0, 1]).getD (c * 3 + 1) 0 = D.getD k 0 := by rw [← hl]; exact getD_app_r 1
      have a2 : (G ++ [U.getD k 0, D.getD k 0, 1]).getD (c * 3 + 2) 0 = 1 := by rw [← hl]; exact getD_app_r 2
      have lo : ∀ j, j < c * 3 → (G ++ [U.getD k 0, D.getD k 0, 1]).getD j 0 = G.getD j 0 := fun j hj => getD_app_l (by omega)
      refine ⟨?_, ?_⟩
      · unfold gvS opS
        rw [gvS_congr (g := fun j => G.getD j 0) q lo, ih1, a0, a1, a2]
      · unfold uS
        rw [uS_congr (g := fun j => G.getD j 0) lo, ih2, a2]
        omega
    · rw [(gat_t h).1, (gat_t h).2]
      obtain ⟨g0, g1, g2⟩ := las_parts h
      generalize gat U D k = G at *
      generalize gtc U D k = c at *
      obtain ⟨c', rfl⟩ : ∃ c', c = c' + 1 := ⟨c - 1, by omega⟩
      rw [show G.length - 3 = c' * 3 by omega] at g1
      rw [show G.length - 2 = c' * 3 + 1 by omega] at g2
      rw [show G.length - 1 = c' * 3 + 2 by omega]
      have lo : ∀ j, j < c' * 3 → (G.set (c' * 3 + 2) (G.getD (c' * 3 + 2) 0 + 1)).getD j 0 = G.getD j 0 := fun j hj => getD_set_o _ (by omega)
      have a0 := getD_set_o (L := G) (i := c' * 3 + 2) (j := c' * 3) (G.getD (c' * 3 + 2) 0 + 1) (by omega)
      have a1 := getD_set_o (L := G) (i := c' * 3 + 2) (j := c' * 3 + 1) (G.getD (c' * 3 + 2) 0 + 1) (by omega)
      have a2 := getD_set_s (L := G) (i := c' * 3 + 2) (G.getD (c' * 3 + 2) 0 + 1) (by omega)
      unfold gvS at ih1
      unfold uS at ih2
      refine ⟨?_, ?_⟩
      · unfold gvS opS
        rw [gvS_congr (g := fun j => G.getD j 0) q lo, a0, a1, a2, ← ih1, g1, g2]
        split <;> omega
      · unfold uS
        rw [uS_congr (g := fun j => G.getD j 0) lo, a2]
        omega
theorem take_step {L : List Int} {k : Nat} (h : k < L.length) : L.take (k + 1) = L.take k ++ [L.getD k 0] := by
  rw [List.take_add_one, List.getElem?_eq_getElem h]
  simp [List.getD, h]
/-- each leaf that is gathered: whence it comes, and its units -/
theorem gat_leaf (U D : List Int) : ∀ k, k ≤ U.length → ∀ i, i < gtc U D k → ∃ j, j < k ∧ (gat U D k).getD (i * 3) 0 = U.getD j 0 ∧ (gat U D k).getD (i * 3 + 1) 0 = D.getD j 0 ∧ 1 ≤ (gat U D k).getD (i * 3 + 2) 0 ∧ (gat U D k).getD (i * 3 + 2) 0 ≤ ((U.take k).count (U.getD j 0) : Int)
  | 0, _, i, hi => by simp [gtc] at hi
  | k + 1, hk, i, hi => by
    have ih := gat_leaf U D k (by omega)
    have hl := (gat_len U D k).1
    have hts := take_step (L := U) (k := k) (by omega)
    have mono : ∀ x, ((U.take k).count x : Int) ≤ ((U.take (k + 1)).count x : Int) := fun x => by
      rw [hts, List.count_append]
      omega
    have own : ((U.take (k + 1)).count (U.getD k 0) : Int) = ((U.take k).count (U.getD k 0) : Int) + 1 := by
      rw [hts, List.count_append, List.count_singleton_self]
      omega
    cases h : lasB (gat U D k) (U.getD k 0) (D.getD k 0)
    · rw [(gat_f h).1]
      rw [(gat_f h).2] at hi
      generalize gat U D k = G at *
      generalize gtc U D k = c at *
      by_cases hc : i < c
      · obtain ⟨j, hj, e0, e1, e2, e3⟩ := ih i hc
        refine ⟨j, by omega, ?_, ?_, ?_, ?_⟩
        · rw [getD_app_l (by omega)]; exact e0
        · rw [getD_app_l (by omega)]; exact e1
        · rw [getD_app_l (by omega)]; exact e2
        · rw [getD_app_l (by omega)]; exact Int.le_trans e3 (mono _)
      · obtain rfl : i = c := by omega
        rw [← hl]
        refine ⟨k, by omega, getD_app_r 0, getD_app_r 1, ?_, ?_⟩
        · rw [getD_app_r 2]; exact Int.le_refl _
        · rw [getD_app_r 2, own]
          show (1 : Int) ≤ _
          omega
    · rw [(gat_t h).1]
      rw [(gat_t h).2] at hi
      obtain ⟨g0, g1, g2⟩ := las_parts h
      generalize gat U D k = G at *
      generalize gtc U D k = c at *
      obtain ⟨j, hj, e0, e1, e2, e3⟩ := ih i hi
      by_cases hc : i + 1 = c
      · subst hc
        rw [show G.length - 1 = i * 3 + 2 by omega]
        rw [show G.length - 3 = i * 3 by omega] at g1
        rw [show G.length - 2 = i * 3 + 1 by omega] at g2
        have ej : U.getD j 0 = U.getD k 0 := by rw [← e0, g1]
        refine ⟨k, by omega, ?_, ?_, ?_, ?_⟩
        · rw [getD_set_o _ (by omega)]; exact g1
        · rw [getD_set_o _ (by omega)]; exact g2
        · rw [getD_set_s _ (by omega)]; omega
        · rw [getD_set_s _ (by omega), own]
          rw [ej] at e3
          omega
      · rw [show G.length - 1 = (c - 1) * 3 + 2 by omega]
        refine ⟨j, by omega, ?_, ?_, ?_, ?_⟩
        · rw [getD_set_o _ (by omega)]; exact e0
        · rw [getD_set_o _ (by omega)]; exact e1
        · rw [getD_set_o _ (by omega)]; exact e2
        · rw [getD_set_o _ (by omega)]; exact Int.le_trans e3 (mono _)

end Go.Proofs.Ytfpeobkncileiaa

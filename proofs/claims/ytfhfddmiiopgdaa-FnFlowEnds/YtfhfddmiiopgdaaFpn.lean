/- Acts one behind the other, in numbers: the flow stays right. -/
import Derived.Test.YtfhfddmiiopgdaaFlb
namespace Go.Proofs.Ytfhfddmiiopgdaa
open Go.RowKit

/-- a flow that acts may be done upon, in numbers -/
structure OkF (c : Int) (n : Nat) (L : List Int) : Prop where
  hn : n ≤ 500
  hc : 0 ≤ c ∧ c ≤ 1000000000
  hr : risL L n
  hl : L.length = n * 4

theorem gL_ins {L : List Int} {n p : Nat} {x a b d : Int} (hl : L.length = n * 4) (hp : p ≤ n) (i : Nat) :
    gL (insL L p [x, a, b, d]) (i * 4) = if i < p then gL L (i * 4) else if i = p then x else gL L ((i - 1) * 4) := by
  have h1 : (L.take (p * 4)).length = p * 4 := by rw [List.length_take]; omega
  unfold gL insL
  rw [List.getD_eq_getElem?_getD]
  by_cases q1 : i < p
  · rw [if_pos q1, List.append_assoc, List.getElem?_append_left (by omega), List.getElem?_take_of_lt (by omega), List.getD_eq_getElem?_getD]
  · rw [if_neg q1, List.append_assoc, List.getElem?_append_right (by omega), h1]
    by_cases q2 : i = p
    · subst q2
      rw [if_pos rfl, Nat.sub_self]; rfl
    · rw [if_neg q2, List.getElem?_append_right (by simp; omega), List.getElem?_drop, List.getD_eq_getElem?_getD]
      congr 2
      simp; omega
theorem ris_ins {L : List Int} {n p : Nat} {x a b d : Int} (hl : L.length = n * 4) (hr : risL L n) (hp : isPl (gL L) n x p) (hf : ¬ (p < n ∧ gL L (p * 4) = x)) : risL (insL L p [x, a, b, d]) (n + 1) := by
  obtain ⟨h1, h2, h3⟩ := hp
  have hgt : ∀ q, p ≤ q → q < n → x < gL L (q * 4) := fun q hq hqn => by
    have g1 := h3 q hq hqn
    by_cases e : x = gL L (q * 4)
    · exfalso
      by_cases e2 : q = p
      · subst e2; exact hf ⟨hqn, e.symm⟩
      · have g2 := hr p q (by omega) hqn
        have g3 := h3 p (Nat.le_refl _) (by omega)
        omega
    · omega
  intro i j hij hj
  rw [gL_ins hl h1 i, gL_ins hl h1 j]
  by_cases i1 : i < p
  · rw [if_pos i1]
    by_cases j1 : j < p
    · rw [if_pos j1]; exact hr i j hij (by omega)
    · rw [if_neg j1]
      by_cases j2 : j = p
      · rw [if_pos j2]; exact h2 i i1
      · rw [if_neg j2]; exact hr i (j - 1) (by omega) (by omega)
  · rw [if_neg i1]
    by_cases i2 : i = p
    · rw [if_pos i2, if_neg (by omega), if_neg (by omega)]
      exact hgt (j - 1) (by omega) (by omega)
    · rw [if_neg i2, if_neg (by omega), if_neg (by omega)]
      exact hr (i - 1) (j - 1) (by omega) (by omega)
theorem tk_id (c : Int) (L : List Int) (i : Nat) : ∀ k, gL (tkL c L k) (i * 4) = gL L (i * 4)
  | 0 => rfl
  | k + 1 => by
    simp only [tkL]
    split
    · rw [gL_set _ _ _ _ (by omega), gL_set _ _ _ _ (by omega), tk_id c L i k]
    · exact tk_id c L i k
theorem tk_len (c : Int) (L : List Int) : ∀ k, (tkL c L k).length = L.length
  | 0 => rfl
  | k + 1 => by
    simp only [tkL]
    split
    · rw [List.length_set, List.length_set, tk_len c L k]
    · exact tk_len c L k
theorem ins_len {L : List Int} {n p : Nat} {x a b d : Int} (hl : L.length = n * 4) (hp : p ≤ n) : (insL L p [x, a, b, d]).length = (n + 1) * 4 := by
  unfold insL
  rw [List.length_append, List.length_append, List.length_take, List.length_drop]
  simp; omega
theorem adC_zero {c : Int} {n : Nat} {id du : Int} {f : Bool} (h : adC c n id du f = 0) : n < 500 ∧ f = false := by
  unfold adC at h
  split at h
  · omega
  split at h
  · omega
  split at h
  · omega
  split at h
  · omega
  rename_i h1 h2
  exact ⟨by omega, by simpa using h2⟩
theorem OkF.act {c : Int} {n : Nat} {L : List Int} (h : OkF c n L) (kd id du : Int) : OkF (doK c kd) (doN c n L kd id du) (doL c n L kd id du) := by
  have hc := h.hc
  have hn := h.hn
  have hk : 0 ≤ doK c kd ∧ doK c kd ≤ 1000000000 := by unfold doK; split <;> (try split) <;> omega
  by_cases k1 : kd = 1
  · subst k1
    have eN : doN c n L 1 id du = adN (adC c n id du (fdB L n id)) n := rfl
    have eL : doL c n L 1 id du = adL (adC c n id du (fdB L n id)) L (plL L n id) id du := rfl
    by_cases h0 : adC c n id du (fdB L n id) = 0
    · obtain ⟨hn5, hff⟩ := adC_zero h0
      have hf : ¬ (plL L n id < n ∧ gL L (plL L n id * 4) = id) := of_decide_eq_false hff
      have hp := plL_is id h.hr
      rw [h0] at eN eL
      have eN' : adN 0 n = n + 1 := rfl
      have eL' : adL 0 L (plL L n id) id du = insL L (plL L n id) [id, 1, du, 0] := rfl
      exact ⟨by rw [eN, eN']; omega, hk, by rw [eN, eL, eN', eL']; exact ris_ins h.hl h.hr hp hf, by rw [eN, eL, eN', eL']; exact ins_len h.hl hp.1⟩
    · have eN' : adN (adC c n id du (fdB L n id)) n = n := by unfold adN; rw [if_neg h0]
      have eL' : adL (adC c n id du (fdB L n id)) L (plL L n id) id du = L := by unfold adL; rw [if_neg h0]
      exact ⟨by rw [eN, eN']; exact hn, hk, by rw [eN, eL, eN', eL']; exact h.hr, by rw [eN, eL, eN', eL']; exact h.hl⟩
  · have eN : doN c n L kd id du = n := by unfold doN; rw [if_neg k1]
    by_cases k5 : kd = 5
    · have eL : doL c n L kd id du = if c = 1000000000 then L else tkL (c + 1) L n := by unfold doL; rw [if_neg k1, if_pos k5]
      refine ⟨by rw [eN]; exact hn, hk, ?_, ?_⟩
      · rw [eN, eL]
        split
        · exact h.hr
        · intro i j hij hj; rw [tk_id, tk_id]; exact h.hr i j hij hj
      · rw [eN, eL]
        split
        · exact h.hl
        · rw [tk_len]; exact h.hl
    · by_cases km : kd = 2 ∨ kd = 3 ∨ kd = 4
      · have eL : doL c n L kd id du = mvL kd c (fdB L n id) (plL L n id) L := by unfold doL; rw [if_neg k1, if_neg k5, if_pos km]
        refine ⟨by rw [eN]; exact hn, hk, ?_, ?_⟩
        · rw [eN, eL]
          unfold mvL
          split
          · intro i j hij hj
            rw [gL_set _ _ _ _ (by omega), gL_set _ _ _ _ (by omega), gL_set _ _ _ _ (by omega), gL_set _ _ _ _ (by omega)]
            exact h.hr i j hij hj
          · exact h.hr
        · rw [eN, eL]
          unfold mvL
          split
          · rw [List.length_set, List.length_set]; exact h.hl
          · exact h.hl
      · have eL : doL c n L kd id du = L := by unfold doL; rw [if_neg k1, if_neg k5, if_neg km]
        exact ⟨by rw [eN]; exact hn, hk, by rw [eN, eL]; exact h.hr, by rw [eN, eL]; exact h.hl⟩
theorem OkF.zero : OkF 0 0 [] := ⟨by omega, ⟨by omega, by omega⟩, fun i j _ hj => by omega, rfl⟩

/-- the flow behind k acts: its clock, how many orders, its orders -/
def plT (g : Nat → Int) : Nat → Int × Nat × List Int
  | 0 => (0, 0, [])
  | k + 1 => (doK (plT g k).1 (g (k * 3)), doN (plT g k).1 (plT g k).2.1 (plT g k).2.2 (g (k * 3)) (g (k * 3 + 1)) (g (k * 3 + 2)), doL (plT g k).1 (plT g k).2.1 (plT g k).2.2 (g (k * 3)) (g (k * 3 + 1)) (g (k * 3 + 2)))
/-- the codes of the first k acts -/
def plC (g : Nat → Int) : Nat → List Int
  | 0 => []
  | k + 1 => plC g k ++ [doC (plT g k).1 (plT g k).2.1 (plT g k).2.2 (g (k * 3)) (g (k * 3 + 1)) (g (k * 3 + 2))]
theorem plT_ok (g : Nat → Int) : ∀ k, OkF (plT g k).1 (plT g k).2.1 (plT g k).2.2
  | 0 => OkF.zero
  | k + 1 => (plT_ok g k).act _ _ _
theorem plC_len (g : Nat → Int) : ∀ k, (plC g k).length = k
  | 0 => rfl
  | k + 1 => by simp only [plC]; rw [List.length_append, plC_len g k]; rfl
theorem fl_gL : ∀ (L : List Int) (m : Nat), L.length = m → fl (gL L) m = L := fun L m h => by
  apply List.ext_getElem?
  intro i
  by_cases hi : i < m
  · rw [List.getElem?_eq_getElem (by rw [fl_len]; exact hi), List.getElem?_eq_getElem (by omega)]
    have h1 := fl_at (gL L) m i hi
    rw [List.getD_eq_getElem?_getD, List.getElem?_eq_getElem (by rw [fl_len]; exact hi)] at h1
    have h2 : gL L i = L[i]'(by omega) := by unfold gL; rw [List.getD_eq_getElem?_getD, List.getElem?_eq_getElem (by omega)]; rfl
    rw [h2] at h1
    exact congrArg some h1
  · rw [List.getElem?_eq_none (by rw [fl_len]; omega), List.getElem?_eq_none (by omega)]
/-- what FlowPlay answers: clock, how many orders, orders, how many codes, codes -/
def fpK (g : Nat → Int) (m : Nat) : Int := if 2000 < m then 0 else (plT g m).1
def fpN (g : Nat → Int) (m : Nat) : Nat := if 2000 < m then 0 else (plT g m).2.1
def fpL (g : Nat → Int) (m : Nat) : Nat → Int := gL (if 2000 < m then [] else (plT g m).2.2)
def fpM (m : Nat) : Nat := if 2000 < m then 0 else m
def fpC (g : Nat → Int) (m : Nat) : Nat → Int := gL (if 2000 < m then [] else plC g m)
theorem fpN_le (g : Nat → Int) (m : Nat) : fpN g m ≤ 500 := by unfold fpN; split; omega; exact (plT_ok g m).hn
theorem fpM_le (m : Nat) : fpM m ≤ 2000 := by unfold fpM; split <;> omega

end Go.Proofs.Ytfhfddmiiopgdaa

/- Right flows under acts, in numbers: a flow stays right, ended orders stay as they are, no order goes. -/
import Derived.Test.YtfhfddmiiopgdaaFpn
namespace Go.Proofs.Ytfhfddmiiopgdaa
open Go.RowKit

/-- the order at a place of a list -/
def orL (c : Int) (L : List Int) (k : Nat) : Bool := orB c (gL L (k * 4)) (gL L (k * 4 + 1)) (gL L (k * 4 + 2)) (gL L (k * 4 + 3))
/-- a right flow in numbers -/
structure RtF (c : Int) (n : Nat) (L : List Int) : Prop where
  ok : OkF c n L
  rt : ∀ k, k < n → orL c L k = true
theorem RtF.flB {c : Int} {n : Nat} {L : List Int} (h : RtF c n L) : flB c (gL L) n = true := by
  refine flB_ok ((inB_iff _ _ _).2 h.ok.hc) h.ok.hn fun k hk => ?_
  unfold flAt
  have h1 := h.rt k hk
  unfold orL at h1
  rw [h1, Bool.and_true]
  by_cases h0 : k = 0
  · simp [h0]
  · have := h.ok.hr (k - 1) k (by omega) hk
    simp [this]
theorem orB_iff {c i s d e : Int} : orB c i s d e = true ↔ (0 ≤ i ∧ i ≤ 1000000) ∧ (1 ≤ d ∧ d ≤ 1000000000) ∧ stB c s d e = true := by
  unfold orB; simp only [Bool.and_eq_true, inB_iff]
theorem gL_same {L : List Int} {k : Nat} (z : Int) (h : k < L.length) : gL (L.set k z) k = z := by
  unfold gL
  rw [List.getD_eq_getElem?_getD, List.getElem?_set_self h]; rfl
theorem gL_insC {L : List Int} {n p : Nat} {x a b d : Int} (hl : L.length = n * 4) (hp : p ≤ n) (i j : Nat) (hj : j < 4) :
    gL (insL L p [x, a, b, d]) (i * 4 + j) = if i < p then gL L (i * 4 + j) else if i = p then gL [x, a, b, d] j else gL L ((i - 1) * 4 + j) := by
  have h1 : (L.take (p * 4)).length = p * 4 := by rw [List.length_take]; omega
  unfold gL insL
  rw [List.getD_eq_getElem?_getD]
  by_cases q1 : i < p
  · rw [if_pos q1, List.append_assoc, List.getElem?_append_left (by omega), List.getElem?_take_of_lt (by omega), List.getD_eq_getElem?_getD]
  · rw [if_neg q1, List.append_assoc, List.getElem?_append_right (by omega), h1]
    by_cases q2 : i = p
    · subst q2
      rw [if_pos rfl, List.getElem?_append_left (by simp; omega), show i * 4 + j - i * 4 = j by omega, ← List.getD_eq_getElem?_getD]
    · rw [if_neg q2, List.getElem?_append_right (by simp; omega), List.getElem?_drop, List.getD_eq_getElem?_getD]
      congr 2
      simp; omega
/-- is the order at a place late at the clock c -/
def ltB (c : Int) (L : List Int) (k : Nat) : Bool := opB (gL L (k * 4 + 1)) && decide (gL L (k * 4 + 2) < c)
theorem tk_at {c : Int} {L : List Int} {n k : Nat} (hl : L.length = n * 4) (hk : k < n) : ∀ m, k < m →
    (ltB c L k = true → gL (tkL c L m) (k * 4 + 1) = 5 ∧ gL (tkL c L m) (k * 4 + 3) = c) ∧ (ltB c L k = false → gL (tkL c L m) (k * 4 + 1) = gL L (k * 4 + 1) ∧ gL (tkL c L m) (k * 4 + 3) = gL L (k * 4 + 3)) ∧ gL (tkL c L m) (k * 4 + 2) = gL L (k * 4 + 2)
  | 0, h => by omega
  | m + 1, h => by
    have e : tkL c L (m + 1) = if ltB c L m = true then ((tkL c L m).set (m * 4 + 1) 5).set (m * 4 + 3) c else tkL c L m := rfl
    by_cases q : k = m
    · subst q
      have r : ∀ q, k * 4 ≤ q → gL (tkL c L k) q = gL L q := fun q hq => tk_rest c L k q hq
      have l : (tkL c L k).length = n * 4 := (tk_len c L k).trans hl
      rw [e]
      refine ⟨fun ht => ?_, fun ht => ?_, ?_⟩
      · rw [if_pos ht, gL_set _ _ _ _ (by omega), gL_same _ (by omega), gL_same _ (by rw [List.length_set]; omega)]
        exact ⟨rfl, rfl⟩
      · rw [if_neg (by rw [ht]; decide), r _ (by omega), r _ (by omega)]
        exact ⟨rfl, rfl⟩
      · split
        · rw [gL_set _ _ _ _ (by omega), gL_set _ _ _ _ (by omega), r _ (by omega)]
        · exact r _ (by omega)
    · have ih := tk_at (c := c) hl hk m (by omega)
      rw [e]
      split
      · rw [gL_set _ _ _ _ (by omega), gL_set _ _ _ _ (by omega), gL_set _ _ _ _ (by omega), gL_set _ _ _ _ (by omega), gL_set _ _ _ _ (by omega), gL_set _ _ _ _ (by omega)]
        exact ih
      · exact ih
theorem opB_iff {s : Int} : opB s = true ↔ s = 1 ∨ s = 2 := by unfold opB; simp
theorem stB_open {c s d e : Int} (hs : s = 1 ∨ s = 2) : stB c s d e = true ↔ e = 0 ∧ c ≤ d := by unfold stB; rw [if_pos hs]; simp
theorem stB_end {c s d e : Int} (hs : s = 3 ∨ s = 4) : stB c s d e = true ↔ 0 ≤ e ∧ e ≤ min d c := by
  unfold stB; rw [if_neg (by omega), if_pos hs]; exact inB_iff _ _ _
theorem stB_late {c d e : Int} : stB c 5 d e = true ↔ e = d + 1 ∧ e ≤ c := by unfold stB; rw [if_neg (by omega), if_neg (by omega), if_pos rfl]; simp
theorem stB_all {c s d e : Int} (h : stB c s d e = true) : (s = 1 ∨ s = 2) ∨ (s = 3 ∨ s = 4) ∨ s = 5 := by
  unfold stB at h
  by_cases h1 : s = 1 ∨ s = 2
  · exact .inl h1
  · rw [if_neg h1] at h
    by_cases h2 : s = 3 ∨ s = 4
    · exact .inr (.inl h2)
    · rw [if_neg h2] at h
      by_cases h3 : s = 5
      · exact .inr (.inr h3)
      · rw [if_neg h3] at h; cases h
theorem adC_in {c : Int} {n : Nat} {id du : Int} {f : Bool} (h : adC c n id du f = 0) : (0 ≤ id ∧ id ≤ 1000000) ∧ (1 ≤ du ∧ c ≤ du ∧ du ≤ 1000000000) := by
  unfold adC at h
  split at h
  · omega
  split at h
  · omega
  rename_i h1 h2
  have h1' : inB id 0 1000000 = true := by simpa using h1
  have h2' : inB du (max 1 c) 1000000000 = true := by simpa using h2
  have := (inB_iff _ _ _).1 h1'
  have := (inB_iff _ _ _).1 h2'
  omega
/-- where the order at the place i stands behind an act -/
def psI (c : Int) (n : Nat) (L : List Int) (kd id du : Int) (i : Nat) : Nat :=
  if kd = 1 ∧ adC c n id du (fdB L n id) = 0 then (if i < plL L n id then i else i + 1) else i
/-- what an act leaves: the flow is right; each order is there, those that have ended as they were -/
structure Lft (c : Int) (n : Nat) (L : List Int) (ps : Nat → Nat) (c' : Int) (n' : Nat) (L' : List Int) : Prop where
  rt : RtF c' n' L'
  lt : ∀ i, i < n → ps i < n'
  ids : ∀ i, i < n → gL L' (ps i * 4) = gL L (i * 4)
  endd : ∀ i, i < n → opB (gL L (i * 4 + 1)) = false → gL L' (ps i * 4 + 1) = gL L (i * 4 + 1) ∧ gL L' (ps i * 4 + 2) = gL L (i * 4 + 2) ∧ gL L' (ps i * 4 + 3) = gL L (i * 4 + 3)
theorem Lft.same {c : Int} {n : Nat} {L : List Int} (h : RtF c n L) : Lft c n L (fun i => i) c n L := ⟨h, fun _ h => h, fun _ _ => rfl, fun _ _ _ => ⟨rfl, rfl, rfl⟩⟩
theorem RtF.ins {c : Int} {n : Nat} {L : List Int} {id du : Int} (h : RtF c n L) (hok : OkF c (n + 1) (insL L (plL L n id) [id, 1, du, 0])) (hi : 0 ≤ id ∧ id ≤ 1000000) (hd : 1 ≤ du ∧ c ≤ du ∧ du ≤ 1000000000) :
    Lft c n L (fun i => if i < plL L n id then i else i + 1) c (n + 1) (insL L (plL L n id) [id, 1, du, 0]) := by
  have hp := (plL_is id h.ok.hr).1
  have hl := h.ok.hl
  generalize plL L n id = p at *
  have cel := fun i j hj => gL_insC (x := id) (a := 1) (b := du) (d := 0) hl hp i j hj
  have pos : ∀ i j, j < 4 → gL (insL L p [id, 1, du, 0]) ((if i < p then i else i + 1) * 4 + j) = gL L (i * 4 + j) := fun i j hj => by
    rw [cel _ j hj]
    by_cases q : i < p
    · rw [if_pos q, if_pos q]
    · rw [if_neg q, if_neg (by omega), if_neg (by omega), show i + 1 - 1 = i by omega]
  have cel0 := fun i => cel i 0 (by omega)
  have pos0 := fun i => pos i 0 (by omega)
  simp only [Nat.add_zero] at cel0 pos0
  refine ⟨⟨hok, fun k hk => ?_⟩, fun i hi => by split <;> omega, fun i _ => pos0 i, fun i _ _ => ⟨pos i 1 (by omega), pos i 2 (by omega), pos i 3 (by omega)⟩⟩
  unfold orL
  rw [cel0, cel k 1 (by omega), cel k 2 (by omega), cel k 3 (by omega)]
  by_cases q1 : k < p
  · simp only [if_pos q1]; exact h.rt k (by omega)
  · simp only [if_neg q1]
    by_cases q2 : k = p
    · simp only [if_pos q2]
      show orB c id 1 du 0 = true
      exact orB_iff.2 ⟨hi, ⟨hd.1, hd.2.2⟩, (stB_open (.inl rfl)).2 ⟨rfl, hd.2.1⟩⟩
    · simp only [if_neg q2]; exact h.rt (k - 1) (by omega)
theorem RtF.tick {c : Int} {n : Nat} {L : List Int} (h : RtF c n L) (hok : OkF (c + 1) n (tkL (c + 1) L n)) : Lft c n L (fun i => i) (c + 1) n (tkL (c + 1) L n) := by
  refine ⟨⟨hok, fun k hk => ?_⟩, fun i hi => hi, fun i hi => tk_id _ _ _ _, fun i hi he => ?_⟩
  · have t := tk_at (c := c + 1) h.ok.hl hk n hk
    have h1 := h.rt k hk
    unfold orL at h1 ⊢
    rw [tk_id, t.2.2]
    obtain ⟨a1, a2, a3⟩ := orB_iff.1 h1
    refine orB_iff.2 ⟨a1, a2, ?_⟩
    cases hb : ltB (c + 1) L k
    · obtain ⟨t1, t2⟩ := t.2.1 hb
      rw [t1, t2]
      rcases stB_all a3 with hs | hs | hs
      · obtain ⟨b1, b2⟩ := (stB_open hs).1 a3
        refine (stB_open hs).2 ⟨b1, ?_⟩
        unfold ltB at hb
        rw [opB_iff.2 hs, Bool.true_and] at hb
        have := of_decide_eq_false hb
        omega
      · obtain ⟨b1, b2⟩ := (stB_end hs).1 a3
        exact (stB_end hs).2 ⟨b1, by omega⟩
      · rw [hs] at a3 ⊢
        obtain ⟨b1, b2⟩ := stB_late.1 a3
        exact stB_late.2 ⟨b1, by omega⟩
    · obtain ⟨t1, t2⟩ := t.1 hb
      rw [t1, t2]
      unfold ltB at hb
      rw [Bool.and_eq_true] at hb
      have hs := opB_iff.1 hb.1
      have hd := of_decide_eq_true hb.2
      obtain ⟨b1, b2⟩ := (stB_open hs).1 a3
      exact stB_late.2 ⟨by omega, by omega⟩
  · have t := tk_at (c := c + 1) h.ok.hl hi n hi
    have hb : ltB (c + 1) L i = false := by unfold ltB; rw [he]; rfl
    exact ⟨(t.2.1 hb).1, t.2.2, (t.2.1 hb).2⟩
theorem RtF.move {c : Int} {n : Nat} {L : List Int} (h : RtF c n L) (kd : Int) (hkd : kd = 2 ∨ kd = 3 ∨ kd = 4) (p : Nat) (hp : p < n) (hop : opB (gL L (p * 4 + 1)) = true) (hok : OkF c n ((L.set (p * 4 + 1) kd).set (p * 4 + 3) (if kd = 2 then gL L (p * 4 + 3) else c))) :
    Lft c n L (fun i => i) c n ((L.set (p * 4 + 1) kd).set (p * 4 + 3) (if kd = 2 then gL L (p * 4 + 3) else c)) := by
  have hl := h.ok.hl
  have hc := h.ok.hc
  have oth : ∀ i j, j < 4 → i ≠ p → gL ((L.set (p * 4 + 1) kd).set (p * 4 + 3) (if kd = 2 then gL L (p * 4 + 3) else c)) (i * 4 + j) = gL L (i * 4 + j) := fun i j hj hi => by
    rw [gL_set _ _ _ _ (by omega), gL_set _ _ _ _ (by omega)]
  have ids : ∀ i, gL ((L.set (p * 4 + 1) kd).set (p * 4 + 3) (if kd = 2 then gL L (p * 4 + 3) else c)) (i * 4) = gL L (i * 4) := fun i => by
    rw [gL_set _ _ _ _ (by omega), gL_set _ _ _ _ (by omega)]
  refine ⟨⟨hok, fun k hk => ?_⟩, fun i hi => hi, fun i _ => ids i, fun i hi he => ?_⟩
  · have h1 := h.rt k hk
    unfold orL at h1 ⊢
    rw [ids]
    by_cases q : k = p
    · subst q
      rw [gL_set _ _ _ _ (by omega), gL_same _ (by omega), gL_set _ _ _ _ (by omega), gL_set _ _ _ _ (by omega), gL_same _ (by rw [List.length_set]; omega)]
      obtain ⟨a1, a2, a3⟩ := orB_iff.1 h1
      obtain ⟨b1, b2⟩ := (stB_open (opB_iff.1 hop)).1 a3
      refine orB_iff.2 ⟨a1, a2, ?_⟩
      rcases hkd with rfl | hkd
      · rw [if_pos rfl]; exact (stB_open (.inr rfl)).2 ⟨b1, b2⟩
      · rw [if_neg (by omega)]
        exact (stB_end hkd).2 ⟨hc.1, by omega⟩
    · rw [oth k 1 (by omega) q, oth k 2 (by omega) q, oth k 3 (by omega) q]; exact h1
  · have q : i ≠ p := fun e => by rw [e, hop] at he; cases he
    exact ⟨oth i 1 (by omega) q, oth i 2 (by omega) q, oth i 3 (by omega) q⟩
theorem RtF.act {c : Int} {n : Nat} {L : List Int} (h : RtF c n L) (kd id du : Int) : Lft c n L (psI c n L kd id du) (doK c kd) (doN c n L kd id du) (doL c n L kd id du) := by
  have hok := h.ok.act kd id du
  by_cases k1 : kd = 1
  · subst k1
    have eK : doK c 1 = c := rfl
    have eN : doN c n L 1 id du = adN (adC c n id du (fdB L n id)) n := rfl
    have eL : doL c n L 1 id du = adL (adC c n id du (fdB L n id)) L (plL L n id) id du := rfl
    by_cases h0 : adC c n id du (fdB L n id) = 0
    · have eP : psI c n L 1 id du = fun i => if i < plL L n id then i else i + 1 := by funext i; unfold psI; rw [if_pos ⟨rfl, h0⟩]
      have eN' : adN 0 n = n + 1 := rfl
      have eL' : adL 0 L (plL L n id) id du = insL L (plL L n id) [id, 1, du, 0] := rfl
      rw [eK, eN, eL, h0, eN', eL'] at hok
      rw [eP, eK, eN, eL, h0, eN', eL']
      exact h.ins hok (adC_in h0).1 (adC_in h0).2
    · have eP : psI c n L 1 id du = fun i => i := by funext i; unfold psI; rw [if_neg (fun h => h0 h.2)]
      have eN' : adN (adC c n id du (fdB L n id)) n = n := by unfold adN; rw [if_neg h0]
      have eL' : adL (adC c n id du (fdB L n id)) L (plL L n id) id du = L := by unfold adL; rw [if_neg h0]
      rw [eP, eK, eN, eL, eN', eL']
      exact Lft.same h
  · have eP : psI c n L kd id du = fun i => i := by funext i; unfold psI; rw [if_neg (fun h => k1 h.1)]
    have eN : doN c n L kd id du = n := by unfold doN; rw [if_neg k1]
    by_cases k5 : kd = 5
    · subst k5
      have eK : doK c 5 = if c = 1000000000 then c else c + 1 := rfl
      have eL : doL c n L 5 id du = if c = 1000000000 then L else tkL (c + 1) L n := by unfold doL; rw [if_neg k1, if_pos rfl]
      rw [eK, eN, eL] at hok
      rw [eP, eK, eN, eL]
      by_cases q : c = 1000000000
      · rw [if_pos q, if_pos q]; exact Lft.same h
      · rw [if_neg q, if_neg q] at hok ⊢; exact h.tick hok
    · have eK : doK c kd = c := by unfold doK; rw [if_neg k5]
      by_cases km : kd = 2 ∨ kd = 3 ∨ kd = 4
      · have eL : doL c n L kd id du = mvL kd c (fdB L n id) (plL L n id) L := by unfold doL; rw [if_neg k1, if_neg k5, if_pos km]
        rw [eK, eN, eL] at hok
        rw [eP, eK, eN, eL]
        by_cases q : mvC kd (fdB L n id) (gL L (plL L n id * 4 + 1)) = 0
        · have e : mvL kd c (fdB L n id) (plL L n id) L = (L.set (plL L n id * 4 + 1) kd).set (plL L n id * 4 + 3) (if kd = 2 then gL L (plL L n id * 4 + 3) else c) := by unfold mvL; rw [if_pos q]
          rw [e] at hok ⊢
          unfold mvC at q
          split at q
          · omega
          rename_i hf
          split at q
          · omega
          rename_i ho
          have hf' : fdB L n id = true := by simpa using hf
          exact h.move kd km _ (of_decide_eq_true hf').1 (by simpa using ho) hok
        · have e : mvL kd c (fdB L n id) (plL L n id) L = L := by unfold mvL; rw [if_neg q]
          rw [e]; exact Lft.same h
      · have eL : doL c n L kd id du = L := by unfold doL; rw [if_neg k1, if_neg k5, if_neg km]
        rw [eP, eK, eN, eL]; exact Lft.same h
theorem plT_rt (g : Nat → Int) : ∀ k, RtF (plT g k).1 (plT g k).2.1 (plT g k).2.2
  | 0 => ⟨OkF.zero, fun k hk => by cases hk⟩
  | k + 1 => ((plT_rt g k).act _ _ _).rt
theorem fp_rt (g : Nat → Int) (m : Nat) (hm : ¬ 2000 < m) : flB (fpK g m) (fpL g m) (fpN g m) = true := by
  unfold fpK fpL fpN
  rw [if_neg hm, if_neg hm, if_neg hm]
  exact (plT_rt g m).flB
/-- two places with one Id are one -/
theorem RtF.one {c : Int} {n : Nat} {L : List Int} (h : RtF c n L) {i j : Nat} (hi : i < n) (hj : j < n) (e : gL L (i * 4) = gL L (j * 4)) : i = j := by
  rcases Nat.lt_trichotomy i j with q | q | q
  · have := h.ok.hr i j q hj; omega
  · exact q
  · have := h.ok.hr j i q hi; omega

end Go.Proofs.Ytfhfddmiiopgdaa

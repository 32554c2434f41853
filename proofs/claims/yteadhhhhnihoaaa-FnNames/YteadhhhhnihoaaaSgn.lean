/- The signs of a name: numbers alone. -/
import Derived.Test.YteadhhhhnihoaaaIls
import Derived.Laws.RangeAny
import Derived.Laws.Strings2
namespace Go.Proofs.Yteadhhhhnihoaaa
open Go.RowKit

/-- the bytes of a text -/
def bl (s : ByteArray) : List Nat := s.data.toList.map (fun b => b.toNat)
theorem bl_len (s : ByteArray) : (bl s).length = s.size := by
  unfold bl
  rw [List.length_map]
  rfl
theorem bl_lt (s : ByteArray) : ∀ x ∈ bl s, x < 256 := by
  intro x hx
  obtain ⟨b, _, rfl⟩ := List.mem_map.1 hx
  exact b.toNat_lt
theorem bl_at (s : ByteArray) (i : Nat) (h : i < s.size) : (s[i]'h).toNat = (bl s).getD i 0 := by
  have h' : i < s.data.size := h
  have e : s[i]'h = s.data[i]'h' := rfl
  rw [e]
  unfold bl
  rw [List.getD, List.getElem?_map, Array.getElem?_toList, Array.getElem?_eq_getElem h']
  rfl
theorem bl_get (s : ByteArray) (i : Nat) : (s.get! i).toNat = (bl s).getD i 0 := by
  by_cases h : i < s.size
  · rw [← bl_at s i h]
    have := get_at s i h
    simpa using congrArg UInt8.toNat this
  · have h' : ¬ i < s.data.size := h
    have e : s.get! i = s.data[i]! := rfl
    rw [e, getElem!_neg s.data i h']
    unfold bl
    rw [List.getD, List.getElem?_map, Array.getElem?_toList, Array.getElem?_eq_none (by omega)]
    rfl
theorem bl_ext (s : ByteArray) (a b : Nat) : bl (s.extract a b) = ((bl s).drop a).take (b - a) := by
  have e : s = ByteArray.mk s.data.toList.toArray := by cases s; simp
  have h : s.extract a b = ByteArray.mk ((s.data.toList.drop a).take (b - a)).toArray := by
    conv => lhs; rw [e]
    exact ByteArray.extract_mk _ _ _
  rw [h]
  simp [bl, List.map_take, List.map_drop]

/-- the sign that stands at the head in UTF-8, and how many bytes it has -/
def dec (l : List Nat) : Nat × Nat :=
  if l.getD 0 0 < 128 then (l.getD 0 0, 1)
  else if (l.getD 0 0 / 32 == 6 && (decide (1 < l.length) && l.getD 1 0 / 64 == 2)) = true then
    if (l.getD 0 0 % 32) * 64 + l.getD 1 0 % 64 ≥ 128 then ((l.getD 0 0 % 32) * 64 + l.getD 1 0 % 64, 2) else (65533, 1)
  else if (l.getD 0 0 / 16 == 14 && (decide (1 < l.length) && l.getD 1 0 / 64 == 2) && (decide (2 < l.length) && l.getD 2 0 / 64 == 2)) = true then
    if (decide ((l.getD 0 0 % 16) * 4096 + (l.getD 1 0 % 64) * 64 + l.getD 2 0 % 64 ≥ 2048) && Utf8.valid ((l.getD 0 0 % 16) * 4096 + (l.getD 1 0 % 64) * 64 + l.getD 2 0 % 64 : Nat)) = true then ((l.getD 0 0 % 16) * 4096 + (l.getD 1 0 % 64) * 64 + l.getD 2 0 % 64, 3) else (65533, 1)
  else if (l.getD 0 0 / 8 == 30 && (decide (1 < l.length) && l.getD 1 0 / 64 == 2) && (decide (2 < l.length) && l.getD 2 0 / 64 == 2) && (decide (3 < l.length) && l.getD 3 0 / 64 == 2)) = true then
    if (decide ((l.getD 0 0 % 8) * 262144 + (l.getD 1 0 % 64) * 4096 + (l.getD 2 0 % 64) * 64 + l.getD 3 0 % 64 ≥ 65536) && Utf8.valid ((l.getD 0 0 % 8) * 262144 + (l.getD 1 0 % 64) * 4096 + (l.getD 2 0 % 64) * 64 + l.getD 3 0 % 64 : Nat)) = true then ((l.getD 0 0 % 8) * 262144 + (l.getD 1 0 % 64) * 4096 + (l.getD 2 0 % 64) * 64 + l.getD 3 0 % 64, 4) else (65533, 1)
  else (65533, 1)

theorem decode_bl (s : ByteArray) (i : Nat) : Utf8.decode s i = dec ((bl s).drop i) := by
  have hg : ∀ k, (s.get! (i + k)).toNat = ((bl s).drop i).getD k 0 := fun k => by rw [bl_get]; simp [List.getD, List.getElem?_drop]
  have hc : ∀ k, decide (i + k < s.size) = decide (k < ((bl s).drop i).length) := fun k => by
    rw [List.length_drop, bl_len]; congr 1; exact propext ⟨fun h => by omega, fun h => by omega⟩
  simp only [Utf8.decode, dec, hg, hc, Utf8.runeError]

theorem dec_pos (l : List Nat) : 1 ≤ (dec l).2 ∧ (dec l).2 ≤ 4 := by
  unfold dec
  repeat' split
  all_goals simp
theorem dec_le (l : List Nat) (hne : l ≠ []) : (dec l).2 ≤ l.length := by
  have h0 : 0 < l.length := List.length_pos_iff.2 hne
  unfold dec
  repeat' split
  all_goals simp_all
  all_goals omega
theorem dec_27 (l : List Nat) : (dec l).1 = 27 ↔ l.getD 0 0 = 27 := by
  unfold dec
  repeat' split
  all_goals simp_all
  all_goals omega

/-- a switch stands at the head -/
def swi (l : List Nat) : Bool := l.getD 0 0 == 27 && decide (1 < l.length) && decide (48 ≤ l.getD 1 0) && decide (l.getD 1 0 ≤ 50)
theorem swi_iff (l : List Nat) : swi l = true ↔ l.getD 0 0 = 27 ∧ 1 < l.length ∧ 48 ≤ l.getD 1 0 ∧ l.getD 1 0 ≤ 50 := by simp [swi, and_assoc]
/-- the sign at the head, and how many bytes it has -/
def one (set : Nat) (l : List Nat) : Int × Nat :=
  if l.getD 0 0 = 27 then (65533, 1)
  else if set = 2 then (((dec l).1 : Int), (dec l).2)
  else if set = 0 ∧ 128 ≤ l.getD 0 0 then (65533, 1) else ((l.getD 0 0 : Int), 1)
theorem one_pos (set : Nat) (l : List Nat) : 1 ≤ (one set l).2 := by
  unfold one
  repeat' split
  all_goals first | exact (dec_pos l).1 | exact Nat.le_refl 1
theorem one_le (set : Nat) (l : List Nat) (hne : l ≠ []) : (one set l).2 ≤ l.length := by
  have h0 : 0 < l.length := List.length_pos_iff.2 hne
  unfold one
  repeat' split
  all_goals first | exact dec_le l hne | exact h0
def sgs : Nat → Nat → List Nat → List Int
  | 0, _, _ => []
  | f + 1, set, l => if l = [] then [] else if swi l = true then sgs f (l.getD 1 0 - 48) (l.drop 2) else (one set l).1 :: sgs f set (l.drop (one set l).2)
/-- the signs -/
def sig (set : Nat) (l : List Nat) : List Int := sgs l.length set l

theorem sgs_more : ∀ (f g set : Nat) (l : List Nat), l.length ≤ f → l.length ≤ g → sgs f set l = sgs g set l := by
  intro f
  induction f with
  | zero =>
    intro g set l hf _
    have : l = [] := List.eq_nil_of_length_eq_zero (by omega)
    subst this
    cases g <;> simp [sgs]
  | succ f ih =>
    intro g set l hf hg
    by_cases hl : l = []
    · subst hl; cases g <;> simp [sgs]
    · have h0 : 0 < l.length := List.length_pos_iff.2 hl
      cases g with
      | zero => omega
      | succ g =>
        have hp := one_pos set l
        simp only [sgs, if_neg hl]
        split
        · exact ih g _ _ (by rw [List.length_drop]; omega) (by rw [List.length_drop]; omega)
        · rw [ih g set (l.drop (one set l).2) (by rw [List.length_drop]; omega) (by rw [List.length_drop]; omega)]
theorem sig_nil (set : Nat) : sig set [] = [] := rfl
theorem sig_swi {set : Nat} {l : List Nat} (h : swi l = true) : sig set l = sig (l.getD 1 0 - 48) (l.drop 2) := by
  obtain ⟨_, h1, _⟩ := (swi_iff l).1 h
  have hl : l ≠ [] := by rintro rfl; simp at h1
  unfold sig
  obtain ⟨m, hm⟩ : ∃ m, l.length = m + 1 := ⟨l.length - 1, by omega⟩
  rw [hm]
  simp only [sgs, if_neg hl, if_pos h]
  exact sgs_more _ _ _ _ (by rw [List.length_drop]; omega) (Nat.le_refl _)
theorem sig_one {set : Nat} {l : List Nat} (hl : l ≠ []) (h : swi l = false) : sig set l = (one set l).1 :: sig set (l.drop (one set l).2) := by
  have h0 : 0 < l.length := List.length_pos_iff.2 hl
  have hp := one_pos set l
  unfold sig
  obtain ⟨m, hm⟩ : ∃ m, l.length = m + 1 := ⟨l.length - 1, by omega⟩
  rw [hm]
  simp only [sgs, if_neg hl, h]
  rw [sgs_more m (l.drop (one set l).2).length set (l.drop (one set l).2) (by rw [List.length_drop]; omega) (Nat.le_refl _)]
  rfl
theorem sig_len : ∀ (n set : Nat) (l : List Nat), l.length ≤ n → (sig set l).length ≤ l.length := by
  intro n
  induction n with
  | zero =>
    intro set l h
    have : l = [] := List.eq_nil_of_length_eq_zero (by omega)
    subst this; simp [sig_nil]
  | succ n ih =>
    intro set l h
    by_cases hl : l = []
    · subst hl; simp [sig_nil]
    · have h0 : 0 < l.length := List.length_pos_iff.2 hl
      have hp := one_pos set l
      cases hs : swi l with
      | true =>
        rw [sig_swi hs]
        have := ih (l.getD 1 0 - 48) (l.drop 2) (by rw [List.length_drop]; omega)
        rw [List.length_drop] at this
        omega
      | false =>
        rw [sig_one hl hs]
        have := ih set (l.drop (one set l).2) (by rw [List.length_drop]; omega)
        rw [List.length_drop] at this
        simp only [List.length_cons]
        omega

/-- a piece up to a switch or to the end is read as the whole is -/
theorem one_take (set : Nat) (l : List Nat) (e : Nat) (h0 : 0 < e) (he : e ≤ l.length) (hs : e = l.length ∨ l.getD e 0 = 27) : one set (l.take e) = one set l := by
  by_cases hel : e = l.length
  · rw [hel, List.take_length]
  · have h27 : l.getD e 0 = 27 := hs.resolve_left hel
    have g : ∀ k, k < e → (l.take e).getD k 0 = l.getD k 0 := fun k hk => by simp [List.getD, hk]
    have gn : ∀ k, e ≤ k → (l.take e).getD k 0 = 0 := fun k hk => by
      rw [List.getD, List.getElem?_eq_none (by rw [List.length_take]; omega)]; rfl
    have hlen : (l.take e).length = e := by rw [List.length_take]; omega
    have hd : dec (l.take e) = dec l := by
      unfold dec
      rw [hlen, g 0 h0]
      by_cases e1 : e = 1
      · subst e1
        rw [h27]; simp
      · rw [g 1 (by omega)]
        by_cases e2 : e = 2
        · subst e2
          rw [h27]
          have a1 : (1 < 2) = (1 < l.length) := propext ⟨fun _ => by omega, fun _ => by omega⟩
          simp [a1]
        · rw [g 2 (by omega)]
          have a1 : (1 < e) = (1 < l.length) := propext ⟨fun _ => by omega, fun _ => by omega⟩
          have a2 : (2 < e) = (2 < l.length) := propext ⟨fun _ => by omega, fun _ => by omega⟩
          by_cases e3 : e = 3
          · subst e3
            rw [h27]
            simp [a1, a2]
          · have a3 : (3 < e) = (3 < l.length) := propext ⟨fun _ => by omega, fun _ => by omega⟩
            rw [g 3 (by omega)]
            simp only [a1, a2, a3]
    unfold one
    rw [hd, g 0 h0]

/-- the signs up to the first switch, and those behind it -/
theorem sig_cut : ∀ (n set : Nat) (l : List Nat) (e : Nat), l.length ≤ n → e ≤ l.length → (∀ k, k < e → swi (l.drop k) = false) → (e = l.length ∨ swi (l.drop e) = true) →
    sig set l = sig set (l.take e) ++ (if e = l.length then [] else sig (l.getD (e + 1) 0 - 48) (l.drop (e + 2))) := by
  intro n
  induction n with
  | zero =>
    intro set l e hn he _ _
    have : l = [] := List.eq_nil_of_length_eq_zero (by omega)
    subst this
    have : e = 0 := by simpa using he
    subst this
    simp [sig_nil]
  | succ n ih =>
    intro set l e hn he hk hs
    by_cases e0 : e = 0
    · subst e0
      rcases hs with hs | hs
      · have : l = [] := List.eq_nil_of_length_eq_zero hs.symm
        subst this; simp [sig_nil]
      · rw [List.drop_zero] at hs
        have h1 := ((swi_iff l).1 hs).2.1
        rw [sig_swi hs, if_neg (by omega)]
        simp [sig_nil]
    · have hl : l ≠ [] := by rintro rfl; simp at he; omega
      have h27 : e = l.length ∨ l.getD e 0 = 27 := by
        rcases hs with hs | hs
        · exact .inl hs
        · right
          have := ((swi_iff _).1 hs).1
          simpa [List.getD, List.getElem?_drop] using this
      have hot := one_take set l e (by omega) he h27
      have hw0 := one_pos set l
      have htl : (l.take e).length = e := by rw [List.length_take]; omega
      have hne : l.take e ≠ [] := by intro h; rw [h] at htl; simp at htl; omega
      have hw : (one set l).2 ≤ e := by
        have := one_le set (l.take e) hne
        rw [hot, htl] at this; exact this
      have ns : swi l = false := by simpa using hk 0 (by omega)
      have nst' : swi (l.take e) = false := by
        rw [Bool.eq_false_iff]
        intro h
        obtain ⟨a, b, c, d⟩ := (swi_iff _).1 h
        rw [htl] at b
        have g0 : (l.take e).getD 0 0 = l.getD 0 0 := by simp [List.getD, show 0 < e by omega]
        have g1 : (l.take e).getD 1 0 = l.getD 1 0 := by simp [List.getD, b]
        rw [g0] at a; rw [g1] at c d
        rw [(swi_iff l).2 ⟨a, by omega, c, d⟩] at ns
        cases ns
      rw [sig_one hl ns, sig_one hne nst', hot]
      generalize hW : (one set l).2 = W at *
      have := ih set (l.drop W) (e - W) (by rw [List.length_drop]; omega) (by rw [List.length_drop]; omega)
        (fun k hk' => by rw [List.drop_drop]; exact hk _ (by omega))
        (by
          rcases hs with hs | hs
          · left; rw [List.length_drop]; omega
          · right; rw [List.drop_drop, show W + (e - W) = e by omega]; exact hs)
      rw [this, List.drop_take, List.cons_append]
      congr 2
      · rw [List.length_drop]
        by_cases hel : e = l.length
        · rw [if_pos hel, if_pos (by omega)]
        · rw [if_neg hel, if_neg (by omega), List.drop_drop]
          congr 1
          · simp only [List.getD, List.getElem?_drop]
            rw [show W + (e - W + 1) = e + 1 by omega]
          · rw [show W + (e - W + 2) = e + 2 by omega]

end Go.Proofs.Yteadhhhhnihoaaa

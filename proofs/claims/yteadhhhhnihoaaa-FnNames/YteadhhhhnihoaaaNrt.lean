/- A name of signs that can be told has just these signs: numbers alone. -/
import Derived.Test.YteadhhhhnihoaaaNmn
import Derived.Test.YteadhhhhnihoaaaSgu
namespace Go.Proofs.Yteadhhhhnihoaaa
open Go.RowKit

/-- the bytes of a sign -/
def encN (n : Nat) : List Nat :=
  if n < 128 then [n] else if n < 2048 then [192 + n / 64, 128 + n % 64] else if n < 65536 then [224 + n / 4096, 128 + n / 64 % 64, 128 + n % 64] else [240 + n / 262144, 128 + n / 4096 % 64, 128 + n / 64 % 64, 128 + n % 64]
def tellN (n : Nat) : Prop := n ≠ 27 ∧ n ≤ 1114111 ∧ ¬ (55296 ≤ n ∧ n ≤ 57343)
theorem tell_nat {v : Int} (h : tell v = true) : ∃ n : Nat, v = n ∧ tellN n := by
  have h' : v ≠ 27 ∧ 0 ≤ v ∧ v ≤ 1114111 ∧ ¬ (55296 ≤ v ∧ v ≤ 57343) := of_decide_eq_true h
  exact ⟨v.toNat, by omega, by unfold tellN; omega⟩
theorem enc_nat {n : Nat} (h : tellN n) : (Lib.encodeRuneZ (n : Int)).map Int.toNat = encN n := by
  obtain ⟨_, h1, h2⟩ := h
  unfold encN
  by_cases a : n < 128
  · rw [if_pos a, Lib.encodeRuneZ_one (by omega) (by omega)]
    simp
  · rw [if_neg a]
    by_cases b : n < 2048
    · rw [if_pos b, Lib.encodeRuneZ_two (by omega) (by omega)]
      simp only [List.map_cons, List.map_nil]
      rw [show (192 + (n : Int) / 64).toNat = 192 + n / 64 by omega, show (128 + (n : Int) % 64).toNat = 128 + n % 64 by omega]
    · rw [if_neg b]
      by_cases c : n < 65536
      · rw [if_pos c, Lib.encodeRuneZ_three (by omega)]
        simp only [List.map_cons, List.map_nil]
        rw [show (224 + (n : Int) / 4096).toNat = 224 + n / 4096 by omega, show (128 + (n : Int) / 64 % 64).toNat = 128 + n / 64 % 64 by omega, show (128 + (n : Int) % 64).toNat = 128 + n % 64 by omega]
      · rw [if_neg c, Lib.encodeRuneZ_four (by omega) (by omega)]
        simp only [List.map_cons, List.map_nil]
        rw [show (240 + (n : Int) / 262144).toNat = 240 + n / 262144 by omega, show (128 + (n : Int) / 4096 % 64).toNat = 128 + n / 4096 % 64 by omega, show (128 + (n : Int) / 64 % 64).toNat = 128 + n / 64 % 64 by omega, show (128 + (n : Int) % 64).toNat = 128 + n % 64 by omega]

theorem dec_enc {n : Nat} (h : tellN n) (rest : List Nat) : dec (encN n ++ rest) = (n, (encN n).length) := by
  obtain ⟨_, h1, h2⟩ := h
  unfold encN
  by_cases a : n < 128
  · rw [if_pos a]
    exact dec_one (l := [n] ++ rest) a
  · rw [if_neg a]
    by_cases b : n < 2048
    · rw [if_pos b]
      have e : vl (((192 + n / 64 : Nat) : Int) - 192) ([192 + n / 64, 128 + n % 64] ++ rest) 1 = (n : Int) := by
        rw [vl1]
        show (((192 + n / 64 : Nat) : Int) - 192) * 64 + ((128 + n % 64 : Nat) : Int) - 128 = n
        omega
      have := dec_two (l := [192 + n / 64, 128 + n % 64] ++ rest) (show 192 ≤ 192 + n / 64 by omega) (show 192 + n / 64 < 224 by omega) ⟨by simp, show 128 ≤ 128 + n % 64 ∧ 128 + n % 64 ≤ 191 by omega⟩
        (show fine 128 (vl (((192 + n / 64 : Nat) : Int) - 192) _ 1) by rw [e]; unfold fine; omega)
      rw [this]
      show ((vl (((192 + n / 64 : Nat) : Int) - 192) _ 1).toNat, 2) = _
      rw [e]; rfl
    · rw [if_neg b]
      by_cases c : n < 65536
      · rw [if_pos c]
        have e : vl (((224 + n / 4096 : Nat) : Int) - 224) ([224 + n / 4096, 128 + n / 64 % 64, 128 + n % 64] ++ rest) 2 = (n : Int) := by
          rw [vl2]
          show ((((224 + n / 4096 : Nat) : Int) - 224) * 64 + ((128 + n / 64 % 64 : Nat) : Int) - 128) * 64 + ((128 + n % 64 : Nat) : Int) - 128 = n
          omega
        have := dec_three (l := [224 + n / 4096, 128 + n / 64 % 64, 128 + n % 64] ++ rest) (show 224 ≤ 224 + n / 4096 by omega) (show 224 + n / 4096 < 240 by omega) ⟨by simp, show 128 ≤ 128 + n / 64 % 64 ∧ 128 + n / 64 % 64 ≤ 191 by omega, show 128 ≤ 128 + n % 64 ∧ 128 + n % 64 ≤ 191 by omega⟩
          (show fine 2048 (vl (((224 + n / 4096 : Nat) : Int) - 224) _ 2) by rw [e]; unfold fine; omega)
        rw [this]
        show ((vl (((224 + n / 4096 : Nat) : Int) - 224) _ 2).toNat, 3) = _
        rw [e]; rfl
      · rw [if_neg c]
        have e : vl (((240 + n / 262144 : Nat) : Int) - 240) ([240 + n / 262144, 128 + n / 4096 % 64, 128 + n / 64 % 64, 128 + n % 64] ++ rest) 3 = (n : Int) := by
          rw [vl3]
          show (((((240 + n / 262144 : Nat) : Int) - 240) * 64 + ((128 + n / 4096 % 64 : Nat) : Int) - 128) * 64 + ((128 + n / 64 % 64 : Nat) : Int) - 128) * 64 + ((128 + n % 64 : Nat) : Int) - 128 = n
          omega
        have := dec_four (l := [240 + n / 262144, 128 + n / 4096 % 64, 128 + n / 64 % 64, 128 + n % 64] ++ rest) (show 240 ≤ 240 + n / 262144 by omega) (show 240 + n / 262144 < 248 by omega) ⟨by simp, show 128 ≤ 128 + n / 4096 % 64 ∧ 128 + n / 4096 % 64 ≤ 191 by omega, show 128 ≤ 128 + n / 64 % 64 ∧ 128 + n / 64 % 64 ≤ 191 by omega, show 128 ≤ 128 + n % 64 ∧ 128 + n % 64 ≤ 191 by omega⟩
          (show fine 65536 (vl (((240 + n / 262144 : Nat) : Int) - 240) _ 3) by rw [e]; unfold fine; omega)
        rw [this]
        show ((vl (((240 + n / 262144 : Nat) : Int) - 240) _ 3).toNat, 4) = _
        rw [e]; rfl
theorem enc_head {n : Nat} (h : tellN n) : ∃ b t, encN n = b :: t ∧ b ≠ 27 ∧ (128 ≤ n → 128 ≤ b) ∧ (n < 128 → b = n) := by
  obtain ⟨h0, h1, h2⟩ := h
  unfold encN
  split
  · exact ⟨_, _, rfl, by omega, by omega, by omega⟩
  · split
    · exact ⟨_, _, rfl, by omega, by omega, by omega⟩
    · split
      · exact ⟨_, _, rfl, by omega, by omega, by omega⟩
      · exact ⟨_, _, rfl, by omega, by omega, by omega⟩
theorem sig_enc {n : Nat} (h : tellN n) {set : Nat} (hs : set = 2 ∨ (set = 0 ∧ n < 128)) (rest : List Nat) : sig set (encN n ++ rest) = (n : Int) :: sig set rest := by
  obtain ⟨b, t, he, hb, hb1, hb2⟩ := enc_head h
  have hne : encN n ++ rest ≠ [] := by rw [he]; simp
  have hh : (encN n ++ rest).getD 0 0 = b := by rw [he]; rfl
  have hsw : swi (encN n ++ rest) = false := by
    rw [Bool.eq_false_iff]; intro hx
    have := ((swi_iff _).1 hx).1
    rw [hh] at this; exact hb this
  have hone : one set (encN n ++ rest) = ((n : Int), (encN n).length) := by
    unfold one
    rw [hh, if_neg hb]
    rcases hs with rfl | ⟨rfl, hn⟩
    · rw [if_pos rfl, dec_enc h]
    · have hbn := hb2 hn
      have : encN n = [n] := by unfold encN; rw [if_pos hn]
      rw [if_neg (by omega), if_neg (by omega), this, hbn]
      rfl
  rw [sig_one hne hsw, hone]
  simp

/-- the bytes of signs, from the front -/
def encF : Bool → List Int → List Int
  | _, [] => []
  | two, v :: L => ((if 128 ≤ v ∧ two = false then [27, 50] else []) ++ Lib.encodeRuneZ v) ++ encF (two || decide (128 ≤ v)) L
theorem nst_encF : ∀ (L : List Int) (b : Bool) (acc : List Int), (L.foldl nst1 (b, acc)).2 = acc ++ encF b L
  | [], b, acc => by simp [encF]
  | v :: L, b, acc => by
    rw [List.foldl_cons]
    show (L.foldl nst1 (b || decide (128 ≤ v), (acc ++ (if 128 ≤ v ∧ b = false then [27, 50] else [])) ++ Lib.encodeRuneZ v)).2 = _
    rw [nst_encF L]
    simp [encF]
theorem sig_encF : ∀ (L : List Int) (two : Bool), (∀ v ∈ L, tell v = true) → sig (if two = true then 2 else 0) ((encF two L).map Int.toNat) = L
  | [], two, _ => by simp [encF, sig_nil]
  | v :: L, two, h => by
    obtain ⟨n, rfl, hn⟩ := tell_nat (h v (List.mem_cons_self ..))
    have ih := fun b => sig_encF L b (fun x hx => h x (List.mem_cons_of_mem _ hx))
    simp only [encF, List.map_append]
    rw [enc_nat hn]
    by_cases hge : 128 ≤ (n : Int)
    · have hd : (two || decide (128 ≤ (n : Int))) = true := by rw [decide_eq_true hge, Bool.or_true]
      rw [hd]
      have i2 := ih true
      rw [if_pos rfl] at i2
      cases two with
      | false =>
        rw [show (if 128 ≤ (n : Int) ∧ false = false then [27, 50] else ([] : List Int)) = [27, 50] from if_pos ⟨hge, rfl⟩]
        have hsw : swi ([27, 50] ++ (encN n ++ (encF true L).map Int.toNat)) = true := by
          rw [swi_iff]
          exact ⟨rfl, by simp, show 48 ≤ 50 by omega, show 50 ≤ 50 by omega⟩
        have e : (List.map Int.toNat [27, 50] ++ encN n) ++ (encF true L).map Int.toNat = [27, 50] ++ (encN n ++ (encF true L).map Int.toNat) := by rw [List.append_assoc]; rfl
        rw [e, sig_swi hsw]
        show sig 2 (encN n ++ (encF true L).map Int.toNat) = _
        rw [sig_enc hn (.inl rfl), i2]
      | true =>
        rw [show (if 128 ≤ (n : Int) ∧ true = false then [27, 50] else ([] : List Int)) = [] from if_neg (by simp)]
        show sig 2 (([] ++ encN n) ++ (encF true L).map Int.toNat) = _
        rw [List.nil_append, sig_enc hn (.inl rfl), i2]
    · have hd : (two || decide (128 ≤ (n : Int))) = two := by rw [decide_eq_false hge, Bool.or_false]
      rw [hd, show (if 128 ≤ (n : Int) ∧ two = false then [27, 50] else ([] : List Int)) = [] from if_neg (fun x => hge x.1)]
      have i2 := ih two
      rw [List.map_nil, List.nil_append, sig_enc hn (by cases two; exact .inr ⟨rfl, by omega⟩; exact .inl rfl), i2]

theorem bl_str (X : List Int) (h : ∀ x ∈ X, 0 ≤ x ∧ x < 256) : bl (strOfNums X) = X.map Int.toNat := by
  unfold bl
  rw [strOfNums_data, List.map_map]
  apply List.map_congr_left
  intro x hx
  have := h x hx
  show (UInt8.ofNat x.toNat).toNat = x.toNat
  rw [UInt8.toNat_ofNat_of_lt' (show x.toNat < UInt8.size by have : UInt8.size = 256 := rfl; omega)]
theorem encF_byte : ∀ (L : List Int) (two : Bool), ∀ x ∈ encF two L, 0 ≤ x ∧ x < 256
  | [], _, x, hx => by simp [encF] at hx
  | v :: L, two, x, hx => by
    simp only [encF] at hx
    rcases List.mem_append.1 hx with h | h
    · rcases List.mem_append.1 h with h | h
      · split at h
        · simp at h; omega
        · simp at h
      · exact Lib.encodeRuneZ_byte v x h
    · exact encF_byte L _ x h

/-- the signs of a name are those that it was made of, if there is one -/
theorem names_back (L : List Int) (h : nmA L ≠ [] ∨ L = []) : (if 4096 < (nmS L).size then [] else sig 0 (bl (nmS L))) = L := by
  have hlen : (nmA L).length ≤ 4096 := by
    unfold nmA
    split
    · simp
    · split
      · simp
      · omega
  have hsz : ¬ 4096 < (nmS L).size := by unfold nmS; rw [strOfNums_size]; omega
  rw [if_neg hsz]
  by_cases hL : L = []
  · subst hL; rfl
  · have hne := h.resolve_right hL
    have hall : ∀ v ∈ L, tell v = true := by
      apply Classical.byContradiction
      intro hx
      exact hne (if_pos (.inr hx))
    have hen : nmA L = encF false L := by
      unfold nmA at hne ⊢
      split at hne
      · exact absurd rfl hne
      · split at hne
        · exact absurd rfl hne
        · rename_i h1 h2
          rw [if_neg h1, if_neg h2]
          have := nst_encF L false []
          rw [List.nil_append] at this
          exact this
    unfold nmS
    rw [hen, bl_str _ (encF_byte L false)]
    exact sig_encF L false hall

end Go.Proofs.Yteadhhhhnihoaaa

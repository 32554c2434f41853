/- The name of signs: numbers alone. -/
import Derived.Test.YteadhhhhnihoaaaByl
import Derived.Lib.RuneBytes
namespace Go.Proofs.Yteadhhhhnihoaaa
open Go.RowKit

/-- can a sign be told -/
def tell (v : Int) : Bool := decide (v ≠ 27 ∧ 0 ≤ v ∧ v ≤ 1114111 ∧ ¬ (55296 ≤ v ∧ v ≤ 57343))
/-- one sign more: does set 2 hold, and the bytes -/
def nst1 (s : Bool × List Int) (v : Int) : Bool × List Int :=
  (s.1 || decide (128 ≤ v), (s.2 ++ (if 128 ≤ v ∧ s.1 = false then [27, 50] else [])) ++ Lib.encodeRuneZ v)
def nst (L : List Int) : Bool × List Int := L.foldl nst1 (false, [])
def nmA (L : List Int) : List Int := if 4096 < L.length ∨ ¬ (∀ v ∈ L, tell v = true) then [] else if 4096 < (nst L).2.length then [] else (nst L).2

theorem nst_snoc (L : List Int) (v : Int) : nst (L ++ [v]) = nst1 (nst L) v := by simp [nst, List.foldl_append]
theorem nst1_len (s : Bool × List Int) (v : Int) : (nst1 s v).2.length ≤ s.2.length + 6 := by
  have := (Lib.encodeRuneZ_length v).2
  unfold nst1
  simp only [List.length_append]
  split <;> simp <;> omega
theorem nst_len : ∀ (L : List Int), (nst L).2.length ≤ 6 * L.length := by
  have key : ∀ (L : List Int) (s : Bool × List Int), (L.foldl nst1 s).2.length ≤ s.2.length + 6 * L.length := by
    intro L
    induction L with
    | nil => intro s; simp
    | cons v L ih =>
      intro s
      have h1 := ih (nst1 s v)
      have h2 := nst1_len s v
      simp only [List.foldl_cons, List.length_cons]
      omega
  intro L
  have := key L (false, [])
  simpa [nst] using this
theorem take_snoc (L : List Int) (k : Nat) (h : k < L.length) : L.take (k + 1) = L.take k ++ [L.getD k 0] := by
  rw [List.take_add_one, List.getElem?_eq_getElem h]
  simp [List.getD, List.getElem?_eq_getElem h]
theorem nst_take (L : List Int) (k : Nat) (h : k < L.length) : nst (L.take (k + 1)) = nst1 (nst (L.take k)) (L.getD k 0) := by rw [take_snoc L k h, nst_snoc]
theorem nmA_long {L : List Int} (h : 4096 < L.length) : nmA L = [] := if_pos (.inl h)
theorem nmA_bad {L : List Int} {k : Nat} (hk : k < L.length) (h : tell (L.getD k 0) = false) : nmA L = [] := by
  refine if_pos (.inr fun hh => ?_)
  have := hh (L.getD k 0) (by simp [List.getD, List.getElem?_eq_getElem hk])
  rw [h] at this; cases this
theorem nmA_all {L : List Int} (h : L.length ≤ 4096) (hh : ∀ k, k < L.length → tell (L.getD k 0) = true) : nmA L = if 4096 < (nst L).2.length then [] else (nst L).2 := by
  refine if_neg ?_
  rintro (h' | h')
  · omega
  · refine h' fun v hv => ?_
    obtain ⟨k, hk, rfl⟩ := List.getElem_of_mem hv
    have := hh k hk
    simpa [List.getD, List.getElem?_eq_getElem hk] using this
/-- the name -/
def nmS (L : List Int) : ByteArray := strOfNums (nmA L)
theorem nmS_nil {L : List Int} (h : nmA L = []) : nmS L = ⟨#[]⟩ := by unfold nmS; rw [h]; rfl

end Go.Proofs.Yteadhhhhnihoaaa

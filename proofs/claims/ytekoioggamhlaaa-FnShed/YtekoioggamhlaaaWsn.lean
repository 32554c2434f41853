/- Watershed, the specification: numbers. -/
import Derived.Test.YtekoioggamhlaaaWst
import Derived.Test.YtekoioggamhlaaaHom
import Derived.Test.YtekoioggamhlaaaUpd
namespace Go.Proofs.Ytekoioggamhlaaa
open Go.RowKit

abbrev dcP (b n : Nat) (f : Nat → Int) : OwnT := (some ⟨b, 0, none⟩, b, n, fun k => .int .i64 (f k))

/-- what the specification holds of a state -/
def SpI (n : Nat) (s : Ws) (O T V : Nat → Int) : Prop := ∀ q, q < n → (q ∈ s.W → O q = 0 ∧ T q = s.t q + 1 ∧ V q = s.o q) ∧ (q ∉ s.W → O q = s.o q ∧ (s.o q = 0 → T q = 0))
/-- a place that is through -/
def Dn (s : Ws) (a : Nat) : Prop := s.o a ≠ 0 ∧ a ∉ s.W
theorem SpI.free {n : Nat} {s : Ws} {O T V : Nat → Int} (h : SpI n s O T V) (hi : WsI n s) {q : Nat} (hq : q < n) : (O q = 0 ∧ T q = 0) ↔ s.o q = 0 := by
  by_cases hw : q ∈ s.W
  · obtain ⟨h1, h2, -⟩ := (h q hq).1 hw
    have := hi.tc q hw
    have := hi.own q hw
    constructor
    · rintro ⟨-, h3⟩; omega
    · intro h3; omega
  · obtain ⟨h1, h2⟩ := (h q hq).2 hw
    constructor
    · rintro ⟨h3, -⟩; omega
    · intro h3; exact ⟨by omega, h2 h3⟩
theorem SpI.wait {n : Nat} {s : Ws} {O T V : Nat → Int} (h : SpI n s O T V) (hi : WsI n s) {q : Nat} (hq : q < n) : (O q = 0 ∧ T q ≠ 0) ↔ q ∈ s.W := by
  by_cases hw : q ∈ s.W
  · obtain ⟨h1, h2, -⟩ := (h q hq).1 hw
    have := hi.tc q hw
    exact ⟨fun _ => hw, fun _ => ⟨h1, by omega⟩⟩
  · obtain ⟨h1, h2⟩ := (h q hq).2 hw
    exact ⟨fun ⟨h3, h4⟩ => absurd (h2 (by omega)) h4, fun h3 => absurd h3 hw⟩
theorem SpI.yes {n p x : Nat} {s : Ws} {O T V : Nat → Int} (h : SpI n s O T V) (hi : WsI n s) (hx : x < n) (h0 : s.o x = 0) (ho : O p = s.o p) : SpI n (ms1 p s (x : Int)) O (updN T x (s.c + 1)) (updN V x (O p)) := by
  have e : s.o (x : Int).toNat = 0 := by rw [Int.toNat_natCast]; exact h0
  rw [ms1_yes e]
  simp only [Int.toNat_natCast]
  obtain ⟨f1, f2⟩ := (h.free hi hx).2 h0
  intro q hq
  by_cases hqx : q = x
  · subst hqx
    refine ⟨fun _ => ⟨f1, ?_, ?_⟩, fun hn => absurd (List.mem_append_right _ (List.mem_singleton.2 rfl)) hn⟩
    · simp [updN]
    · simp [updN, ho]
  · have e1 : ∀ (F : Nat → Int) v, updN F x v q = F q := fun F v => by simp [updN, hqx]
    simp only [e1]
    refine ⟨fun hm => (h q hq).1 ?_, fun hm => (h q hq).2 (fun hw => hm (List.mem_append_left _ hw))⟩
    rcases List.mem_append.1 hm with hm | hm
    · exact hm
    · exact absurd (List.mem_singleton.1 hm) hqx
theorem SpI.take {n b : Nat} {s : Ws} {O T V : Nat → Int} (h : SpI n s O T V) (hi : WsI n s) (hb : b ∈ s.W) : SpI n (tk s b) (updN O b (V b)) T V := by
  intro q hq
  by_cases hqb : q = b
  · subst hqb
    refine ⟨fun hm => absurd hm hi.nd.not_mem_erase, fun _ => ⟨?_, fun h0 => absurd h0 (hi.own q hb)⟩⟩
    simp only [updN, if_true]
    exact ((h q hq).1 hb).2.2
  · have e1 : updN O b (V b) q = O q := by simp [updN, hqb]
    rw [e1]
    refine ⟨fun hm => (h q hq).1 (List.mem_of_mem_erase hm), fun hm => (h q hq).2 (fun hw => hm ((List.mem_erase_of_ne hqb).2 hw))⟩
theorem SpI.start {n : Nat} {o : Nat → Int} : SpI n (ws0 o) o (fun _ => 0) (fun _ => 0) := fun q _ => ⟨fun h => (by cases h), fun _ => ⟨rfl, fun _ => rfl⟩⟩
theorem Dn.ms1 {s : Ws} {a p : Nat} {x : Int} (h : Dn s a) : Dn (ms1 p s x) a := by
  refine ⟨by rw [ms1_own h.1]; exact h.1, ?_⟩
  by_cases e : s.o x.toNat = 0
  · rw [ms1_yes e]
    intro hm
    rcases List.mem_append.1 hm with hm | hm
    · exact h.2 hm
    · rw [List.mem_singleton.1 hm] at h; exact h.1 e
  · rw [ms1_no e]; exact h.2
/-- one list of places behind the other -/
def finA (nb : Nat → List Int) (s : Ws) (A : List Nat) : Ws := A.foldl (fun s a => msL a s (nb a)) s
theorem finA_cons (nb : Nat → List Int) (s : Ws) (a : Nat) (A : List Nat) : finA nb s (a :: A) = finA nb (msL a s (nb a)) A := rfl
theorem msL_cons (p : Nat) (s : Ws) (x : Int) (L : List Int) : msL p s (x :: L) = msL p (ms1 p s x) L := rfl
theorem finA_snoc (nb : Nat → List Int) (s : Ws) (a : Nat) (A : List Nat) : finA nb s (A ++ [a]) = msL a (finA nb s A) (nb a) := by simp [finA]
/-- the seeds, in their order -/
def sdL (g : Nat → Int) : Nat → List Nat
  | 0 => []
  | k + 1 => if g k ≠ 0 then sdL g k ++ [k] else sdL g k
theorem sdL_fin (g : Nat → Int) (nb : Nat → List Int) : ∀ k, finA nb (ws0 g) (sdL g k) = sd g nb k
  | 0 => rfl
  | k + 1 => by
    unfold sdL sd
    by_cases e : g k = 0
    · rw [if_neg (fun h => h e), if_neg (fun h => h e)]; exact sdL_fin g nb k
    · rw [if_pos e, if_pos e, finA_snoc, sdL_fin g nb k]
theorem sdL_in (g : Nat → Int) : ∀ k, ∀ a ∈ sdL g k, a < k ∧ g a ≠ 0
  | 0, a, h => by cases h
  | k + 1, a, h => by
    unfold sdL at h
    by_cases e : g k = 0
    · rw [if_neg (fun h => h e)] at h
      have := sdL_in g k a h
      exact ⟨by omega, this.2⟩
    · rw [if_pos e] at h
      rcases List.mem_append.1 h with h | h
      · have := sdL_in g k a h
        exact ⟨by omega, this.2⟩
      · rw [List.mem_singleton.1 h]; exact ⟨by omega, e⟩
theorem sdL_len (g : Nat → Int) : ∀ k, (sdL g k).length ≤ k
  | 0 => Nat.le_refl _
  | k + 1 => by
    unfold sdL
    have := sdL_len g k
    by_cases e : g k = 0
    · rw [if_neg (fun h => h e)]; omega
    · rw [if_pos e, List.length_append, List.length_singleton]; omega
def csW (S : List Nat) : List Int := S.map fun q : Nat => (q : Int)
theorem csW_len (S : List Nat) : (csW S).length = S.length := by simp [csW]
theorem csW_app (S T : List Nat) : csW (S ++ T) = csW S ++ csW T := by simp [csW]
theorem csW_at {S : List Nat} {k : Nat} {p : Nat} (h : S[k]? = some p) : (csW S).getD k 0 = p := by simp [csW, List.getD, h]
theorem St.updO {w0 : World} {L : List BoxT} {O1 O2 : List OwnT} {w : World} {b n : Nat} {s : Nat → Int} (h : St w0 L (O1 ++ dcP b n s :: O2) w) {k : Nat} (hk : k < n) (v : Int) :
    St w0 L (O1 ++ dcP b n (updN s k v) :: O2) (w.setCell ⟨b, k, none⟩ (.int .i64 v)) := by
  have hb : bk n b w = b := bk_pos (by omega)
  have hr : Row b n s w := by
    rcases h.ow _ (List.mem_append_right _ (List.mem_cons_self ..)) with h0 | ⟨-, h0⟩
    · exact absurd h0 (show n ≠ 0 by omega)
    · exact h0
  exact St.mark h (by rw [hb]; exact (Kept.refl b w).setCell rfl _) (by rw [hb]; exact .inr ⟨rfl, hr.updN hk v⟩)
theorem St.rowK {w0 : World} {L : List BoxT} {O : List OwnT} {w : World} {b n : Nat} {s : Nat → Int} (h : St w0 L O w) (i : Nat) (hm : O[i]? = some (dcP b n s)) (hn : 0 < n) : Row b n s w := by
  rcases h.nthO i hm with h0 | ⟨-, h0⟩
  · omega
  · exact h0
/-- what the search for the best one knows -/
def Bst (f : Nat → Int) (s : Ws) (k : Nat) (b : Int) : Prop := (b = -1 ∧ ∀ q ∈ s.W, k ≤ q) ∨ ∃ m : Nat, b = m ∧ m ∈ s.W ∧ ∀ q ∈ s.W, q < k → f m < f q ∨ (f m = f q ∧ s.t m ≤ s.t q)
theorem Bst.end' {f : Nat → Int} {s : Ws} {n : Nat} {b : Int} (hi : WsI n s) (h : Bst f s n b) : (b = -1 ∧ s.W = []) ∨ ∃ m : Nat, b = m ∧ Fst f s m := by
  rcases h with ⟨h1, h2⟩ | ⟨m, h1, h2, h3⟩
  · refine .inl ⟨h1, List.eq_nil_iff_forall_not_mem.2 fun q hq => ?_⟩
    have := h2 q hq
    have := hi.lt q hq
    omega
  · exact .inr ⟨m, h1, h2, fun q hq => h3 q hq (hi.lt q hq)⟩
theorem Bst.skip {f : Nat → Int} {s : Ws} {k : Nat} {b : Int} (h : Bst f s k b) (hk : k ∉ s.W) : Bst f s (k + 1) b := by
  rcases h with ⟨h1, h2⟩ | ⟨m, h1, h2, h3⟩
  · refine .inl ⟨h1, fun q hq => ?_⟩
    have := h2 q hq
    have : q ≠ k := fun e => hk (e ▸ hq)
    omega
  · refine .inr ⟨m, h1, h2, fun q hq hlt => h3 q hq ?_⟩
    have : q ≠ k := fun e => hk (e ▸ hq)
    omega
theorem Bst.first {f : Nat → Int} {s : Ws} {k : Nat} (h : Bst f s k (-1)) (hk : k ∈ s.W) : Bst f s (k + 1) k := by
  rcases h with ⟨h1, h2⟩ | ⟨m, h1, -⟩
  · refine .inr ⟨k, rfl, hk, fun q hq hlt => ?_⟩
    have := h2 q hq
    obtain rfl : q = k := by omega
    exact .inr ⟨rfl, Int.le_refl _⟩
  · omega
theorem Bst.better {f : Nat → Int} {s : Ws} {k m : Nat} (h : Bst f s k m) (hk : k ∈ s.W) (hb : f k < f m ∨ (f k = f m ∧ s.t k < s.t m)) : Bst f s (k + 1) k := by
  rcases h with ⟨h1, h2⟩ | ⟨m', h1, h2, h3⟩
  · omega
  · obtain rfl : m = m' := by omega
    refine .inr ⟨k, rfl, hk, fun q hq hlt => ?_⟩
    by_cases e : q = k
    · subst e; exact .inr ⟨rfl, Int.le_refl _⟩
    · have := h3 q hq (by omega)
      omega
theorem Bst.stay {f : Nat → Int} {s : Ws} {k m : Nat} (h : Bst f s k m) (hb : ¬ (f k < f m ∨ (f k = f m ∧ s.t k < s.t m))) : Bst f s (k + 1) m := by
  rcases h with ⟨h1, h2⟩ | ⟨m', h1, h2, h3⟩
  · omega
  · obtain rfl : m = m' := by omega
    refine .inr ⟨m, rfl, h2, fun q hq hlt => ?_⟩
    by_cases e : q = k
    · subst e; omega
    · exact h3 q hq (by omega)

theorem St.upto {w0 : World} {L : List BoxT} {O : List OwnT} {w w' : World} {B : Nat} (h : St w0 L O w) (hb : Below B w w') (hB : w0.heap.size ≤ B) (hL : ∀ b ∈ blocks L O, b < B) : St w0 L O w' :=
  ⟨h.below.trans (hb.mono hB), fun x hx => (h.bx x hx).below hb (hL _ (mem_blocks_box hx)), fun x hx => by
    rcases h.ow x hx with h0 | ⟨h1, h2⟩
    · exact .inl h0
    · by_cases h0 : x.2.2.1 = 0
      · exact .inl h0
      · exact .inr ⟨h1, h2.below hb (hL _ (mem_blocks_own hx h0))⟩, fun b hb' => ⟨(h.lt b hb').1, Nat.lt_of_lt_of_le (h.lt b hb').2 hb.size⟩, h.nd⟩
theorem blocks3 {L : List BoxT} {n x c1 c2 c3 : Nat} {f1 f2 f3 g1 g2 g3 : Nat → Int} (h : x ∈ blocks L [dcP c1 n f1, dcP c2 n f2, dcP c3 n f3]) : x ∈ blocks L [dcP c1 n g1, dcP c2 n g2, dcP c3 n g3] := by
  unfold blocks at h ⊢
  by_cases h0 : n = 0
  · simp [dcP, h0] at h ⊢; exact h
  · simp [dcP, h0] at h ⊢; exact h
theorem SpI.no {n p x : Nat} {s : Ws} {O T V : Nat → Int} (h : SpI n s O T V) (hi : WsI n s) (hx : x < n) (hn : O x ≠ 0 ∨ T x ≠ 0) : ms1 p s (x : Int) = s := ms1_no (by
  rw [Int.toNat_natCast]
  intro h0
  obtain ⟨h1, h2⟩ := (h.free hi hx).2 h0
  rcases hn with hn | hn
  · exact hn h1
  · exact hn h2)
theorem drop_at {α : Type} {L : List α} {k : Nat} {x : α} (h : L[k]? = some x) : L.drop k = x :: L.drop (k + 1) := by
  obtain ⟨hlt, e⟩ := List.getElem?_eq_some_iff.1 h
  rw [List.drop_eq_getElem_cons hlt, e]

end Go.Proofs.Ytekoioggamhlaaa

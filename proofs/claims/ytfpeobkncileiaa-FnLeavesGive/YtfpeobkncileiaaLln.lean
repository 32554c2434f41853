/- Leaves: numbers alone, and lists of leaves of the call's own. -/
import Derived.Test.YtfpeobkncileiaaLvn
import Derived.Test.YtfpeobkncileiaaGrk
import Derived.Test.YtfpeobkncileiaaDsn
namespace Go.Proofs.Ytfpeobkncileiaa
open Go.RowKit

/-- is it a row -/
def rlB (n : Nat) (f : Nat → Int) : Bool := decide (n ≤ 64) && alW f 0 1000 n
theorem rlB_parts {n : Nat} {f : Nat → Int} (h : rlB n f = true) : n ≤ 64 ∧ ∀ k, k < n → 0 ≤ f k ∧ f k ≤ 1000 := by
  unfold rlB at h
  rw [Bool.and_eq_true, decide_eq_true_eq] at h
  exact ⟨h.1, fun k hk => inB_iff.1 (alW_at h.2 hk)⟩
/-- the row with a nought ahead of it and behind it -/
def rr (f : Nat → Int) (n k : Nat) : Int := if k = 0 then 0 else if k ≤ n then f (k - 1) else 0
theorem rr_0 (f : Nat → Int) (n : Nat) : rr f n 0 = 0 := rfl
theorem rr_end (f : Nat → Int) (n : Nat) : rr f n (n + 1) = 0 := by unfold rr; rw [if_neg (by omega), if_neg (by omega)]
theorem rr_in {f : Nat → Int} {n k : Nat} (h : k < n) : rr f n (k + 1) = f k := by unfold rr; rw [if_neg (by omega), if_pos (by omega)]; rfl
theorem rr_bd {n : Nat} {f : Nat → Int} (h : ∀ k, k < n → 0 ≤ f k ∧ f k ≤ 1000) (k : Nat) : 0 ≤ rr f n k ∧ rr f n k ≤ 1000 := by
  unfold rr
  by_cases h0 : k = 0
  · rw [if_pos h0]; omega
  · rw [if_neg h0]
    by_cases h1 : k ≤ n
    · rw [if_pos h1]; exact h (k - 1) (by omega)
    · rw [if_neg h1]; omega
/-- the places of the steps up, down, of the first i steps -/
def upL (g : Nat → Int) : Nat → List Int
  | 0 => []
  | i + 1 => upL g i ++ List.replicate (g (i + 1) - g i).toNat (i : Int)
def dnL (g : Nat → Int) : Nat → List Int
  | 0 => []
  | i + 1 => dnL g i ++ List.replicate (g i - g (i + 1)).toNat (i : Int)
theorem ud_len (g : Nat → Int) : ∀ k, ((upL g k).length : Int) - (dnL g k).length = g k - g 0
  | 0 => by simp [upL, dnL]
  | k + 1 => by
    have := ud_len g k
    unfold upL dnL
    rw [List.length_append, List.length_append, List.length_replicate, List.length_replicate]
    omega
theorem up_bd {g : Nat → Int} (h : ∀ k, 0 ≤ g k ∧ g k ≤ 1000) : ∀ k, (upL g k).length ≤ 1000 * k
  | 0 => by simp [upL]
  | k + 1 => by
    have := up_bd h k
    have h1 := h k
    have h2 := h (k + 1)
    unfold upL
    rw [List.length_append, List.length_replicate]
    omega
theorem dn_bd {g : Nat → Int} (h : ∀ k, 0 ≤ g k ∧ g k ≤ 1000) : ∀ k, (dnL g k).length ≤ 1000 * k
  | 0 => by simp [dnL]
  | k + 1 => by
    have := dn_bd h k
    have h1 := h k
    have h2 := h (k + 1)
    unfold dnL
    rw [List.length_append, List.length_replicate]
    omega
theorem rep_step (L : List Int) (t : Nat) (x : Int) : L ++ List.replicate t x ++ [x] = L ++ List.replicate (t + 1) x := by
  rw [List.append_assoc]
  congr 1
  rw [← List.replicate_succ']
/-- is the last leaf of these two places -/
def lasB (G : List Int) (u d : Int) : Bool := decide (0 < G.length) && (decide (G.getD (G.length - 3) 0 = u) && decide (G.getD (G.length - 2) 0 = d))
/-- the leaves of the first k openings, flat -/
def gat (U D : List Int) : Nat → List Int
  | 0 => []
  | k + 1 => if lasB (gat U D k) (U.getD k 0) (D.getD k 0) = true then (gat U D k).set ((gat U D k).length - 1) ((gat U D k).getD ((gat U D k).length - 1) 0 + 1) else gat U D k ++ [U.getD k 0, D.getD k 0, 1]
/-- how many -/
def gtc (U D : List Int) : Nat → Nat
  | 0 => 0
  | k + 1 => if lasB (gat U D k) (U.getD k 0) (D.getD k 0) = true then gtc U D k else gtc U D k + 1
theorem gat_t {U D : List Int} {k : Nat} (h : lasB (gat U D k) (U.getD k 0) (D.getD k 0) = true) : gat U D (k + 1) = (gat U D k).set ((gat U D k).length - 1) ((gat U D k).getD ((gat U D k).length - 1) 0 + 1) ∧ gtc U D (k + 1) = gtc U D k := ⟨if_pos h, if_pos h⟩
theorem gat_f {U D : List Int} {k : Nat} (h : lasB (gat U D k) (U.getD k 0) (D.getD k 0) = false) : gat U D (k + 1) = gat U D k ++ [U.getD k 0, D.getD k 0, 1] ∧ gtc U D (k + 1) = gtc U D k + 1 := ⟨if_neg (by rw [h]; simp), if_neg (by rw [h]; simp)⟩
theorem gat_len (U D : List Int) : ∀ k, (gat U D k).length = gtc U D k * 3 ∧ gtc U D k ≤ k
  | 0 => ⟨rfl, Nat.le_refl _⟩
  | k + 1 => by
    have ih := gat_len U D k
    cases h : lasB (gat U D k) (U.getD k 0) (D.getD k 0)
    · rw [(gat_f h).1, (gat_f h).2, List.length_append]
      simp
      omega
    · rw [(gat_t h).1, (gat_t h).2, List.length_set]
      omega
theorem gat_unit (U D : List Int) : ∀ k, 0 ≤ (gat U D k).getD ((gat U D k).length - 1) 0 ∧ (gat U D k).getD ((gat U D k).length - 1) 0 ≤ k
  | 0 => by simp [gat]
  | k + 1 => by
    have ih := gat_unit U D k
    have hl := gat_len U D k
    cases h : lasB (gat U D k) (U.getD k 0) (D.getD k 0)
    · rw [(gat_f h).1, List.length_append]
      have : (gat U D k ++ [U.getD k 0, D.getD k 0, 1]).getD ((gat U D k).length + [U.getD k 0, D.getD k 0, 1].length - 1) 0 = 1 := by
        rw [show (gat U D k).length + [U.getD k 0, D.getD k 0, 1].length - 1 = (gat U D k).length + 2 by simp]
        simp only [List.getD]
        rw [List.getElem?_append_right (by omega)]
        simp
      rw [this]; omega
    · rw [(gat_t h).1, List.length_set]
      have h0 : 0 < (gat U D k).length := by
        unfold lasB at h
        rw [Bool.and_eq_true, decide_eq_true_eq] at h
        exact h.1
      have : ((gat U D k).set ((gat U D k).length - 1) ((gat U D k).getD ((gat U D k).length - 1) 0 + 1)).getD ((gat U D k).length - 1) 0 = (gat U D k).getD ((gat U D k).length - 1) 0 + 1 := by
        simp only [List.getD]
        rw [List.getElem?_set_self (by omega)]
        rfl
      rw [this]; omega
/-- the steps of a row -/
def lvU (n : Nat) (f : Nat → Int) : List Int := upL (rr f n) (n + 1)
def lvD (n : Nat) (f : Nat → Int) : List Int := dnL (rr f n) (n + 1)
theorem lv_len (n : Nat) (f : Nat → Int) : (lvU n f).length = (lvD n f).length := by
  have := ud_len (rr f n) (n + 1)
  rw [rr_end, rr_0] at this
  unfold lvU lvD
  omega
def lvF (n : Nat) (f : Nat → Int) : List Int := gat (lvU n f) (lvD n f) (lvU n f).length
def lvC (n : Nat) (f : Nat → Int) : Nat := gtc (lvU n f) (lvD n f) (lvU n f).length
def lvN (n : Nat) (f : Nat → Int) : Nat := if rlB n f = true then lvC n f else 0
theorem lvN_le (n : Nat) (f : Nat → Int) : lvN n f ≤ 1048576 := by
  unfold lvN
  cases h : rlB n f
  · simp
  · obtain ⟨h1, h2⟩ := rlB_parts h
    have := (gat_len (lvU n f) (lvD n f) (lvU n f).length).2
    have h3 := up_bd (rr_bd h2) (n + 1)
    rw [if_pos rfl]
    unfold lvC
    unfold lvU at this ⊢
    omega
/-- leaves are answered -/
def LfR (n : Nat) (s : Nat → Int) (w : World) (e : Ending) (w' : World) : Prop :=
  ∃ a cap b, e = .returned (.slice a n cap) ∧ Ow a b (n * 3) s w' ∧ (n * 3 = 0 ∨ w.heap.size ≤ b) ∧ Below w.heap.size w w'
theorem LfR.ofL {w w' : World} {v : Value} {n : Nat} {L : List Int} (h : w'.ownsRow w.heap.size 42 3 v n (ints L)) (hb : Below w.heap.size w w') : LfR n (fun q => L.getD q 0) w (.returned v) w' := by
  by_cases hn : 0 < n
  · obtain ⟨a, cap, b, hv, ho, hB, _⟩ := ow_of_some h hn
    exact ⟨a, cap, b, by rw [hv], ho, .inr hB, hb⟩
  · obtain ⟨hlen, hv | ⟨b, cap, cur, hv, _⟩⟩ := h
    · obtain ⟨rfl, rfl⟩ := hv
      exact ⟨_, _, 0, rfl, .inl (by omega), .inl (by omega), hb⟩
    · obtain rfl : n = 0 := by omega
      exact ⟨_, _, 0, by rw [hv], .inl rfl, .inl rfl, hb⟩
theorem own_partsF {w : World} {B n : Nat} {v : Value} {L : List Int} (h : w.ownsRow B 42 3 v n (ints L)) (hn : 0 < n) :
    ∃ b cap, v = .slice (some ⟨b, 0, none⟩) n cap ∧ B ≤ b ∧ ∀ k, k < n * 3 → w.cell? ⟨b, k, none⟩ = some (.int .i64 (L.getD k 0)) ∧ w.frozen? ⟨b, k, none⟩ = false := by
  obtain ⟨a, cap, b, hv, ho, hB, _⟩ := ow_of_some h hn
  rcases ho with h0 | ⟨ha, hr⟩
  · omega
  · exact ⟨b, cap, by rw [hv, ha], hB, fun k hk => hr k hk⟩
theorem own_setF {w : World} {B n b cap : Nat} {L : List Int} (h : w.ownsRow B 42 3 (.slice (some ⟨b, 0, none⟩) n cap) n (ints L)) (k : Nat) (z : Int) :
    (w.setCell ⟨b, k, none⟩ (.int .i64 z)).ownsRow B 42 3 (.slice (some ⟨b, 0, none⟩) n cap) n (ints (L.set k z)) := by
  obtain ⟨h1, h2⟩ := h
  refine ⟨by rw [ints_length] at h1 ⊢; rw [List.length_set]; exact h1, ?_⟩
  rcases h2 with ⟨hv, _⟩ | ⟨b', cap', cur, hv, hB, hh, hn, hc, hs, ht⟩
  · cases hv
  · cases hv
    refine .inr ⟨b, cap, cur.setIfInBounds k (.int .i64 z), rfl, hB, ?_, hn, hc, by rw [Array.size_setIfInBounds]; exact hs, ?_⟩
    · rw [heap_setCell_same w b k cur 42 _ hh]
    · rw [Array.toList_setIfInBounds, List.take_set, ht]
      unfold ints
      rw [List.map_set]
theorem kpV_set (w : World) (b k : Nat) (z : Value) (x : Option Nat) (n c : Nat) : KpV (.slice (some ⟨b, 0, x⟩) n c) w (w.setCell ⟨b, k, none⟩ z) := fun q hq hne => by
  have hbq : b ≠ q := fun e => hne (by rw [e]; rfl)
  unfold World.setCell
  simp [Array.getElem?_modify, hbq]
set_option maxRecDepth 100000 in
theorem infoL : ∃ i, Try.prog.info? 42 = some i ∧ i.zero = some (vLeaf 0 0 0) ∧ i.size = 3 ∧ i.bytes = 24 := ⟨_, rfl, rfl, rfl, rfl⟩
theorem growLf (w : World) {ops : Array Oper} {rest : List Oper} {o : Oper} {a : Act} {Q : Exit → Act → World → Prop} (hgd : o.guard = none) (s x : Operand)
    (ho : o.op = .call { callee := .builtin .append, args := #[s, x], argTypes := #[26, 26] }) (B : Nat) (v : Value) (n : Nat) (L : List Int) (hs : a.eval s = v) (w0 : World) (hown : w.ownsRow B 42 3 v n (ints L))
    (hb : Below B w0 w) (hB : B ≤ w.heap.size) (z0 z1 z2 : Int) (hx : a.eval x = .slice (some ⟨w.heap.size, 0, none⟩) 1 1) (hn : n ≤ 1048576)
    (h : ∀ v' w', w'.ownsRow B 42 3 v' (n + 1) (ints (L ++ [z0, z1, z2])) → Below B w0 w' → w.heap.size < w'.heap.size → KpV v w w' → Moved v v' w → wpList Try.prog ops Q rest (a.put o.dst v') w') :
    wpList Try.prog ops Q (o :: rest) a (w.alloc (.cells #[.int .i64 z0, .int .i64 z1, .int .i64 z2] 42)) := by
  obtain ⟨ti, hi1, hi2, hi3, hi4⟩ := infoL
  exact growM w hgd s x 26 ho B 42 ti (vLeaf 0 0 0) 3 24 Try.underlying26 hi1 hi2 hi3 hi4 rfl (by omega) v n L hs w0 hown hb hB [z0, z1, z2] 1 1 hx rfl (by omega) (by unfold maxLen; omega) (by omega) h

end Go.Proofs.Ytfpeobkncileiaa

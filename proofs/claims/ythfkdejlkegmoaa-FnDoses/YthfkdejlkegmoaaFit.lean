/- Exposures that fit: numbers, and appends of exposures. -/
import Derived.Test.YthfkdejlkegmoaaDob
namespace Go.Proofs.Ythfkdejlkegmoaa
open Go.RowKit

/-- the book and what is given, when k exposures are through -/
def ftS (g lim : Nat → Int) : Nat → (Nat → Int) × List Int
  | 0 => (fun _ => 0, [])
  | k + 1 => if (ftS g lim k).1 (g (k * 2)).toNat + g (k * 2 + 1) ≤ lim (g (k * 2)).toNat then (Lnm.upd (ftS g lim k).1 (g (k * 2)).toNat ((ftS g lim k).1 (g (k * 2)).toNat + g (k * 2 + 1)), (ftS g lim k).2 ++ [g (k * 2), g (k * 2 + 1)]) else ftS g lim k
def ftB (n : Nat) (g : Nat → Int) (m : Nat) (lim : Nat → Int) : Bool := exB n g && (decide (m = 32) && alW lim 0 1000000000000 m)
def ftL (n : Nat) (g : Nat → Int) (m : Nat) (lim : Nat → Int) : List Int := if ftB n g m lim = true then (ftS g lim n).2 else []

theorem ft_bound {g lim : Nat → Int} : ∀ {k : Nat}, exA g k = true → ∀ o, 0 ≤ (ftS g lim k).1 o ∧ (ftS g lim k).1 o ≤ 1000000 * (k : Int)
  | 0, _, o => by simp [ftS]
  | k + 1, h, o => by
    have hk : exA g k = true := by unfold exA at h; rw [Bool.and_eq_true] at h; exact h.1
    obtain ⟨_, h1, h2⟩ := exA_at h (show k < k + 1 by omega)
    have a1 := ft_bound (lim := lim) hk o
    have a2 := ft_bound (lim := lim) hk (g (k * 2)).toNat
    unfold ftS
    split
    · show 0 ≤ Lnm.upd _ _ _ o ∧ Lnm.upd _ _ _ o ≤ _
      unfold Lnm.upd
      split <;> omega
    · omega
theorem ft_len (g lim : Nat → Int) : ∀ k, ∃ r, (ftS g lim k).2.length = r * 2 ∧ r ≤ k
  | 0 => ⟨0, rfl, by omega⟩
  | k + 1 => by
    obtain ⟨r, h1, h2⟩ := ft_len g lim k
    unfold ftS
    split
    · exact ⟨r + 1, by simp; omega, by omega⟩
    · exact ⟨r, h1, by omega⟩

/-- a list of exposures is answered -/
def FtR (L : List Int) (w : World) (e : Ending) (w' : World) : Prop :=
  ∃ a cap b r, L.length = r * 2 ∧ e = .returned (.slice a r cap) ∧ Ow a b (r * 2) (fun q => L.getD q 0) w' ∧ (r * 2 = 0 ∨ w.heap.size ≤ b) ∧ Below w.heap.size w w'

theorem ow_exp {w : World} {B r : Nat} {v : Value} {L : List Int} (h : w.ownsRow B 32 2 v r (ints L)) (hL : L.length = r * 2) : ∃ a cap b, v = .slice a r cap ∧ Ow a b (r * 2) (fun q => L.getD q 0) w ∧ (r * 2 = 0 ∨ B ≤ b) := by
  by_cases h0 : r = 0
  · obtain ⟨hlen, hv | ⟨b, cap, cur, hv, hg, hcur, _, hm, _, _⟩⟩ := h
    · obtain ⟨rfl, rfl⟩ := hv
      exact ⟨none, 0, B, rfl, .inl (by omega), .inl (by omega)⟩
    · exact ⟨_, _, b, hv, .inl (by omega), .inl (by omega)⟩
  · obtain ⟨a, cap, b, hv, ho, hB, _⟩ := ow_of_some h (by omega)
    exact ⟨a, cap, b, hv, ho, .inr hB⟩

/-- a block of numbers -/
def TyB (B : Nat) (w : World) : Prop := ∃ cs, w.heap[B]? = some (.cells cs 2)
theorem TyB.ne {B : Nat} {w : World} (h : TyB B w) {base n : Nat} {v : Value} {xs : List Value} (ho : w.ownsRow base 32 2 v n xs) : v.ownBlock ≠ some B := by
  obtain ⟨cs, hcs⟩ := h
  intro e
  obtain ⟨_, hv | ⟨b, cap, cur, hv, _, hcur, _⟩⟩ := ho
  · rw [hv.1] at e; cases e
  · rw [hv] at e
    have : b = B := by simpa [Value.ownBlock] using e
    subst this
    rw [hcs] at hcur
    cases hcur
theorem TyB.below {B : Nat} {w w' : World} (h : TyB B w) (hb : Below w.heap.size w w') : TyB B w' := by
  obtain ⟨cs, hcs⟩ := h
  exact ⟨cs, (hb.block B (Array.getElem?_eq_some_iff.1 hcs).1).trans hcs⟩
theorem TyB.grown {B : Nat} {w w' : World} {row : Option Nat} (h : TyB B w) (hg : w.grownBy w' row) (hr : row ≠ some B) : TyB B w' := by
  obtain ⟨cs, hcs⟩ := h
  exact ⟨cs, (hg.block B (Array.getElem?_eq_some_iff.1 hcs).1 (fun e => hr e.symm)).trans hcs⟩
theorem TyB.set {B : Nat} {w : World} (h : TyB B w) (k : Nat) (v : Value) : TyB B (w.setCell ⟨B, k, none⟩ v) := by
  obtain ⟨cs, hcs⟩ := h
  refine ⟨cs.setIfInBounds k v, ?_⟩
  unfold World.setCell
  simp [Array.getElem?_modify, hcs]
theorem Row.grown {b n : Nat} {f : Nat → Int} {w w' : World} {row : Option Nat} (h : Row b n f w) (hg : w.grownBy w' row) (hr : row ≠ some b) : Row b n f w' := fun k hk => by
  have h1 := (h k hk).1
  have hl := World.block_lt_of_cell? w _ h1
  have e := hg.block b hl (fun e => hr e.symm)
  have := World.cell?_of_block (a := ⟨b, k, none⟩) e
  have h2 := World.frozen?_of_block (a := ⟨b, k, none⟩) e
  exact ⟨this.trans h1, h2.trans (h k hk).2⟩

set_option maxRecDepth 100000 in
theorem infoE : ∃ i, Try.prog.info? 32 = some i ∧ i.zero = some (vExp 0 0) ∧ i.size = 2 ∧ i.bytes = 16 := ⟨_, rfl, rfl, rfl, rfl⟩

/-- an exposure is appended to a list of the call's own -/
theorem growE (w : World) {ops : Array Oper} {rest : List Oper} {o : Oper} {a : Act} {Q : Exit → Act → World → Prop} (hgd : o.guard = none) (s x : Operand)
    (ho : o.op = .call { callee := .builtin .append, args := #[s, x], argTypes := #[24, 24] }) (base : Nat) (v : Value) (n : Nat) (L : List Int) (hs : a.eval s = v) (w0 : World) (hown : w.ownsRow base 32 2 v n (ints L))
    (hb : Below base w0 w) (hB : base ≤ w.heap.size) (B : Nat) (hT : TyB B w) (x0 x1 : Int) (hx : a.eval x = .slice (some ⟨w.heap.size, 0, none⟩) 1 1) (hn : n ≤ 1048576) {m : Nat} {f : Nat → Int} (hr : Row B m f w)
    (h : ∀ v' w', w'.ownsRow base 32 2 v' (n + 1) (ints (L ++ [x0, x1])) → Below base w0 w' → TyB B w' → Row B m f w' → base ≤ w'.heap.size → wpList Try.prog ops Q rest (a.put o.dst v') w') :
    wpList Try.prog ops Q (o :: rest) a (w.alloc (.cells #[.int .i64 x0, .int .i64 x1] 32)) := by
  obtain ⟨ti, hi1, hi2, hi3, hi4⟩ := infoE
  have hsw : w.heap.size < (w.alloc (.cells #[.int .i64 x0, .int .i64 x1] 32)).heap.size := by simp
  refine wpList_append_own _ hgd s x 24 ho base 32 ti (vExp 0 0) 2 16 Try.underlying24 hi1 hi2 hi3 hi4 rfl (by omega) v n (ints L) hs (hown.alloc _) ⟨w.heap.size, 0, none⟩ 1 1 (ints [x0, x1]) hx rfl (new_cells w (ints [x0, x1]) 32) (ints_one _) (by unfold maxLen; omega) (by omega) (Nat.le_trans hB (Nat.le_of_lt hsw)) ?_
  intro v' w' h1 h2 _
  have hne := hT.ne hown
  have hr3 : ∀ q, Value.ownBlock v = some q → base ≤ q := fun q hq => (hown.lt q hq).1
  have hB3 : Below base (w.alloc (.cells #[.int .i64 x0, .int .i64 x1] 32)) w' := (Below.refl _ _).grown h2 (Nat.le_trans hB (Nat.le_of_lt hsw)) hr3
  refine h v' w' ?_ ((hb.alloc hB _).trans hB3) ((hT.below (bnew _ _)).grown h2 hne) ?_ (Nat.le_trans hB (Nat.le_trans (Nat.le_of_lt hsw) hB3.size))
  · rw [ints_append]; exact h1
  · refine Row.grown (fun k hk => ?_) h2 hne
    have h5 := hr k hk
    have hl := World.block_lt_of_cell? w _ h5.1
    have hbn := bnew w (.cells #[.int .i64 x0, .int .i64 x1] 32)
    rw [hbn.cell (p := ⟨B, k, none⟩) hl, hbn.frozen (p := ⟨B, k, none⟩) hl]; exact h5

end Go.Proofs.Ythfkdejlkegmoaa

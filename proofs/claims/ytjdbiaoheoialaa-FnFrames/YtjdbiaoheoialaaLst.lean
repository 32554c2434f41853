/- Lists of whole numbers in memory, cell by cell. -/
import Derived.WalkKit
import Derived.Below
import Derived.WalkSmall
import Derived.BigQuiet
import Derived.Deep.QuietTactic
import Derived.OwnWalk
import Derived.Deep.DeepCutAuto
import Derived.Deep.RegionHeld
import Derived.Test.YtjdbiaoheoialaaChecked
namespace Go.Proofs.Ytjdbiaoheoialaa
open Go.RowKit

/-- is n from lo to hi -/
def inB (n lo hi : Int) : Bool := decide (lo ≤ n) && decide (n ≤ hi)

theorem hide {p : Prop} (h : p) : Hid p := h
theorem bnew (w : World) (o : Obj) : Below w.heap.size w (w.alloc o) := (Below.refl _ _).alloc (Nat.le_refl _) _
theorem bnext {B : Nat} {W w1 w2 : World} (h : Below B W w1) (hB : B ≤ W.heap.size) (h2 : Below w1.heap.size w1 w2) : Below B W w2 :=
  h.trans (h2.mono (Nat.le_trans hB h.size))
theorem natb {a b : Int} {P Q : Nat} (ha : a.natAbs ≤ P) (hb : b.natAbs ≤ Q) : (a * b).natAbs ≤ P * Q := by
  rw [Int.natAbs_mul]; exact Nat.mul_le_mul ha hb
theorem nata {a b : Int} {P Q : Nat} (ha : a.natAbs ≤ P) (hb : b.natAbs ≤ Q) : (a + b).natAbs ≤ P + Q :=
  Nat.le_trans (Int.natAbs_add_le a b) (Nat.add_le_add ha hb)
theorem wrapn {x : Int} {P : Nat} (h : x.natAbs ≤ P) (hP : P ≤ 4611686018427387904) : IntKind.i64.wrap x = x := by
  rw [IntKind.wrap_i64]; omega

/-- do all below n keep it -/
def allG (p : Nat → Bool) : Nat → Bool
  | 0 => true
  | n + 1 => allG p n && p n
theorem allG_at {p : Nat → Bool} : ∀ {n : Nat}, allG p n = true → ∀ k, k < n → p k = true
  | n + 1, h, k, hk => by
    simp only [allG, Bool.and_eq_true] at h
    by_cases e : k = n
    · rw [e]; exact h.2
    · exact allG_at h.1 k (by omega)
theorem allG_no {p : Nat → Bool} : ∀ {n : Nat} (k : Nat), k < n → p k = false → allG p n = false
  | n + 1, k, hk, h => by
    by_cases e : k = n
    · subst e; simp [allG, h]
    · have := allG_no (n := n) k (by omega) h
      simp [allG, this]

/-- a slice holds these numbers, cell by cell -/
def Px (a : Option Addr) (len : Nat) (f : Nat → Int) (w : World) : Prop :=
  len = 0 ∨ ∃ b off, a = some ⟨b, off, none⟩ ∧ ∀ k, k < len → w.cell? ⟨b, off + k, none⟩ = some (.int .i64 (f k))
theorem Px.below {a : Option Addr} {len : Nat} {f : Nat → Int} {w w' : World} (h : Px a len f w) (hb : Below w.heap.size w w') : Px a len f w' := by
  rcases h with h | ⟨b, off, ha, h⟩
  · exact .inl h
  · refine .inr ⟨b, off, ha, fun k hk => ?_⟩
    rw [hb.cell (World.block_lt_of_cell? w _ (h k hk))]; exact h k hk

/-- a row of its own at block b holds these numbers, and may be written -/
def Row (b len : Nat) (f : Nat → Int) (w : World) : Prop :=
  ∀ k, k < len → w.cell? ⟨b, k, none⟩ = some (.int .i64 (f k)) ∧ w.frozen? ⟨b, k, none⟩ = false
/-- a row that is being filled: its first k numbers are there -/
def Part (b len k : Nat) (f : Nat → Int) (w : World) : Prop :=
  ∀ j, j < len → (∃ z, w.cell? ⟨b, j, none⟩ = some (.int .i64 z) ∧ (j < k → z = f j)) ∧ w.frozen? ⟨b, j, none⟩ = false
theorem Row.part {b len : Nat} {f g : Nat → Int} {w : World} (h : Row b len g w) : Part b len 0 f w :=
  fun j hj => ⟨⟨_, (h j hj).1, fun h => absurd h (Nat.not_lt_zero _)⟩, (h j hj).2⟩
theorem Part.row {b len : Nat} {f : Nat → Int} {w : World} (h : Part b len len f w) : Row b len f w := fun j hj => by
  obtain ⟨⟨z, hz, e⟩, fr⟩ := h j hj
  rw [e hj] at hz
  exact ⟨hz, fr⟩
theorem Part.step {b len k : Nat} {f : Nat → Int} {w : World} (h : Part b len k f w) (hk : k < len) (z : Int) (hz : z = f k) : Part b len (k + 1) f (w.setCell ⟨b, k, none⟩ (.int .i64 z)) := by
  intro j hj
  obtain ⟨⟨y, hy, e⟩, fr⟩ := h j hj
  refine ⟨?_, by simpa using fr⟩
  by_cases hjk : j = k
  · subst hjk
    exact ⟨z, World.cell?_setCell_same _ _ _ hy, fun _ => hz⟩
  · exact ⟨y, by rw [World.cell?_setCell_other _ _ _ _ (by simp)]; exact hy, fun h => e (by omega)⟩
theorem Part.below {b len k B : Nat} {g : Nat → Int} {w w' : World} (h : Part b len k g w) (hb : Below B w w') (hB : b < B) : Part b len k g w' := by
  intro j hj
  rw [hb.cell (p := ⟨b, j, none⟩) hB, hb.frozen (p := ⟨b, j, none⟩) hB]
  exact h j hj
theorem Row.below {b len B : Nat} {f : Nat → Int} {w w' : World} (h : Row b len f w) (hb : Below B w w') (hB : b < B) : Row b len f w' := fun k hk => by
  rw [hb.cell (p := ⟨b, k, none⟩) hB, hb.frozen (p := ⟨b, k, none⟩) hB]
  exact h k hk
theorem Row.px {b len : Nat} {f : Nat → Int} {w : World} (h : Row b len f w) : Px (some ⟨b, 0, none⟩) len f w :=
  .inr ⟨b, 0, rfl, fun k hk => by rw [Nat.zero_add]; exact (h k hk).1⟩
theorem Row.congr {b n : Nat} {f f' : Nat → Int} {w : World} (h : Row b n f w) (e : ∀ q, q < n → f q = f' q) : Row b n f' w := fun q hq => by rw [← e q hq]; exact h q hq

/-- what was there before stays, but for the block p -/
structure Kept (p : Nat) (w w' : World) : Prop where
  os : w'.os = w.os
  tape : w'.tape = w.tape
  output : w'.output = w.output
  size : w.heap.size ≤ w'.heap.size
  block : ∀ k, k < w.heap.size → k ≠ p → w'.heap[k]? = w.heap[k]?
theorem Kept.of_below {p : Nat} {w w' : World} (h : Below w.heap.size w w') : Kept p w w' := ⟨h.os, h.tape, h.output, h.size, fun k hk _ => h.block k hk⟩
theorem Kept.refl (p : Nat) (w : World) : Kept p w w := Kept.of_below (Below.refl _ _)
theorem Kept.trans {p : Nat} {a b c : World} (h : Kept p a b) (k : Kept p b c) : Kept p a c :=
  ⟨k.os.trans h.os, k.tape.trans h.tape, k.output.trans h.output, Nat.le_trans h.size k.size, fun j hj hp => (k.block j (Nat.lt_of_lt_of_le hj h.size) hp).trans (h.block j hj hp)⟩
theorem Kept.below {p B : Nat} {w w' : World} (h : Kept p w w') (h1 : B ≤ p) (h2 : B ≤ w.heap.size) : Below B w w' :=
  ⟨h.os, h.tape, h.output, h.size, fun k hk => h.block k (Nat.lt_of_lt_of_le hk h2) (by omega)⟩
theorem Kept.cell {p : Nat} {w w' : World} (h : Kept p w w') {a : Addr} {v : Value} (hp : a.block ≠ p) (hv : w.cell? a = some v) : w'.cell? a = some v := by
  rw [World.cell?_of_block (w := w) (h.block a.block (World.block_lt_of_cell? w a hv) hp)]; exact hv
theorem Kept.frozen {p : Nat} {w w' : World} (h : Kept p w w') {a : Addr} {v : Value} (hp : a.block ≠ p) (hv : w.cell? a = some v) : w'.frozen? a = w.frozen? a := by
  have := h.block a.block (World.block_lt_of_cell? w a hv) hp
  simp only [World.frozen?, this]
theorem Kept.setCell {p : Nat} {w w' : World} (h : Kept p w w') {a : Addr} (hp : a.block = p) (v : Value) : Kept p w (w'.setCell a v) :=
  ⟨h.os, h.tape, h.output, by simpa using h.size, fun k hk hk2 => (Below.heap_setCell w' a v k (by omega)).trans (h.block k hk hk2)⟩
theorem Kept.drew {p : Nat} {w w' : World} (h : Kept p w w') : Kept p w w'.drew := ⟨h.os, h.tape, h.output, h.size, h.block⟩

/-- a list of its own: no number, or a row at block b -/
def Ow (a : Option Addr) (b len : Nat) (f : Nat → Int) (w : World) : Prop := len = 0 ∨ (a = some ⟨b, 0, none⟩ ∧ Row b len f w)
theorem Ow.px {a : Option Addr} {b len : Nat} {f : Nat → Int} {w : World} (h : Ow a b len f w) : Px a len f w := by
  rcases h with h | ⟨rfl, h⟩
  · exact .inl h
  · exact h.px
theorem Ow.kept {a : Option Addr} {b len p : Nat} {f : Nat → Int} {w w' : World} (h : Ow a b len f w) (hk : Kept p w w') (hb : b ≠ p) : Ow a b len f w' := by
  rcases h with h | ⟨rfl, h⟩
  · exact .inl h
  · refine .inr ⟨rfl, fun j hj => ⟨hk.cell hb (h j hj).1, ?_⟩⟩
    rw [hk.frozen hb (h j hj).1]; exact (h j hj).2
theorem Ow.below {a : Option Addr} {b len : Nat} {f : Nat → Int} {w w' : World} (h : Ow a b len f w) (hb : Below w.heap.size w w') (hl : b < w.heap.size) : Ow a b len f w' := by
  rcases h with h | ⟨rfl, h⟩
  · exact .inl h
  · exact .inr ⟨rfl, h.below hb hl⟩
theorem Ow.of_row {b n : Nat} {f : Nat → Int} {w : World} (h : Row b n f w) : Ow (some ⟨b, 0, none⟩) b n f w := .inr ⟨rfl, h⟩

theorem ownsRow_below' {B : Nat} {e : TypeId} {k : Nat} {v : Value} {n : Nat} {xs : List Value} {w w' : World} (h : w.ownsRow B e k v n xs) (hb : Below w.heap.size w w') : w'.ownsRow B e k v n xs := by
  refine ⟨h.1, ?_⟩
  rcases h.2 with hn | ⟨g, cap, cur, hv, hB, hg, rest⟩
  · exact .inl hn
  · refine .inr ⟨g, cap, cur, hv, hB, ?_, rest⟩
    have hlt : g < w.heap.size := by
      rcases Nat.lt_or_ge g w.heap.size with h | h
      · exact h
      · rw [Array.getElem?_eq_none (by omega)] at hg; cases hg
    rw [hb.block g hlt]; exact hg

/-- the first n numbers as cells -/
def pixL (f : Nat → Int) : Nat → List Value
  | 0 => []
  | n + 1 => pixL f n ++ [.int .i64 (f n)]
theorem pixL_length (f : Nat → Int) : ∀ n, (pixL f n).length = n
  | 0 => rfl
  | n + 1 => by simp [pixL, pixL_length f n]
theorem pixL_at (f : Nat → Int) : ∀ (n k : Nat), k < n → (pixL f n)[k]? = some (.int .i64 (f k))
  | n + 1, k, hk => by
    simp only [pixL]
    by_cases e : k = n
    · subst e
      rw [List.getElem?_append_right (by rw [pixL_length]; omega), pixL_length]
      simp
    · rw [List.getElem?_append_left (by rw [pixL_length]; omega)]
      exact pixL_at f n k (by omega)

/-- an own row whose cells are these numbers -/
theorem ow_of_owns {w : World} {B n m : Nat} {e : TypeId} {v : Value} {f : Nat → Int} (h : w.ownsRow B e m v n (pixL f (n * m))) (hB : B < w.heap.size) : ∃ a cap b, v = .slice a n cap ∧ Ow a b (n * m) f w ∧ B ≤ b ∧ b < w.heap.size := by
  have h' := h
  obtain ⟨hlen, hv | ⟨b, cap, cur, hv, hg, hcur, _, hm, _, _⟩⟩ := h'
  · obtain ⟨rfl, rfl⟩ := hv
    exact ⟨none, 0, B, rfl, .inl (by simp), Nat.le_refl _, hB⟩
  · subst hv
    have hlt : b < w.heap.size := by
      rcases Nat.lt_or_ge b w.heap.size with h | h
      · exact h
      · rw [Array.getElem?_eq_none (by omega)] at hcur; cases hcur
    refine ⟨some ⟨b, 0, none⟩, cap, b, rfl, .inr ⟨rfl, fun k hk => ⟨?_, h.frozenAt k⟩⟩, hg, hlt⟩
    rw [h.cellAt k hk]; exact pixL_at f _ k hk

end Go.Proofs.Ytjdbiaoheoialaa

/- A list of numbers and its copy. -/
import Derived.Test.YtadeajdjjcelhaaBase
namespace Go.Proofs.Ytadeajdjjcelhaa
open Go.RowKit

/-- a slice holds these numbers -/
def Px (a : Option Addr) (len : Nat) (f : Nat → Int) (w : World) : Prop :=
  len = 0 ∨ ∃ b off, a = some ⟨b, off, none⟩ ∧ ∀ k, k < len → w.cell? ⟨b, off + k, none⟩ = some (.int .i64 (f k))

theorem Px.below {a : Option Addr} {len : Nat} {f : Nat → Int} {w w' : World} (h : Px a len f w) (hb : Below w.heap.size w w') : Px a len f w' := by
  rcases h with h | ⟨b, off, ha, h⟩
  · exact .inl h
  · refine .inr ⟨b, off, ha, fun k hk => ?_⟩
    rw [hb.cell (World.block_lt_of_cell? w _ (h k hk))]; exact h k hk

/-- a row of its own at block b holds these numbers, and may be written -/
def Row (b len : Nat) (f : Nat → Int) (w : World) : Prop :=
  ∀ k, k < len → w.cell? ⟨b, k, none⟩ = some (.int .i64 (f k)) ∧ w.frozen? ⟨b, k, none⟩ = false

set_option maxRecDepth 100000 in
theorem make_px (n : Nat) (h : n ≤ 1048576) (w : World) :
    (Instr.makeSlice 27 (.int .i64 n) (.int .i64 n)).run Try.prog w = .ok (.slice (some ⟨w.heap.size, 0, none⟩) n n) (w.alloc (.cells (madeCells #[.int .i64 0] n) 2)) := by
  have := run_make (P := Try.prog) w 27 2 _ (.int .i64 0) Try.underlying27 rfl rfl .i64 .i64 n n (by omega) (by omega) (by show (8 : Int) * _ ≤ _; omega) (by omega)
  rw [this]
  show Result.ok (Value.slice _ (n : Int).toNat (n : Int).toNat) (w.alloc (.cells (madeCells (Value.cells (.int .i64 0)) ((n : Int).toNat * 1)) 2)) = _
  rw [Int.toNat_natCast, Nat.mul_one]
  rfl

theorem madeCells_at (n k : Nat) (h : k < n) : (madeCells #[Value.int .i64 0] n)[k]? = some (.int .i64 0) := by
  rw [← Array.getElem?_toList, toList_madeCells_one, List.getElem?_replicate, if_pos h]

/-- a row that was just made -/
theorem row_new (n : Nat) (w : World) : Row w.heap.size n (fun _ => 0) (w.alloc (.cells (madeCells #[.int .i64 0] n) 2)) := by
  intro k hk
  have := madeCells_at n k hk
  constructor
  · simp [go_sem, this]
  · simp [go_sem]

/-- a row that is being filled: its first k numbers are there -/
def Part (b len k : Nat) (f : Nat → Int) (w : World) : Prop :=
  ∀ j, j < len → (∃ z, w.cell? ⟨b, j, none⟩ = some (.int .i64 z) ∧ (j < k → z = f j)) ∧ w.frozen? ⟨b, j, none⟩ = false

theorem Row.part {b len : Nat} {f g : Nat → Int} {w : World} (h : Row b len g w) : Part b len 0 f w :=
  fun j hj => ⟨⟨_, (h j hj).1, fun h => absurd h (Nat.not_lt_zero _)⟩, (h j hj).2⟩

theorem Part.row {b len : Nat} {f : Nat → Int} {w : World} (h : Part b len len f w) : Row b len f w := fun j hj => by
  obtain ⟨⟨z, hz, e⟩, fr⟩ := h j hj
  rw [e hj] at hz
  exact ⟨hz, fr⟩

theorem Part.step {b len k : Nat} {f : Nat → Int} {w : World} (h : Part b len k f w) (hk : k < len) (z : Int) (hz : z = f k) : Part b len (k + 1) f (w.setCell ⟨b, k, none⟩ (.int .i64 z)) := by
  intro j hj
  obtain ⟨⟨y, hy, e⟩, fr⟩ := h j hj
  refine ⟨?_, by simpa using fr⟩
  by_cases hjk : j = k
  · subst hjk
    exact ⟨z, World.cell?_setCell_same _ _ _ hy, fun _ => hz⟩
  · exact ⟨y, by rw [World.cell?_setCell_other _ _ _ _ (by simp)]; exact hy, fun h => e (by omega)⟩

theorem toInts_any (a : Option Addr) (len cap : Nat) (f : Nat → Int) (hl : len ≤ 1048576) (w : World) (h : Px a len f w) :
    Calls Try.prog 55 #[.slice a len cap] w fun e w' => e = .returned (.slice (some ⟨w.heap.size, 0, none⟩) len len) ∧ Row w.heap.size len f w' ∧ Below w.heap.size w w' ∧ w.heap.size < w'.heap.size := by
  have hmk := make_px len hl w
  have HP : Hid (Px a len f w) := h
  clear h
  go_enter Try.func55, Try.ntmps55
  go_wp2
  go_loopw [4] (fun i wr => ∃ k : Nat, k ≤ len ∧ i = .int .i64 k ∧ Part w.heap.size len k f wr ∧ Below w.heap.size w wr ∧ w.heap.size < wr.heap.size) (fun i _ => len - (intOf i).toNat)
  case atStart => exact ⟨0, by omega, rfl, (row_new len w).part, (Below.refl _ _).alloc (Nat.le_refl _) _, by simp⟩
  case round =>
    obtain ⟨k, hk, rfl, hp, hb, hs⟩ := hrel
    clear hmk
    by_cases hlt : k < len
    · obtain ⟨b, off, rfl, hc⟩ : ∃ b off, a = some ⟨b, off, none⟩ ∧ ∀ k, k < len → w.cell? ⟨b, off + k, none⟩ = some (.int .i64 (f k)) := by
        rcases HP.out with h | h
        · omega
        · exact h
      have hz := hc k hlt
      have hbl : b < w.heap.size := World.block_lt_of_cell? w ⟨b, off + k, none⟩ hz
      rw [← hb.cell (p := ⟨b, off + k, none⟩) hbl] at hz
      obtain ⟨⟨y, hy, e⟩, fr⟩ := hp k hlt
      have HS := hp.step hlt (f k) rfl
      have HB : Below w.heap.size w (World.setCell _ ⟨w.heap.size, k, none⟩ (.int .i64 (f k))) := hb.setCell (Nat.le_refl _) _
      clear hc HP hp e hb
      go_wp2
      go_roundw
      case rel => exact ⟨k + 1, by omega, by go_num, HS, HB, by simpa using hs⟩
      case measure => simp [intOf]; omega
    · obtain rfl : k = len := by omega
      go_wp2
      go_ret
      exact ⟨rfl, hp.row, hb, hs⟩

end Go.Proofs.Ytadeajdjjcelhaa

/- Lists of shapes: their cells, the copy that the law makes, whether all are right. -/
import Derived.Test.YtadeajdjjcelhaaLawInside
import Derived.Test.YtadeajdjjcelhaaImg
namespace Go.Proofs.Ytadeajdjjcelhaa
open Go.RowKit
set_option maxRecDepth 100000
set_option maxHeartbeats 2000000

/-- do all below n keep it -/
def allG (p : Nat → Bool) : Nat → Bool
  | 0 => true
  | n + 1 => allG p n && p n

theorem allG_at {p : Nat → Bool} : ∀ {n : Nat}, allG p n = true → ∀ k, k < n → p k = true
  | n + 1, h, k, hk => by
    simp only [allG, Bool.and_eq_true] at h
    by_cases e : k = n
    · rw [e]; exact h.2
    · exact allG_at h.1 k (by omega)

theorem allG_no {p : Nat → Bool} : ∀ {n : Nat} (k : Nat), k < n → p k = false → allG p n = false
  | n + 1, k, hk, h => by
    by_cases e : k = n
    · subst e; simp [allG, h]
    · have := allG_no (n := n) k (by omega) h
      simp [allG, this]

/-- is the k-th shape of these cells right -/
def shG (g : Nat → Int) (k : Nat) : Bool := shapeB (g (k * 7)) (g (k * 7 + 1)) (g (k * 7 + 2)) (g (k * 7 + 3)) (g (k * 7 + 4)) (g (k * 7 + 5)) (g (k * 7 + 6))
/-- has it the point -/
def insG (g : Nat → Int) (x y : Int) (k : Nat) : Bool := insideB (g (k * 7)) (g (k * 7 + 1)) (g (k * 7 + 2)) (g (k * 7 + 3)) (g (k * 7 + 4)) (g (k * 7 + 5)) (g (k * 7 + 6)) x y
/-- the k-th shape as a value -/
abbrev shV (g : Nat → Int) (k : Nat) : Value := sh (g (k * 7)) (g (k * 7 + 1)) (g (k * 7 + 2)) (g (k * 7 + 3)) (g (k * 7 + 4)) (g (k * 7 + 5)) (g (k * 7 + 6))

theorem Px.seven {a : Option Addr} {len : Nat} {g : Nat → Int} {w : World} {k : Nat} (h : Px a (len * 7) g w) (hk : k < len) :
    ∃ b off, a = some ⟨b, off, none⟩ ∧ b < w.heap.size ∧ w.cell? ⟨b, off + k * 7, none⟩ = some (.int .i64 (g (k * 7))) ∧ w.cell? ⟨b, off + k * 7 + 1, none⟩ = some (.int .i64 (g (k * 7 + 1))) ∧ w.cell? ⟨b, off + k * 7 + 2, none⟩ = some (.int .i64 (g (k * 7 + 2))) ∧ w.cell? ⟨b, off + k * 7 + 3, none⟩ = some (.int .i64 (g (k * 7 + 3))) ∧ w.cell? ⟨b, off + k * 7 + 4, none⟩ = some (.int .i64 (g (k * 7 + 4))) ∧ w.cell? ⟨b, off + k * 7 + 5, none⟩ = some (.int .i64 (g (k * 7 + 5))) ∧ w.cell? ⟨b, off + k * 7 + 6, none⟩ = some (.int .i64 (g (k * 7 + 6))) := by
  rcases h with h | ⟨b, off, ha, hc⟩
  · omega
  · refine ⟨b, off, ha, World.block_lt_of_cell? w _ (hc (k * 7) (by omega)), hc (k * 7) (by omega), ?_, ?_, ?_, ?_, ?_, ?_⟩ <;> rw [Nat.add_assoc] <;> exact hc _ (by omega)

theorem Part.seven {b n k : Nat} {g : Nat → Int} {w : World} (h : Part b n k g w) (hk : k + 7 ≤ n) :
    Part b n (k + 7) g (((((((w.setCell ⟨b, k, none⟩ (.int .i64 (g k))).setCell ⟨b, k + 1, none⟩ (.int .i64 (g (k + 1)))).setCell ⟨b, k + 2, none⟩ (.int .i64 (g (k + 2)))).setCell ⟨b, k + 3, none⟩ (.int .i64 (g (k + 3)))).setCell ⟨b, k + 4, none⟩ (.int .i64 (g (k + 4)))).setCell ⟨b, k + 5, none⟩ (.int .i64 (g (k + 5)))).setCell ⟨b, k + 6, none⟩ (.int .i64 (g (k + 6)))) := by
  have h0 := h.step (by omega) (g k) rfl
  have h1 := h0.step (by omega) (g (k + 1)) rfl
  have h2 := h1.step (by omega) (g (k + 2)) rfl
  have h3 := h2.step (by omega) (g (k + 3)) rfl
  have h4 := h3.step (by omega) (g (k + 4)) rfl
  have h5 := h4.step (by omega) (g (k + 5)) rfl
  exact h5.step (by omega) (g (k + 6)) rfl

set_option maxRecDepth 100000 in
theorem make_sh (n : Nat) (h : n ≤ 1048576) (w : World) :
    (Instr.makeSlice 24 (.int .i64 n) (.int .i64 n)).run Try.prog w = .ok (.slice (some ⟨w.heap.size, 0, none⟩) n n) (w.alloc (.cells (madeCells #[.int .i64 0, .int .i64 0, .int .i64 0, .int .i64 0, .int .i64 0, .int .i64 0, .int .i64 0] (n * 7)) 33)) := by
  have := run_make (P := Try.prog) w 24 33 _ (sh 0 0 0 0 0 0 0) Try.underlying24 rfl rfl .i64 .i64 n n (by omega) (by omega) (by show (56 : Int) * _ ≤ _; omega) (by omega)
  rw [this]
  show Result.ok (Value.slice _ (n : Int).toNat (n : Int).toNat) (w.alloc (.cells (madeCells (Value.cells (sh 0 0 0 0 0 0 0)) ((n : Int).toNat * 7)) 33)) = _
  rw [Int.toNat_natCast]
  rfl

theorem made_sh (n k : Nat) (h : k < n) : (madeCells #[Value.int .i64 0, .int .i64 0, .int .i64 0, .int .i64 0, .int .i64 0, .int .i64 0, .int .i64 0] n)[k]? = some (.int .i64 0) := by
  unfold madeCells
  rw [Array.getElem?_map, Array.getElem?_range, if_pos h]
  show some ((#[Value.int .i64 0, .int .i64 0, .int .i64 0, .int .i64 0, .int .i64 0, .int .i64 0, .int .i64 0] : Array Value)[k % 7]!) = _
  have h2 : k % 7 = 0 ∨ k % 7 = 1 ∨ k % 7 = 2 ∨ k % 7 = 3 ∨ k % 7 = 4 ∨ k % 7 = 5 ∨ k % 7 = 6 := by omega
  rcases h2 with h2 | h2 | h2 | h2 | h2 | h2 | h2 <;> rw [h2] <;> rfl

theorem part_sh (n : Nat) (g : Nat → Int) (w : World) : Part w.heap.size n 0 g (w.alloc (.cells (madeCells #[.int .i64 0, .int .i64 0, .int .i64 0, .int .i64 0, .int .i64 0, .int .i64 0, .int .i64 0] n) 33)) := by
  intro j hj
  have := made_sh n j hj
  exact ⟨⟨0, by simp [go_sem, this], fun h => absurd h (Nat.not_lt_zero _)⟩, by simp [go_sem]⟩

theorem Part.below {b len k B : Nat} {g : Nat → Int} {w w' : World} (h : Part b len k g w) (hb : Below B w w') (hB : b < B) : Part b len k g w' := by
  intro j hj
  rw [hb.cell (p := ⟨b, j, none⟩) hB, hb.frozen (p := ⟨b, j, none⟩) hB]
  exact h j hj

set_option maxHeartbeats 8000000 in
theorem toShapeS_any (a : Option Addr) (len cap : Nat) (g : Nat → Int) (hl : len ≤ 1048576) (w : World) (h : Px a (len * 7) g w) :
    Calls Try.prog 23 #[.slice a len cap] w fun e w' => e = .returned (.slice (some ⟨w.heap.size, 0, none⟩) len len) ∧ Row w.heap.size (len * 7) g w' ∧ Below w.heap.size w w' ∧ w.heap.size < w'.heap.size := by
  have hmk := make_sh len hl w
  have HP : Hid (Px a (len * 7) g w) := h
  clear h
  go_enter Try.func23, Try.ntmps23
  go_wp2
  go_loopw [4] (fun i wr => ∃ k : Nat, k ≤ len ∧ i = .int .i64 k ∧ Part w.heap.size (len * 7) (k * 7) g wr ∧ Below w.heap.size w wr ∧ w.heap.size < wr.heap.size) (fun i _ => len - (intOf i).toNat)
  case atStart => exact ⟨0, by omega, rfl, part_sh (len * 7) g w, bnew _ _, by simp⟩
  case round =>
    obtain ⟨k, hk, rfl, hp, hb, hs⟩ := hrel
    clear hmk
    by_cases hlt : k < len
    · obtain ⟨b, off, rfl, hbl, z0, z1, z2, z3, z4, z5, z6⟩ := (HP.out.below hb).seven hlt
      clear HP hbl
      go_wp2_with fail
      refine (toShape_any _ _ _ _ _ _ _ _).mono ?_
      rintro e w1 ⟨rfl, hb1⟩
      have hp1 := hp.below hb1 hs
      have HB1 : Hid (Below w.heap.size w w1) := bnext hb (Nat.le_refl _) hb1
      have hs1 : w.heap.size < w1.heap.size := Nat.lt_of_lt_of_le hs hb1.size
      obtain ⟨⟨y0, c0, _⟩, f0⟩ := hp1 (k * 7) (by omega)
      obtain ⟨⟨y1, c1, _⟩, f1⟩ := hp1 (k * 7 + 1) (by omega)
      obtain ⟨⟨y2, c2, _⟩, f2⟩ := hp1 (k * 7 + 2) (by omega)
      obtain ⟨⟨y3, c3, _⟩, f3⟩ := hp1 (k * 7 + 3) (by omega)
      obtain ⟨⟨y4, c4, _⟩, f4⟩ := hp1 (k * 7 + 4) (by omega)
      obtain ⟨⟨y5, c5, _⟩, f5⟩ := hp1 (k * 7 + 5) (by omega)
      obtain ⟨⟨y6, c6, _⟩, f6⟩ := hp1 (k * 7 + 6) (by omega)
      have HPt : Hid (Part w.heap.size (len * 7) (k * 7 + 7) g _) := hp1.seven (by omega)
      clear hb1 hp hb hs hp1 z0 z1 z2 z3 z4 z5 z6
      go_wp2_with fail
      refine ⟨⟨k + 1, by omega, rfl, ?_, ?_, by simpa using hs1⟩, by simp [intOf]; omega⟩
      · rw [Nat.succ_mul]; exact HPt.out
      · exact ((((((HB1.out.setCell (Nat.le_refl _) _).setCell (Nat.le_refl _) _).setCell (Nat.le_refl _) _).setCell (Nat.le_refl _) _).setCell (Nat.le_refl _) _).setCell (Nat.le_refl _) _).setCell (Nat.le_refl _) _
    · obtain rfl : k = len := by omega
      go_wp2
      go_ret
      exact ⟨rfl, hp.row, hb, hs⟩

end Go.Proofs.Ytadeajdjjcelhaa

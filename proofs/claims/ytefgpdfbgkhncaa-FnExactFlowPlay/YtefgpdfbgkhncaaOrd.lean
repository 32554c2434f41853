/- Lists of Orders: the copy that the law makes, when two are alike, marks. -/
import Derived.Test.YtefgpdfbgkhncaaIls
namespace Go.Proofs.Ytefgpdfbgkhncaa
open Go.RowKit

/-- a Order as a value, and in a block -/
abbrev vOrder (x0 x1 x2 x3 : Int) : Value := .agg #[.int .i64 x0, .int .i64 x1, .int .i64 x2, .int .i64 x3]
abbrev cOrder (x0 x1 x2 x3 : Int) (t : TypeId) : Obj := .cells #[.int .i64 x0, .int .i64 x1, .int .i64 x2, .int .i64 x3] t
def BOrder (b : Nat) (x0 x1 x2 x3 : Int) (w : World) : Prop :=
  w.cell? ⟨b, 0, none⟩ = some (.int .i64 x0) ∧ w.cell? ⟨b, 1, none⟩ = some (.int .i64 x1) ∧ w.cell? ⟨b, 2, none⟩ = some (.int .i64 x2) ∧ w.cell? ⟨b, 3, none⟩ = some (.int .i64 x3)
theorem BOrder.below {b B : Nat} {x0 x1 x2 x3 : Int} {w w' : World} (h : BOrder b x0 x1 x2 x3 w) (hb : Below B w w') (hl : b < B) : BOrder b x0 x1 x2 x3 w' := by
  obtain ⟨h0, h1, h2, h3⟩ := h
  exact ⟨(hb.cell (p := ⟨b, 0, none⟩) hl).trans h0, (hb.cell (p := ⟨b, 1, none⟩) hl).trans h1, (hb.cell (p := ⟨b, 2, none⟩) hl).trans h2, (hb.cell (p := ⟨b, 3, none⟩) hl).trans h3⟩
theorem BOrder.new (x0 x1 x2 x3 : Int) (t : TypeId) (w : World) : BOrder w.heap.size x0 x1 x2 x3 (w.alloc (cOrder x0 x1 x2 x3 t)) := by
  refine ⟨?_, ?_, ?_, ?_⟩ <;> simp [go_sem]

theorem Px.atOrder {a : Option Addr} {len : Nat} {g : Nat → Int} {w : World} {k : Nat} (h : Px a (len * 4) g w) (hk : k < len) :
    ∃ b off, a = some ⟨b, off, none⟩ ∧ b < w.heap.size ∧ w.cell? ⟨b, off + k * 4, none⟩ = some (.int .i64 (g (k * 4))) ∧ w.cell? ⟨b, off + k * 4 + 1, none⟩ = some (.int .i64 (g (k * 4 + 1))) ∧ w.cell? ⟨b, off + k * 4 + 2, none⟩ = some (.int .i64 (g (k * 4 + 2))) ∧ w.cell? ⟨b, off + k * 4 + 3, none⟩ = some (.int .i64 (g (k * 4 + 3))) := by
  rcases h with h | ⟨b, off, ha, hc⟩
  · omega
  · refine ⟨b, off, ha, World.block_lt_of_cell? w _ (hc (k * 4) (by omega)), hc (k * 4) (by omega), ?_, ?_, ?_⟩ <;> rw [Nat.add_assoc] <;> exact hc _ (by omega)

theorem Part.stOrder {b n k : Nat} {g : Nat → Int} {w : World} (h : Part b n k g w) (hk : k + 4 ≤ n) :
    Part b n (k + 4) g ((((w.setCell ⟨b, k, none⟩ (.int .i64 (g (k)))).setCell ⟨b, k + 1, none⟩ (.int .i64 (g (k + 1)))).setCell ⟨b, k + 2, none⟩ (.int .i64 (g (k + 2)))).setCell ⟨b, k + 3, none⟩ (.int .i64 (g (k + 3)))) := by
  have h0 := h.step (by omega) (g k) rfl
  have h1 := h0.step (by omega) (g (k + 1)) rfl
  have h2 := h1.step (by omega) (g (k + 2)) rfl
  exact h2.step (by omega) (g (k + 3)) rfl

set_option maxHeartbeats 400000 in
theorem toOrder_any (x0 x1 x2 x3 : Int) (w : World) :
    Calls Try.prog 38 #[vOrder x0 x1 x2 x3] w fun e w' => e = .returned (vOrder x0 x1 x2 x3) ∧ Below w.heap.size w w' := by
  go_enter Try.func38, Try.ntmps38
  go_wp2_with fail
  refine bodyPost_ret (v := vOrder x0 x1 x2 x3) (by simp [results, Try.results38, go_sem]) rfl ⟨rfl, ?_⟩
  exact ((bnew _ _).alloc (by simp) _).alloc (by simp; omega) _

theorem szOrderS_any (a : Option Addr) (len cap : Nat) (left : Int) (h0 : 0 ≤ left) (h1 : left ≤ 1048576) (hl : (len : Int) ≤ 9223372036854775807) (w : World) :
    Calls Try.prog 25 #[.slice a len cap, .int .i64 left] w fun e w' => e = .returned (.int .i64 (if left < (len : Int) then -1 else left - len)) ∧ w' = w := by
  by_cases h : left < (len : Int)
  · rw [if_pos h]
    have h1 : left - (len : Int) < 0 := by omega
    go_enter Try.func25, Try.ntmps25
    go_wp2
    go_ret
    exact ⟨rfl, rfl⟩
  · rw [if_neg h]
    have h1 : ¬ left - (len : Int) < 0 := by omega
    go_enter Try.func25, Try.ntmps25
    go_wp2
    go_ret
    exact ⟨rfl, rfl⟩

set_option maxRecDepth 100000 in
theorem make_Order (n : Nat) (h : n ≤ 1048576) (w : World) :
    (Instr.makeSlice 27 (.int .i64 n) (.int .i64 n)).run Try.prog w = .ok (.slice (some ⟨w.heap.size, 0, none⟩) n n) (w.alloc (.cells (madeCells #[.int .i64 0, .int .i64 0, .int .i64 0, .int .i64 0] (n * 4)) 56)) := by
  have := run_make (P := Try.prog) w 27 56 _ (vOrder 0 0 0 0) Try.underlying27 rfl rfl .i64 .i64 n n (by omega) (by omega) (by show (32 : Int) * _ ≤ _; omega) (by omega)
  rw [this]
  show Result.ok (Value.slice _ (n : Int).toNat (n : Int).toNat) (w.alloc (.cells (madeCells (Value.cells (vOrder 0 0 0 0)) ((n : Int).toNat * 4)) 56)) = _
  rw [Int.toNat_natCast]
  rfl

theorem made_Order (n k : Nat) (h : k < n) : (madeCells #[Value.int .i64 0, Value.int .i64 0, Value.int .i64 0, Value.int .i64 0] n)[k]? = some (.int .i64 0) := by
  unfold madeCells
  rw [Array.getElem?_map, Array.getElem?_range, if_pos h]
  show some ((#[Value.int .i64 0, Value.int .i64 0, Value.int .i64 0, Value.int .i64 0] : Array Value)[k % 4]!) = _
  have h2 : k % 4 = 0 ∨ k % 4 = 1 ∨ k % 4 = 2 ∨ k % 4 = 3 := by omega
  rcases h2 with h2 | h2 | h2 | h2 <;> rw [h2] <;> rfl

theorem part_Order (n : Nat) (g : Nat → Int) (w : World) : Part w.heap.size n 0 g (w.alloc (.cells (madeCells #[.int .i64 0, .int .i64 0, .int .i64 0, .int .i64 0] n) 56)) := by
  intro j hj
  have := made_Order n j hj
  exact ⟨⟨0, by simp [go_sem, this], fun h => absurd h (Nat.not_lt_zero _)⟩, by simp [go_sem]⟩

set_option maxHeartbeats 1000000 in
theorem toOrderS_any (a : Option Addr) (len cap : Nat) (g : Nat → Int) (hl : len ≤ 1048576) (w : World) (h : Px a (len * 4) g w) :
    Calls Try.prog 28 #[.slice a len cap] w fun e w' => e = .returned (.slice (some ⟨w.heap.size, 0, none⟩) len len) ∧ Row w.heap.size (len * 4) g w' ∧ Below w.heap.size w w' ∧ w.heap.size < w'.heap.size := by
  have hmk := make_Order len hl w
  have HP : Hid (Px a (len * 4) g w) := h
  clear h
  go_enter Try.func28, Try.ntmps28
  go_wp2
  go_loopw [4] (fun i wr => ∃ k : Nat, k ≤ len ∧ i = .int .i64 k ∧ Part w.heap.size (len * 4) (k * 4) g wr ∧ Below w.heap.size w wr ∧ w.heap.size < wr.heap.size) (fun i _ => len - (intOf i).toNat)
  case atStart => exact ⟨0, by omega, rfl, part_Order (len * 4) g w, bnew _ _, by simp⟩
  case round =>
    obtain ⟨k, hk, rfl, hp, hb, hs⟩ := hrel
    clear hmk
    by_cases hlt : k < len
    · obtain ⟨b, off, rfl, hbl, z0, z1, z2, z3⟩ := (HP.out.below hb).atOrder hlt
      clear HP hbl
      go_wp2_with fail
      refine (toOrder_any _ _ _ _ _).mono ?_
      rintro e w1 ⟨rfl, hb1⟩
      have hp1 := hp.below hb1 hs
      have HB1 : Hid (Below w.heap.size w w1) := bnext hb (Nat.le_refl _) hb1
      have hs1 : w.heap.size < w1.heap.size := Nat.lt_of_lt_of_le hs hb1.size
      obtain ⟨⟨y0, c0, _⟩, f0⟩ := hp1 (k * 4) (by omega)
      obtain ⟨⟨y1, c1, _⟩, f1⟩ := hp1 (k * 4 + 1) (by omega)
      obtain ⟨⟨y2, c2, _⟩, f2⟩ := hp1 (k * 4 + 2) (by omega)
      obtain ⟨⟨y3, c3, _⟩, f3⟩ := hp1 (k * 4 + 3) (by omega)
      have HPt : Hid (Part w.heap.size (len * 4) (k * 4 + 4) g _) := hp1.stOrder (by omega)
      clear hb1 hp hb hs hp1 z0 z1 z2 z3
      go_wp2_with fail
      refine ⟨⟨k + 1, by omega, rfl, ?_, ?_, by simpa using hs1⟩, by simp [intOf]; omega⟩
      · rw [Nat.succ_mul]; exact HPt.out
      · exact ((((HB1.out.setCell (Nat.le_refl _) _).setCell (Nat.le_refl _) _).setCell (Nat.le_refl _) _).setCell (Nat.le_refl _) _)
    · obtain rfl : k = len := by omega
      go_wp2
      go_ret
      exact ⟨rfl, hp.row, hb, hs⟩

theorem eqOrder_any (x0 x1 x2 x3 : Int) (w : World) :
    Calls Try.prog 40 #[vOrder x0 x1 x2 x3, vOrder x0 x1 x2 x3] w fun e w' => e = .returned (.bool true) ∧ Below w.heap.size w w' := by
  have HB0 : Hid (∀ o o', Below w.heap.size w ((w.alloc o).alloc o')) := fun o o' => (bnew _ _).alloc (by simp) _
  go_enter Try.func40, Try.ntmps40
  go_wp2_with fail
  go_ret
  exact ⟨rfl, HB0.out _ _⟩

set_option maxHeartbeats 1000000 in
theorem eqOrderS_any (a a' : Option Addr) (len cap cap' : Nat) (g : Nat → Int) (hl : len ≤ 1048576) (w : World) (h : Px a (len * 4) g w) (h' : Px a' (len * 4) g w) :
    Calls Try.prog 31 #[.slice a len cap, .slice a' len cap'] w fun e w' => e = .returned (.bool true) ∧ Below w.heap.size w w' := by
  have HP : Hid (Px a (len * 4) g w) := h
  have HP' : Hid (Px a' (len * 4) g w) := h'
  clear h h'
  go_enter Try.func31, Try.ntmps31
  go_wp2
  go_loopw [5] (fun i wr => ∃ k : Nat, k ≤ len ∧ i = .int .i64 k ∧ Below w.heap.size w wr) (fun i _ => len - (intOf i).toNat)
  case atStart => exact ⟨0, by omega, rfl, Below.refl _ _⟩
  case round =>
    obtain ⟨k, hk, rfl, hb⟩ := hrel
    by_cases hlt : k < len
    · obtain ⟨b, off, rfl, _, z0, z1, z2, z3⟩ := (HP.out.below hb).atOrder hlt
      obtain ⟨b', off', rfl, _, y0, y1, y2, y3⟩ := (HP'.out.below hb).atOrder hlt
      clear HP HP'
      have HB : Hid (Below w.heap.size w wr.drew) := hb.drew
      have hq := eqOrder_any (g (k * 4)) (g (k * 4 + 1)) (g (k * 4 + 2)) (g (k * 4 + 3))
      go_wp2_with fail
      go_region_with (go_at_call 40; refine (hq _).mono ?_; rintro e w1 ⟨rfl, hb1⟩)
      all_goals
        have HB1 : Hid (Below w.heap.size w w1) := bnext HB.out (Nat.le_refl _) hb1
        clear hb1 HB hb z0 z1 z2 z3 y0 y1 y2 y3
        go_wp2_with fail
        exact ⟨⟨k + 1, by omega, rfl, HB1.out⟩, by simp [intOf]; omega⟩
    · go_wp2
      go_ret
      exact ⟨rfl, hb⟩

end Go.Proofs.Ytefgpdfbgkhncaa

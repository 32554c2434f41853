/- Lists of Spot2s: the copy that the law makes, when two are alike, marks. -/
import Derived.Test.YtlpfgmkkbplddaaIls
namespace Go.Proofs.Ytlpfgmkkbplddaa
open Go.RowKit

/-- a Spot2 as a value, and in a block -/
abbrev vSpot2 (x0 x1 : Int) : Value := .agg #[.int .i64 x0, .int .i64 x1]
abbrev cSpot2 (x0 x1 : Int) (t : TypeId) : Obj := .cells #[.int .i64 x0, .int .i64 x1] t
def BSpot2 (b : Nat) (x0 x1 : Int) (w : World) : Prop :=
  w.cell? ⟨b, 0, none⟩ = some (.int .i64 x0) ∧ w.cell? ⟨b, 1, none⟩ = some (.int .i64 x1)
theorem BSpot2.below {b B : Nat} {x0 x1 : Int} {w w' : World} (h : BSpot2 b x0 x1 w) (hb : Below B w w') (hl : b < B) : BSpot2 b x0 x1 w' := by
  obtain ⟨h0, h1⟩ := h
  exact ⟨(hb.cell (p := ⟨b, 0, none⟩) hl).trans h0, (hb.cell (p := ⟨b, 1, none⟩) hl).trans h1⟩
theorem BSpot2.new (x0 x1 : Int) (t : TypeId) (w : World) : BSpot2 w.heap.size x0 x1 (w.alloc (cSpot2 x0 x1 t)) := by
  refine ⟨?_, ?_⟩ <;> simp [go_sem]

theorem Px.atSpot2 {a : Option Addr} {len : Nat} {g : Nat → Int} {w : World} {k : Nat} (h : Px a (len * 2) g w) (hk : k < len) :
    ∃ b off, a = some ⟨b, off, none⟩ ∧ b < w.heap.size ∧ w.cell? ⟨b, off + k * 2, none⟩ = some (.int .i64 (g (k * 2))) ∧ w.cell? ⟨b, off + k * 2 + 1, none⟩ = some (.int .i64 (g (k * 2 + 1))) := by
  rcases h with h | ⟨b, off, ha, hc⟩
  · omega
  · refine ⟨b, off, ha, World.block_lt_of_cell? w _ (hc (k * 2) (by omega)), hc (k * 2) (by omega), ?_⟩ <;> rw [Nat.add_assoc] <;> exact hc _ (by omega)

theorem Part.stSpot2 {b n k : Nat} {g : Nat → Int} {w : World} (h : Part b n k g w) (hk : k + 2 ≤ n) :
    Part b n (k + 2) g ((w.setCell ⟨b, k, none⟩ (.int .i64 (g (k)))).setCell ⟨b, k + 1, none⟩ (.int .i64 (g (k + 1)))) := by
  have h0 := h.step (by omega) (g k) rfl
  exact h0.step (by omega) (g (k + 1)) rfl

set_option maxHeartbeats 400000 in
theorem toSpot2_any (x0 x1 : Int) (w : World) :
    Calls Try.prog 77 #[vSpot2 x0 x1] w fun e w' => e = .returned (vSpot2 x0 x1) ∧ Below w.heap.size w w' := by
  go_enter Try.func77, Try.ntmps77
  go_wp2_with fail
  refine bodyPost_ret (v := vSpot2 x0 x1) (by simp [results, Try.results77, go_sem]) rfl ⟨rfl, ?_⟩
  exact ((bnew _ _).alloc (by simp) _).alloc (by simp; omega) _

theorem szSpot2S_any (a : Option Addr) (len cap : Nat) (left : Int) (h0 : 0 ≤ left) (h1 : left ≤ 1048576) (hl : (len : Int) ≤ 9223372036854775807) (w : World) :
    Calls Try.prog 28 #[.slice a len cap, .int .i64 left] w fun e w' => e = .returned (.int .i64 (if left < (len : Int) then -1 else left - len)) ∧ w' = w := by
  by_cases h : left < (len : Int)
  · rw [if_pos h]
    have h1 : left - (len : Int) < 0 := by omega
    go_enter Try.func28, Try.ntmps28
    go_wp2
    go_ret
    exact ⟨rfl, rfl⟩
  · rw [if_neg h]
    have h1 : ¬ left - (len : Int) < 0 := by omega
    go_enter Try.func28, Try.ntmps28
    go_wp2
    go_ret
    exact ⟨rfl, rfl⟩

set_option maxRecDepth 100000 in
theorem make_Spot2 (n : Nat) (h : n ≤ 1048576) (w : World) :
    (Instr.makeSlice 27 (.int .i64 n) (.int .i64 n)).run Try.prog w = .ok (.slice (some ⟨w.heap.size, 0, none⟩) n n) (w.alloc (.cells (madeCells #[.int .i64 0, .int .i64 0] (n * 2)) 35)) := by
  have := run_make (P := Try.prog) w 27 35 _ (vSpot2 0 0) Try.underlying27 rfl rfl .i64 .i64 n n (by omega) (by omega) (by show (16 : Int) * _ ≤ _; omega) (by omega)
  rw [this]
  show Result.ok (Value.slice _ (n : Int).toNat (n : Int).toNat) (w.alloc (.cells (madeCells (Value.cells (vSpot2 0 0)) ((n : Int).toNat * 2)) 35)) = _
  rw [Int.toNat_natCast]
  rfl

theorem made_Spot2 (n k : Nat) (h : k < n) : (madeCells #[Value.int .i64 0, Value.int .i64 0] n)[k]? = some (.int .i64 0) := by
  unfold madeCells
  rw [Array.getElem?_map, Array.getElem?_range, if_pos h]
  show some ((#[Value.int .i64 0, Value.int .i64 0] : Array Value)[k % 2]!) = _
  have h2 : k % 2 = 0 ∨ k % 2 = 1 := by omega
  rcases h2 with h2 | h2 <;> rw [h2] <;> rfl

theorem part_Spot2 (n : Nat) (g : Nat → Int) (w : World) : Part w.heap.size n 0 g (w.alloc (.cells (madeCells #[.int .i64 0, .int .i64 0] n) 35)) := by
  intro j hj
  have := made_Spot2 n j hj
  exact ⟨⟨0, by simp [go_sem, this], fun h => absurd h (Nat.not_lt_zero _)⟩, by simp [go_sem]⟩

set_option maxHeartbeats 1000000 in
theorem toSpot2S_any (a : Option Addr) (len cap : Nat) (g : Nat → Int) (hl : len ≤ 1048576) (w : World) (h : Px a (len * 2) g w) :
    Calls Try.prog 30 #[.slice a len cap] w fun e w' => e = .returned (.slice (some ⟨w.heap.size, 0, none⟩) len len) ∧ Row w.heap.size (len * 2) g w' ∧ Below w.heap.size w w' ∧ w.heap.size < w'.heap.size := by
  have hmk := make_Spot2 len hl w
  have HP : Hid (Px a (len * 2) g w) := h
  clear h
  go_enter Try.func30, Try.ntmps30
  go_wp2
  go_loopw [4] (fun i wr => ∃ k : Nat, k ≤ len ∧ i = .int .i64 k ∧ Part w.heap.size (len * 2) (k * 2) g wr ∧ Below w.heap.size w wr ∧ w.heap.size < wr.heap.size) (fun i _ => len - (intOf i).toNat)
  case atStart => exact ⟨0, by omega, rfl, part_Spot2 (len * 2) g w, bnew _ _, by simp⟩
  case round =>
    obtain ⟨k, hk, rfl, hp, hb, hs⟩ := hrel
    clear hmk
    by_cases hlt : k < len
    · obtain ⟨b, off, rfl, hbl, z0, z1⟩ := (HP.out.below hb).atSpot2 hlt
      clear HP hbl
      go_wp2_with fail
      refine (toSpot2_any _ _ _).mono ?_
      rintro e w1 ⟨rfl, hb1⟩
      have hp1 := hp.below hb1 hs
      have HB1 : Hid (Below w.heap.size w w1) := bnext hb (Nat.le_refl _) hb1
      have hs1 : w.heap.size < w1.heap.size := Nat.lt_of_lt_of_le hs hb1.size
      obtain ⟨⟨y0, c0, _⟩, f0⟩ := hp1 (k * 2) (by omega)
      obtain ⟨⟨y1, c1, _⟩, f1⟩ := hp1 (k * 2 + 1) (by omega)
      have HPt : Hid (Part w.heap.size (len * 2) (k * 2 + 2) g _) := hp1.stSpot2 (by omega)
      clear hb1 hp hb hs hp1 z0 z1
      go_wp2_with fail
      refine ⟨⟨k + 1, by omega, rfl, ?_, ?_, by simpa using hs1⟩, by simp [intOf]; omega⟩
      · rw [Nat.succ_mul]; exact HPt.out
      · exact ((HB1.out.setCell (Nat.le_refl _) _).setCell (Nat.le_refl _) _)
    · obtain rfl : k = len := by omega
      go_wp2
      go_ret
      exact ⟨rfl, hp.row, hb, hs⟩

theorem eqSpot2_any (x0 x1 : Int) (w : World) :
    Calls Try.prog 80 #[vSpot2 x0 x1, vSpot2 x0 x1] w fun e w' => e = .returned (.bool true) ∧ Below w.heap.size w w' := by
  have HB0 : Hid (∀ o o', Below w.heap.size w ((w.alloc o).alloc o')) := fun o o' => (bnew _ _).alloc (by simp) _
  go_enter Try.func80, Try.ntmps80
  go_wp2_with fail
  go_ret
  exact ⟨rfl, HB0.out _ _⟩

set_option maxHeartbeats 1000000 in
theorem eqSpot2S_any (a a' : Option Addr) (len cap cap' : Nat) (g : Nat → Int) (hl : len ≤ 1048576) (w : World) (h : Px a (len * 2) g w) (h' : Px a' (len * 2) g w) :
    Calls Try.prog 32 #[.slice a len cap, .slice a' len cap'] w fun e w' => e = .returned (.bool true) ∧ Below w.heap.size w w' := by
  have HP : Hid (Px a (len * 2) g w) := h
  have HP' : Hid (Px a' (len * 2) g w) := h'
  clear h h'
  go_enter Try.func32, Try.ntmps32
  go_wp2
  go_loopw [5] (fun i wr => ∃ k : Nat, k ≤ len ∧ i = .int .i64 k ∧ Below w.heap.size w wr) (fun i _ => len - (intOf i).toNat)
  case atStart => exact ⟨0, by omega, rfl, Below.refl _ _⟩
  case round =>
    obtain ⟨k, hk, rfl, hb⟩ := hrel
    by_cases hlt : k < len
    · obtain ⟨b, off, rfl, _, z0, z1⟩ := (HP.out.below hb).atSpot2 hlt
      obtain ⟨b', off', rfl, _, y0, y1⟩ := (HP'.out.below hb).atSpot2 hlt
      clear HP HP'
      have HB : Hid (Below w.heap.size w wr.drew) := hb.drew
      have hq := eqSpot2_any (g (k * 2)) (g (k * 2 + 1))
      go_wp2_with fail
      go_region_with (go_at_call 80; refine (hq _).mono ?_; rintro e w1 ⟨rfl, hb1⟩)
      all_goals
        have HB1 : Hid (Below w.heap.size w w1) := bnext HB.out (Nat.le_refl _) hb1
        clear hb1 HB hb z0 z1 y0 y1
        go_wp2_with fail
        exact ⟨⟨k + 1, by omega, rfl, HB1.out⟩, by simp [intOf]; omega⟩
    · go_wp2
      go_ret
      exact ⟨rfl, hb⟩

set_option maxHeartbeats 1000000 in
theorem markSpot2K_any (a : Option Addr) (b len cap : Nat) (g : Nat → Int) (hl : len ≤ 1048576) (k0 : Int) (hk0 : 0 ≤ k0) (hk1 : k0 ≤ 4194304) (w : World) (h : Ow a b (len * 2) g w) :
    Calls Try.prog 37 #[.slice a len cap, .int .i64 k0] w fun e w' => e = .returned (.int .i64 (k0 + 2 * (len : Int))) ∧ Ow a b (len * 2) (fun q => k0 + (q : Int)) w' ∧ Kept b w w' := by
  go_enter Try.func37, Try.ntmps37
  go_wp2
  go_loopw [1, 5] (fun k i wr => ∃ j : Nat, j ≤ len ∧ i = .int .i64 j ∧ k = .int .i64 (k0 + 2 * (j : Int)) ∧ Kept b w wr ∧ (len * 2 = 0 ∨ (a = some ⟨b, 0, none⟩ ∧ Part b (len * 2) (j * 2) (fun q => k0 + (q : Int)) wr))) (fun _ i _ => len - (intOf i).toNat)
  case atStart =>
    refine ⟨0, by omega, rfl, by simp, Kept.refl _ _, ?_⟩
    rcases h with h | ⟨ha, h⟩
    · exact .inl h
    · exact .inr ⟨ha, by rw [Nat.zero_mul]; exact h.part⟩
  case round =>
    obtain ⟨j, hj, rfl, rfl, hk, hp⟩ := hrel
    clear h
    by_cases hlt : j < len
    · obtain ⟨ha, hq⟩ : a = some ⟨b, 0, none⟩ ∧ Part b (len * 2) (j * 2) (fun q => k0 + (q : Int)) wr := by
        rcases hp with hp | hp
        · omega
        · exact hp
      clear hp
      subst ha
      obtain ⟨⟨y0, c0, _⟩, f0⟩ := hq (j * 2) (by omega)
      obtain ⟨⟨y1, c1, _⟩, f1⟩ := hq (j * 2 + 1) (by omega)
      have HK : Hid (Kept b w wr) := hk
      have HQ : Hid (Part b (len * 2) (j * 2) (fun q => k0 + (q : Int)) wr) := hq
      clear hq hk
      go_wp2_with fail
      have hk := HK.out
      have hq := HQ.out
      refine ⟨⟨j + 1, by omega, rfl, ?_, ?_, .inr ⟨trivial, ?_⟩⟩, by simp [intOf]; omega⟩
      · first | (congr 1; done) | (congr 1; omega)
      · exact ((hk.setCell rfl _).setCell rfl _)
      · rw [Nat.succ_mul]
        have h0 := hq.step (by omega) (k0 + 2 * (j : Int)) (by omega)
        have h1 := h0.step (by omega) (k0 + 2 * (j : Int) + 1) (by omega)
        exact h1
    · obtain rfl : j = len := by omega
      go_wp2
      go_ret
      refine ⟨rfl, ?_, hk⟩
      rcases hp with hp | ⟨ha, hp⟩
      · exact .inl hp
      · exact .inr ⟨ha, hp.row⟩
theorem markSpot2S_any (a : Option Addr) (b len cap : Nat) (g : Nat → Int) (hl : len ≤ 1048576) (w : World) (h : Ow a b (len * 2) g w) :
    Calls Try.prog 37 #[.slice a len cap, .int .i64 1] w fun e w' => e = .returned (.int .i64 (1 + 2 * (len : Int))) ∧ Ow a b (len * 2) (fun q => 1 + (q : Int)) w' ∧ Kept b w w' := markSpot2K_any a b len cap g hl 1 (by omega) (by omega) w h

end Go.Proofs.Ytlpfgmkkbplddaa

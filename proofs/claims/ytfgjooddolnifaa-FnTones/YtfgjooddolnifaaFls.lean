/- Lists of floats and of pairs of floats: the law's own copies, comparisons and marks. -/
import Derived.Test.YtfgjooddolnifaaVls
namespace Go.Proofs.Ytfgjooddolnifaa
open Ieee Go.RowKit
attribute [local go_sem] run_store_float alloc_drewN setCell_drewN shape?_drewN

theorem szCxS_any (a : Option Addr) (len cap : Nat) (left : Int) (h0 : 0 ≤ left) (h1 : left ≤ 1048576) (hl : (len : Int) ≤ 9223372036854775807) (w : World) :
    Calls Try.prog 14 #[.slice a len cap, .int .i64 left] w fun e w' => e = .returned (.int .i64 (if left < (len : Int) then -1 else left - len)) ∧ w' = w := by
  by_cases h : left < (len : Int)
  · rw [if_pos h]
    have h1 : left - (len : Int) < 0 := by omega
    go_enter Try.func14, Try.ntmps14
    go_wp2
    go_ret
    exact ⟨rfl, rfl⟩
  · rw [if_neg h]
    have h1 : ¬ left - (len : Int) < 0 := by omega
    go_enter Try.func14, Try.ntmps14
    go_wp2
    go_ret
    exact ⟨rfl, rfl⟩

set_option maxRecDepth 100000 in
theorem make_fs (n : Nat) (h : n ≤ 1048576) (w : World) :
    (Instr.makeSlice 26 (.int .i64 n) (.int .i64 n)).run Try.prog w = .ok (.slice (some ⟨w.heap.size, 0, none⟩) n n) (w.alloc (.cells (madeCells #[.float .f64 0] n) 31)) := by
  have := run_make (P := Try.prog) w 26 31 _ (.float .f64 0) Try.underlying26 rfl rfl .i64 .i64 n n (by omega) (by omega) (by show (8 : Int) * _ ≤ _; omega) (by omega)
  rw [this]
  show Result.ok (Value.slice _ (n : Int).toNat (n : Int).toNat) (w.alloc (.cells (madeCells (Value.cells (.float .f64 0)) ((n : Int).toNat * 1)) 31)) = _
  rw [Int.toNat_natCast, Nat.mul_one]
  rfl
set_option maxRecDepth 100000 in
theorem make_cs (n : Nat) (h : n ≤ 1048576) (w : World) :
    (Instr.makeSlice 24 (.int .i64 n) (.int .i64 n)).run Try.prog w = .ok (.slice (some ⟨w.heap.size, 0, none⟩) n n) (w.alloc (.cells (madeCells #[.float .f64 0, .float .f64 0] (n * 2)) 34)) := by
  have := run_make (P := Try.prog) w 24 34 _ (cx 0 0) Try.underlying24 rfl rfl .i64 .i64 n n (by omega) (by omega) (by show (16 : Int) * _ ≤ _; omega) (by omega)
  rw [this]
  show Result.ok (Value.slice _ (n : Int).toNat (n : Int).toNat) (w.alloc (.cells (madeCells (Value.cells (cx 0 0)) ((n : Int).toNat * 2)) 34)) = _
  rw [Int.toNat_natCast]
  rfl
theorem made1_at (n k : Nat) (h : k < n) : (madeCells #[Value.float .f64 0] n)[k]? = some (.float .f64 0) := by
  rw [← Array.getElem?_toList, toList_madeCells_one, List.getElem?_replicate, if_pos h]
theorem made2_at (n k : Nat) (h : k < n) : (madeCells #[Value.float .f64 0, .float .f64 0] n)[k]? = some (.float .f64 0) := by
  unfold madeCells
  rw [Array.getElem?_map, Array.getElem?_range, if_pos h]
  show some _ = _
  have h2 : k % 2 = 0 ∨ k % 2 = 1 := by omega
  show some ((#[Value.float .f64 0, .float .f64 0] : Array Value)[k % 2]!) = _
  rcases h2 with h2 | h2 <;> rw [h2] <;> rfl
theorem rowF_new (n : Nat) (t : TypeId) (w : World) : RowV w.heap.size n (flt fun _ => 0) (w.alloc (.cells (madeCells #[.float .f64 0] n) t)) := by
  intro k hk
  have := made1_at n k hk
  constructor
  · simp [go_sem, this, flt]
  · simp [go_sem]
theorem rowC_new (n : Nat) (t : TypeId) (w : World) : RowV w.heap.size n (flt fun _ => 0) (w.alloc (.cells (madeCells #[.float .f64 0, .float .f64 0] n) t)) := by
  intro k hk
  have := made2_at n k hk
  constructor
  · simp [go_sem, this, flt]
  · simp [go_sem]

set_option maxHeartbeats 1000000 in
theorem toCxS_any (a : Option Addr) (len cap : Nat) (F : Nat → Nat) (hl : len ≤ 1048576) (w : World) (h : PxV a (len * 2) (flt F) w) :
    Calls Try.prog 16 #[.slice a len cap] w fun e w' => e = .returned (.slice (some ⟨w.heap.size, 0, none⟩) len len) ∧ RowV w.heap.size (len * 2) (flt F) w' ∧ Below w.heap.size w w' ∧ w.heap.size < w'.heap.size := by
  have hmk := make_cs len hl w
  have HP := hide h
  clear h
  go_enter Try.func16, Try.ntmps16
  go_wp2
  go_loopw [4] (fun i wr => ∃ k : Nat, k ≤ len ∧ i = .int .i64 k ∧ PartP w.heap.size (len * 2) (k * 2) (fun j z => z = F j) wr ∧ Below w.heap.size w wr ∧ w.heap.size < wr.heap.size) (fun i _ => len - (intOf i).toNat)
  case atStart => exact ⟨0, by omega, rfl, (rowC_new (len * 2) 34 w).partP, bnew _ _, by simp⟩
  case round =>
    obtain ⟨k, hk, rfl, hp, hb, hs⟩ := hrel
    clear hmk
    by_cases hlt : k < len
    · obtain ⟨b, off, rfl, -, hc⟩ := (HP.out.below hb).at (by omega)
      have hz : wr.cell? ⟨b, off + k * 2, none⟩ = some (.float .f64 (F (k * 2))) := hc (k * 2) (by omega)
      have hz' : wr.cell? ⟨b, off + k * 2 + 1, none⟩ = some (.float .f64 (F (k * 2 + 1))) := hc (k * 2 + 1) (by omega)
      clear HP hc
      go_wp2_with fail
      refine (toCx_exact _ _ _).mono ?_
      rintro e w1 ⟨rfl, hw1⟩
      have hb1 : Below wr.heap.size wr w1 := by rw [hw1]; go_grown
      have hp1 := hp.below hb1 hs
      have HB1 : Hid (Below w.heap.size w w1) := bnext hb (Nat.le_refl _) hb1
      have hs1 : w.heap.size < w1.heap.size := Nat.lt_of_lt_of_le hs hb1.size
      obtain ⟨⟨x, hx, _⟩, f0⟩ := hp1 (k * 2) (by omega)
      obtain ⟨⟨y, hy, _⟩, f1⟩ := hp1 (k * 2 + 1) (by omega)
      have HPt := hide ((hp1.step (by omega) (F (k * 2)) rfl).step (by omega) (F (k * 2 + 1)) rfl)
      clear hw1 hb1 hp hb hs hz hz' hp1
      go_wp2_with fail
      exact ⟨⟨k + 1, by omega, rfl, (by rw [show (k + 1) * 2 = k * 2 + 1 + 1 from by omega]; exact HPt.out), (HB1.out.setCell (Nat.le_refl _) _).setCell (Nat.le_refl _) _, by simpa using hs1⟩, by simp [intOf]; omega⟩
    · obtain rfl : k = len := by omega
      go_wp2
      go_ret
      exact ⟨rfl, hp.rowE, hb, hs⟩

set_option maxHeartbeats 1000000 in
theorem eqCxS_any (a a' : Option Addr) (len cap cap' : Nat) (F G : Nat → Nat) (hl : len ≤ 1048576) (hfg : ∀ k, k < len * 2 → same (F k) (G k)) (w : World) (h : PxV a (len * 2) (flt F) w) (h' : PxV a' (len * 2) (flt G) w) :
    Calls Try.prog 18 #[.slice a len cap, .slice a' len cap'] w fun e w' => e = .returned (.bool true) ∧ Below w.heap.size w w' := by
  have HP := hide h
  have HP' := hide h'
  have HG := hide hfg
  clear h h' hfg
  go_enter Try.func18, Try.ntmps18
  go_wp2
  go_loopw [5] (fun i wr => ∃ k : Nat, k ≤ len ∧ i = .int .i64 k ∧ Below w.heap.size w wr) (fun i _ => len - (intOf i).toNat)
  case atStart => exact ⟨0, by omega, rfl, Below.refl _ _⟩
  case round =>
    obtain ⟨k, hk, rfl, hb⟩ := hrel
    by_cases hlt : k < len
    · obtain ⟨b, off, rfl, -, hc⟩ := (HP.out.below hb).at (by omega)
      obtain ⟨b', off', rfl, -, hc'⟩ := (HP'.out.below hb).at (by omega)
      have hz : wr.cell? ⟨b, off + k * 2, none⟩ = some (.float .f64 (F (k * 2))) := hc (k * 2) (by omega)
      have hz' : wr.cell? ⟨b, off + k * 2 + 1, none⟩ = some (.float .f64 (F (k * 2 + 1))) := hc (k * 2 + 1) (by omega)
      have hy : wr.cell? ⟨b', off' + k * 2, none⟩ = some (.float .f64 (G (k * 2))) := hc' (k * 2) (by omega)
      have hy' : wr.cell? ⟨b', off' + k * 2 + 1, none⟩ = some (.float .f64 (G (k * 2 + 1))) := hc' (k * 2 + 1) (by omega)
      have HB : Hid (Below w.heap.size w wr.drew) := hb.drew
      have hq := eqCx_any (F (k * 2)) (F (k * 2 + 1)) (G (k * 2)) (G (k * 2 + 1)) (HG.out _ (by omega)) (HG.out _ (by omega))
      clear HP HP' HG hc hc'
      go_wp2_with fail
      go_region_with (go_at_call 30; refine (hq _).mono ?_; rintro e w1 ⟨rfl, hb1⟩)
      all_goals
        have HB1 : Hid (Below w.heap.size w w1) := bnext HB.out (Nat.le_refl _) hb1
        clear hb1 HB hb hz hz' hy hy'
        go_wp2_with fail
        exact ⟨⟨k + 1, by omega, rfl, HB1.out⟩, by simp [intOf]; omega⟩
    · go_wp2
      go_ret
      exact ⟨rfl, hb⟩

theorem eqFloats_any (a a' : Option Addr) (len cap cap' : Nat) (F G : Nat → Nat) (hl : len ≤ 1048576) (hfg : ∀ k, k < len → same (F k) (G k)) (w : World) (h : PxV a len (flt F) w) (h' : PxV a' len (flt G) w) :
    Calls Try.prog 17 #[.slice a len cap, .slice a' len cap'] w fun e w' => e = .returned (.bool true) ∧ Below w.heap.size w w' := by
  have HP := hide h
  have HP' := hide h'
  have HG := hide hfg
  clear h h' hfg
  go_enter Try.func17, Try.ntmps17
  go_wp2
  go_loopw [5] (fun i wr => ∃ k : Nat, k ≤ len ∧ i = .int .i64 k ∧ Below w.heap.size w wr) (fun i _ => len - (intOf i).toNat)
  case atStart => exact ⟨0, by omega, rfl, Below.refl _ _⟩
  case round =>
    obtain ⟨k, hk, rfl, hb⟩ := hrel
    by_cases hlt : k < len
    · obtain ⟨b, off, rfl, -, hc⟩ := (HP.out.below hb).at (by omega)
      obtain ⟨b', off', rfl, -, hc'⟩ := (HP'.out.below hb).at (by omega)
      have hz : wr.cell? ⟨b, off + k, none⟩ = some (.float .f64 (F k)) := hc k (by omega)
      have hy : wr.cell? ⟨b', off' + k, none⟩ = some (.float .f64 (G k)) := hc' k (by omega)
      have HB : Hid (Below w.heap.size w wr.drew) := hb.drew
      have hq := sameFloat_any (F k) (G k) (HG.out _ (by omega))
      clear HP HP' HG hc hc'
      go_wp2_with fail
      go_region_with (go_at_call 42; refine (hq _).mono ?_; rintro e w1 ⟨rfl, rfl⟩)
      all_goals
        clear hb hz hy
        go_wp2_with fail
        exact ⟨⟨k + 1, by omega, rfl, HB.out⟩, by simp [intOf]; omega⟩
    · go_wp2
      go_ret
      exact ⟨rfl, hb⟩

theorem markFloats_any (a : Option Addr) (b len cap : Nat) (F : Nat → Nat) (k : Int) (h0 : 0 ≤ k) (h1 : k ≤ 4194304) (hl : len ≤ 1048576) (w : World) (h : OwV a b len (flt F) w) :
    Calls Try.prog 20 #[.slice a len cap, .int .i64 k] w fun e w' => e = .returned (.int .i64 (k + len)) ∧ OwV a b len (flt fun j => fmk (k + j)) w' ∧ Kept b w w' := by
  go_enter Try.func20, Try.ntmps20
  go_wp2
  go_loopw [1, 5] (fun m i wr => ∃ j : Nat, j ≤ len ∧ i = .int .i64 j ∧ m = .int .i64 (k + j) ∧ Kept b w wr ∧ (len = 0 ∨ (a = some ⟨b, 0, none⟩ ∧ PartP b len j (fun j z => z = fmk (k + j)) wr))) (fun _ i _ => len - (intOf i).toNat)
  case atStart =>
    refine ⟨0, by omega, rfl, by simp, Kept.refl _ _, ?_⟩
    rcases h with h | ⟨ha, h⟩
    · exact .inl h
    · exact .inr ⟨ha, RowV.partP h⟩
  case round =>
    obtain ⟨j, hj, rfl, rfl, hk, hp⟩ := hrel
    clear h
    by_cases hlt : j < len
    · obtain ⟨ha, hq⟩ : a = some ⟨b, 0, none⟩ ∧ PartP b len j (fun j z => z = fmk (k + j)) wr := by
        rcases hp with hp | hp
        · omega
        · exact hp
      clear hp
      subst ha
      obtain ⟨⟨y, hy, _⟩, fr⟩ := hq j hlt
      have HP := hide (hq.step hlt (fmk (k + j)) rfl)
      have HK : Hid (Kept b w (World.setCell _ ⟨b, j, none⟩ (.float .f64 (fmk (k + j))))) := hk.setCell rfl _
      clear hq hk
      go_wp2
      exact ⟨⟨j + 1, by omega, rfl, by congr 1; omega, HK.out, .inr ⟨trivial, HP.out⟩⟩, by simp [intOf]; omega⟩
    · obtain rfl : j = len := by omega
      go_wp2
      go_ret
      refine ⟨rfl, ?_, hk⟩
      rcases hp with hp | ⟨ha, hp⟩
      · exact .inl hp
      · exact .inr ⟨ha, hp.rowE⟩

theorem heldFloats_any (a : Option Addr) (b len cap : Nat) (k : Int) (h0 : 0 ≤ k) (h1 : k ≤ 4194304) (hl : len ≤ 1048576) (w : World) (h : OwV a b len (flt fun j => fmk (k + j)) w) :
    Calls Try.prog 21 #[.slice a len cap, .int .i64 k] w fun e w' => e = .returned (.int .i64 (k + len)) ∧ w' = w := by
  have HO := hide h
  clear h
  go_enter Try.func21, Try.ntmps21
  go_wp2
  go_loop [1, 5] (fun m i => ∃ j : Nat, j ≤ len ∧ i = .int .i64 j ∧ m = .int .i64 (k + j)) (fun _ i => len - (intOf i).toNat)
  case atStart => exact ⟨0, by omega, rfl, by simp⟩
  case round =>
    obtain ⟨j, hj, rfl, rfl⟩ := hrel
    by_cases hlt : j < len
    · obtain ⟨ha, hq⟩ : a = some ⟨b, 0, none⟩ ∧ RowV b len (flt fun j => fmk (k + j)) w := by
        rcases HO.out with hp | hp
        · omega
        · exact hp
      clear HO
      subst ha
      have hy : w.cell? ⟨b, j, none⟩ = some (.float .f64 (floatOfInt .f64 (k + j))) := (hq j hlt).1
      have hne := fmk_self (k + (j : Int))
      clear hq
      go_wp2
      exact ⟨⟨j + 1, by omega, rfl, by congr 1; omega⟩, by simp [intOf]; omega⟩
    · obtain rfl : j = len := by omega
      go_wp2
      go_ret
      exact ⟨rfl, rfl⟩

end Go.Proofs.Ytfgjooddolnifaa

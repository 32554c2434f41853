/- Lists of Copy: the law's own sizes, copies, comparisons. -/
import Derived.Test.YtcdpnofjahdieaaSen
namespace Go.Proofs.Ytcdpnofjahdieaa
open Go.RowKit

/-- a Copy: what it says -/
structure SCopy where
  f0 : ByteArray
  f1 : Int
  f2 : ByteArray
  f3 : Int
abbrev vCopy (x0 : ByteArray) (x1 : Int) (x2 : ByteArray) (x3 : Int) : Value := .agg #[.string x0, .int .i64 x1, .string x2, .int .i64 x3]
/-- the cells of a list of Copy -/
def FCopy (E : Nat → SCopy) (q : Nat) : Value :=
  if q % 4 = 0 then .string (E (q / 4)).f0 else if q % 4 = 1 then .int .i64 (E (q / 4)).f1 else if q % 4 = 2 then .string (E (q / 4)).f2 else .int .i64 (E (q / 4)).f3
theorem FCopy_0 (E : Nat → SCopy) (k : Nat) : FCopy E (k * 4) = .string (E k).f0 := by
  have h1 : (k * 4) % 4 = 0 := by omega
  have h2 : (k * 4) / 4 = k := by omega
  unfold FCopy
  rw [h1, h2]
  rfl
theorem FCopy_1 (E : Nat → SCopy) (k : Nat) : FCopy E (k * 4 + 1) = .int .i64 (E k).f1 := by
  have h1 : (k * 4 + 1) % 4 = 1 := by omega
  have h2 : (k * 4 + 1) / 4 = k := by omega
  unfold FCopy
  rw [h1, h2]
  rfl
theorem FCopy_2 (E : Nat → SCopy) (k : Nat) : FCopy E (k * 4 + 2) = .string (E k).f2 := by
  have h1 : (k * 4 + 2) % 4 = 2 := by omega
  have h2 : (k * 4 + 2) / 4 = k := by omega
  unfold FCopy
  rw [h1, h2]
  rfl
theorem FCopy_3 (E : Nat → SCopy) (k : Nat) : FCopy E (k * 4 + 3) = .int .i64 (E k).f3 := by
  have h1 : (k * 4 + 3) % 4 = 3 := by omega
  have h2 : (k * 4 + 3) / 4 = k := by omega
  unfold FCopy
  rw [h1, h2]
  rfl
theorem PxG.atCopy {a : Option Addr} {n k : Nat} {E : Nat → SCopy} {w : World} (h : PxG a (n * 4) (FCopy E) w) (hk : k < n) :
    ∃ b off, a = some ⟨b, off, none⟩ ∧ w.cell? ⟨b, off + k * 4, none⟩ = some (.string (E k).f0) ∧ w.cell? ⟨b, off + k * 4 + 1, none⟩ = some (.int .i64 (E k).f1) ∧ w.cell? ⟨b, off + k * 4 + 2, none⟩ = some (.string (E k).f2) ∧ w.cell? ⟨b, off + k * 4 + 3, none⟩ = some (.int .i64 (E k).f3) := by
  rcases h with h | ⟨b, off, ha, hc⟩
  · omega
  · refine ⟨b, off, ha, ?_, ?_, ?_, ?_⟩
    · rw [← FCopy_0 E k]; exact hc _ (by omega)
    · rw [← FCopy_1 E k, Nat.add_assoc]; exact hc _ (by omega)
    · rw [← FCopy_2 E k, Nat.add_assoc]; exact hc _ (by omega)
    · rw [← FCopy_3 E k, Nat.add_assoc]; exact hc _ (by omega)
theorem PtV.stCopy {b n k : Nat} {E : Nat → SCopy} {w : World} (h : PtV b (n * 4) (k * 4) (FCopy E) w) :
    PtV b (n * 4) (k * 4 + 4) (FCopy E) ((((w.setCell ⟨b, k * 4, none⟩ (.string (E k).f0)).setCell ⟨b, k * 4 + 1, none⟩ (.int .i64 (E k).f1)).setCell ⟨b, k * 4 + 2, none⟩ (.string (E k).f2)).setCell ⟨b, k * 4 + 3, none⟩ (.int .i64 (E k).f3)) := by
  have h0 := h.step (.string (E k).f0) (FCopy_0 E k).symm
  have h1 := h0.step (.int .i64 (E k).f1) (FCopy_1 E k).symm
  have h2 := h1.step (.string (E k).f2) (FCopy_2 E k).symm
  have h3 := h2.step (.int .i64 (E k).f3) (FCopy_3 E k).symm
  exact h3

set_option maxRecDepth 100000 in
set_option maxHeartbeats 1000000 in
theorem toCopy_any (x0 : ByteArray) (x1 : Int) (x2 : ByteArray) (x3 : Int) (w : World) :
    Calls Try.prog 40 #[vCopy x0 x1 x2 x3] w fun e w' => e = .returned (vCopy x0 x1 x2 x3) ∧ Below w.heap.size w w' := by
  go_enter Try.func40, Try.ntmps40
  go_wp2_with fail
  refine bodyPost_ret (v := vCopy x0 x1 x2 x3) (by simp [results, Try.results40, go_sem]) rfl ⟨rfl, ?_⟩
  exact ((bnew _ _).alloc (by simp) _).alloc (by simp; omega) _

set_option maxRecDepth 100000 in
theorem make_Copy (n : Nat) (h : n ≤ 1048576) (w : World) :
    (Instr.makeSlice 29 (.int .i64 n) (.int .i64 n)).run Try.prog w = .ok (.slice (some ⟨w.heap.size, 0, none⟩) n n) (w.alloc (.cells (madeCells #[.string ⟨#[]⟩, .int .i64 0, .string ⟨#[]⟩, .int .i64 0] (n * 4)) 44)) := by
  have := run_make (P := Try.prog) w 29 44 _ (.agg #[.string ⟨#[]⟩, .int .i64 0, .string ⟨#[]⟩, .int .i64 0]) Try.underlying29 rfl rfl .i64 .i64 n n (by omega) (by omega) (by show (48 : Int) * _ ≤ _; omega) (by omega)
  rw [this]
  show Result.ok (Value.slice _ (n : Int).toNat (n : Int).toNat) (w.alloc (.cells (madeCells (Value.cells (.agg #[.string ⟨#[]⟩, .int .i64 0, .string ⟨#[]⟩, .int .i64 0])) ((n : Int).toNat * 4)) 44)) = _
  rw [Int.toNat_natCast]
  rfl
theorem made_Copy (n k : Nat) (h : k < n) : ∃ z, (madeCells #[Value.string ⟨#[]⟩, Value.int .i64 0, Value.string ⟨#[]⟩, Value.int .i64 0] n)[k]? = some z := by
  unfold madeCells
  rw [Array.getElem?_map, Array.getElem?_range, if_pos h]
  exact ⟨_, rfl⟩
theorem ptV_Copy (n : Nat) (F : Nat → Value) (w : World) : PtV w.heap.size n 0 F (w.alloc (.cells (madeCells #[.string ⟨#[]⟩, .int .i64 0, .string ⟨#[]⟩, .int .i64 0] n) 44)) := fun j hj => by
  obtain ⟨z, h⟩ := made_Copy n j hj
  exact ⟨⟨z, by simp [go_sem, h], fun x => absurd x (Nat.not_lt_zero _)⟩, by simp [go_sem]⟩

set_option maxRecDepth 100000 in
set_option maxHeartbeats 2000000 in
theorem toCopyS_any (a : Option Addr) (n cap : Nat) (E : Nat → SCopy) (hl : n ≤ 1048576) (w : World) (h : PxG a (n * 4) (FCopy E) w) :
    Calls Try.prog 17 #[.slice a n cap] w fun e w' => e = .returned (.slice (some ⟨w.heap.size, 0, none⟩) n n) ∧ RowV w.heap.size (n * 4) (FCopy E) w' ∧ Below w.heap.size w w' ∧ w.heap.size < w'.heap.size := by
  have hmk := make_Copy n hl w
  have HP := hide h
  clear h
  go_enter Try.func17, Try.ntmps17
  go_wp2
  go_loopw [4] (fun i wr => ∃ k : Nat, k ≤ n ∧ i = .int .i64 k ∧ PtV w.heap.size (n * 4) (k * 4) (FCopy E) wr ∧ Below w.heap.size w wr ∧ w.heap.size < wr.heap.size) (fun i _ => n - (intOf i).toNat)
  case atStart => exact ⟨0, by omega, rfl, by rw [Nat.zero_mul]; exact ptV_Copy (n * 4) _ w, bnew _ _, by simp⟩
  case round =>
    obtain ⟨k, hk, rfl, hp, hb, hs⟩ := hrel
    clear hmk
    by_cases hlt : k < n
    · obtain ⟨b, off, rfl, z0, z1, z2, z3⟩ := (HP.out.below hb).atCopy hlt
      clear HP
      go_wp2_with fail
      refine (toCopy_any _ _ _ _ _).mono ?_
      rintro e w1 ⟨rfl, hb1⟩
      have hp1 := hp.below hb1 hs
      have HB1 : Hid (Below w.heap.size w w1) := bnext hb (Nat.le_refl _) hb1
      have hs1 : w.heap.size < w1.heap.size := Nat.lt_of_lt_of_le hs hb1.size
      obtain ⟨⟨y0, c0, _⟩, g0⟩ := hp1 (k * 4) (by omega)
      obtain ⟨⟨y1, c1, _⟩, g1⟩ := hp1 (k * 4 + 1) (by omega)
      obtain ⟨⟨y2, c2, _⟩, g2⟩ := hp1 (k * 4 + 2) (by omega)
      obtain ⟨⟨y3, c3, _⟩, g3⟩ := hp1 (k * 4 + 3) (by omega)
      have HPt : Hid (PtV w.heap.size (n * 4) (k * 4 + 4) (FCopy E) _) := hp1.stCopy
      clear hb1 hp hb hs hp1 z0 z1 z2 z3
      go_wp2_with fail
      refine ⟨⟨k + 1, by omega, rfl, ?_, ?_, by simpa using hs1⟩, by simp [intOf]; omega⟩
      · rw [Nat.succ_mul]; exact HPt.out
      · exact ((((HB1.out.setCell (Nat.le_refl _) _).setCell (Nat.le_refl _) _).setCell (Nat.le_refl _) _).setCell (Nat.le_refl _) _)
    · obtain rfl : k = n := by omega
      go_wp2
      go_ret
      exact ⟨rfl, hp.row, hb, hs⟩

set_option maxRecDepth 100000 in
set_option maxHeartbeats 1000000 in
theorem eqCopy_any (x0 : ByteArray) (x1 : Int) (x2 : ByteArray) (x3 : Int) (w : World) :
    Calls Try.prog 50 #[vCopy x0 x1 x2 x3, vCopy x0 x1 x2 x3] w fun e w' => e = .returned (.bool true) ∧ Below w.heap.size w w' := by
  have HB0 : Hid (∀ o o', Below w.heap.size w ((w.alloc o).alloc o')) := fun o o' => (bnew _ _).alloc (by simp) _
  have q0 : (x0.toList == x0.toList) = true := by simp
  have q1 : (x1 != x1) = false := by simp
  have q2 : (x2.toList == x2.toList) = true := by simp
  have q3 : (x3 != x3) = false := by simp
  go_enter Try.func50, Try.ntmps50
  go_wp2_with fail
  go_ret
  exact ⟨rfl, HB0.out _ _⟩

set_option maxRecDepth 100000 in
set_option maxHeartbeats 2000000 in
theorem eqCopyS_any (a a' : Option Addr) (n cap cap' : Nat) (E : Nat → SCopy) (hl : n ≤ 1048576) (w : World) (h : PxG a (n * 4) (FCopy E) w) (h' : PxG a' (n * 4) (FCopy E) w) :
    Calls Try.prog 23 #[.slice a n cap, .slice a' n cap'] w fun e w' => e = .returned (.bool true) ∧ Below w.heap.size w w' := by
  have HP := hide h
  have HP' := hide h'
  clear h h'
  go_enter Try.func23, Try.ntmps23
  go_wp2
  go_loopw [5] (fun i wr => ∃ k : Nat, k ≤ n ∧ i = .int .i64 k ∧ Below w.heap.size w wr) (fun i _ => n - (intOf i).toNat)
  case atStart => exact ⟨0, by omega, rfl, Below.refl _ _⟩
  case round =>
    obtain ⟨k, hk, rfl, hb⟩ := hrel
    by_cases hlt : k < n
    · obtain ⟨b, off, rfl, z0, z1, z2, z3⟩ := (HP.out.below hb).atCopy hlt
      obtain ⟨b', off', rfl, y0, y1, y2, y3⟩ := (HP'.out.below hb).atCopy hlt
      clear HP HP'
      have HB : Hid (Below w.heap.size w wr.drew) := hb.drew
      have hq := eqCopy_any (E k).f0 (E k).f1 (E k).f2 (E k).f3
      go_wp2_with fail
      go_region_with (go_at_call 50; refine (hq _).mono ?_; rintro e w1 ⟨rfl, hb1⟩)
      all_goals
        have HB1 : Hid (Below w.heap.size w w1) := bnext HB.out (Nat.le_refl _) hb1
        clear hb1 HB hb z0 z1 z2 z3 y0 y1 y2 y3
        go_wp2_with fail
        exact ⟨⟨k + 1, by omega, rfl, HB1.out⟩, by simp [intOf]; omega⟩
    · go_wp2
      go_ret
      exact ⟨rfl, hb⟩

/-- how much the texts of one are -/
def eCopy (E : Nat → SCopy) (k : Nat) : Nat := (E k).f0.size + (E k).f2.size

set_option maxRecDepth 100000 in
set_option maxHeartbeats 1000000 in
theorem szCopy_any (x0 : ByteArray) (x1 : Int) (x2 : ByteArray) (x3 : Int) (left : Int) (h0 : 0 ≤ left) (h1 : left ≤ 1048576) (ht0 : x0.size ≤ maxLen) (ht2 : x2.size ≤ maxLen) (w : World) :
    Calls Try.prog 32 #[vCopy x0 x1 x2 x3, .int .i64 left] w fun e w' => e = .returned (.int .i64 (if left < ((x0.size + x2.size : Nat) : Int) then -1 else left - ((x0.size + x2.size : Nat) : Int))) ∧ Below w.heap.size w w' := by
  unfold maxLen at ht0 ht2
  have HB := hide (bnew w (.cells #[.string x0, .int .i64 x1, .string x2, .int .i64 x3] 59))
  have wl0 : IntKind.i64.wrap (left - (x0.size : Int)) = left - (x0.size : Int) := by rw [IntKind.wrap_i64]; omega
  by_cases hq0 : left - (x0.size : Int) < 0
  · rw [if_pos (by omega)]
    go_enter Try.func32, Try.ntmps32
    go_wp2_with fail
    go_ret
    exact ⟨rfl, HB.out⟩
  · skip
    have wl1 : IntKind.i64.wrap (left - (x0.size : Int) - (x2.size : Int)) = left - (x0.size : Int) - (x2.size : Int) := by rw [IntKind.wrap_i64]; omega
    by_cases hq1 : left - (x0.size : Int) - (x2.size : Int) < 0
    · rw [if_pos (by omega)]
      go_enter Try.func32, Try.ntmps32
      go_wp2_with fail
      go_ret
      exact ⟨rfl, HB.out⟩
    · skip
      rw [if_neg (by omega), show left - ((x0.size + x2.size : Nat) : Int) = left - (x0.size : Int) - (x2.size : Int) by omega]
      go_enter Try.func32, Try.ntmps32
      go_wp2_with fail
      go_ret
      exact ⟨rfl, HB.out⟩

set_option maxRecDepth 100000 in
set_option maxHeartbeats 2000000 in
theorem szCopyS_any (a : Option Addr) (n cap : Nat) (E : Nat → SCopy) (hm : n ≤ maxLen) (hl : ∀ i, (E i).f0.size ≤ maxLen ∧ (E i).f2.size ≤ maxLen) (left : Int) (h0 : 0 ≤ left) (h1 : left ≤ 1048576) (w : World) (h : PxG a (n * 4) (FCopy E) w) :
    Calls Try.prog 12 #[.slice a n cap, .int .i64 left] w fun e w' => Below w.heap.size w w' ∧ ∃ v : Int, e = .returned (.int .i64 v) ∧ ((v < 0) ∨ (0 ≤ v ∧ v ≤ 1048576 ∧ n ≤ 1048576 ∧ ∀ i, i < n → eCopy E i ≤ 1048576)) := by
  unfold maxLen at hm
  by_cases hb : left < (n : Int)
  · have h1 : left - (n : Int) < 0 := by omega
    have wl : IntKind.i64.wrap (left - (n : Int)) = left - (n : Int) := by rw [IntKind.wrap_i64]; omega
    clear h
    go_enter Try.func12, Try.ntmps12
    go_wp2_with fail
    go_ret
    exact ⟨Below.refl _ _, _, rfl, .inl (by decide)⟩
  · have h2 : ¬ left - (n : Int) < 0 := by omega
    have wl : IntKind.i64.wrap (left - (n : Int)) = left - (n : Int) := by rw [IntKind.wrap_i64]; omega
    have HP := hide h
    have HL := hide hl
    clear h hl
    go_enter Try.func12, Try.ntmps12
    go_wp2_with fail
    clear wl
    go_loopw [1, 5] (fun l i wr => ∃ (k : Nat) (L : Int), k ≤ n ∧ i = .int .i64 k ∧ l = .int .i64 L ∧ 0 ≤ L ∧ L ≤ left ∧ Hid (∀ i, i < k → eCopy E i ≤ 1048576) ∧ Below w.heap.size w wr) (fun _ i _ => n - (intOf i).toNat)
    case atStart => exact ⟨0, _, by omega, rfl, rfl, by omega, by omega, hide fun i hi => absurd hi (Nat.not_lt_zero _), Below.refl _ _⟩
    case round =>
      obtain ⟨k, L, hk, rfl, rfl, hL0, hL1, HE, hbw⟩ := hrel
      by_cases hlt : k < n
      · obtain ⟨b, off, rfl, z0, z1, z2, z3⟩ := (HP.out.below hbw).atCopy hlt
        have hlk := HL.out k
        have cz := fun w' => szCopy_any (E k).f0 (E k).f1 (E k).f2 (E k).f3 L hL0 (by omega) hlk.1 hlk.2 w'
        have HB := hide hbw
        have HEK : Hid (eCopy E k = (E k).f0.size + (E k).f2.size) := rfl
        by_cases hq : L < (((E k).f0.size + (E k).f2.size : Nat) : Int)
        · simp only [if_pos hq] at cz
          clear hq HP HL hbw hlk HEK
          go_wp2_with fail
          refine (cz _).mono ?_
          rintro e w1 ⟨rfl, hb1⟩
          have HB1 := hide (bnext HB.out (Nat.le_refl _) hb1)
          clear cz hb1
          go_wp2_with fail
          go_ret
          exact ⟨HB1.out, _, rfl, .inl (by decide)⟩
        · simp only [if_neg hq] at cz
          have HE2 : Hid (∀ i, i < k + 1 → eCopy E i ≤ 1048576) := fun i hi => by
            by_cases e : i = k
            · subst e; rw [HEK.out]; omega
            · exact HE.out i (by omega)
          obtain ⟨R, hR⟩ : ∃ R, R = L - (((E k).f0.size + (E k).f2.size : Nat) : Int) := ⟨_, rfl⟩
          have h9 : ¬ R < 0 := by omega
          have h9b : R ≤ left := by omega
          have h9c : 0 ≤ R := by omega
          rw [← hR] at cz
          clear hR hq HP HL hbw hlk HEK HE hL0 hL1
          go_wp2_with fail
          refine (cz _).mono ?_
          rintro e w1 ⟨rfl, hb1⟩
          have HB1 := hide (bnext HB.out (Nat.le_refl _) hb1)
          clear cz hb1
          go_wp2_with fail
          exact ⟨⟨k + 1, R, by omega, rfl, rfl, h9c, h9b, HE2, HB1.out⟩, by simp [intOf]; omega⟩
      · obtain rfl : k = n := by omega
        have HX : Hid (L ≤ 1048576 ∧ k ≤ 1048576) := ⟨by omega, by omega⟩
        have HX0 := hide hL0
        clear HP HL
        go_wp2
        go_ret
        exact ⟨hbw, L, rfl, .inr ⟨HX0.out, HX.out.1, HX.out.2, HE.out⟩⟩

end Go.Proofs.Ytcdpnofjahdieaa

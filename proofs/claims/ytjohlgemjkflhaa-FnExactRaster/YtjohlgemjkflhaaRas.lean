/- The raster: the specification and the program. -/
import Derived.Test.YtjohlgemjkflhaaGro
import Derived.Test.YtjohlgemjkflhaaPls
import Derived.Test.YtjohlgemjkflhaaBol
namespace Go.Proofs.Ytjohlgemjkflhaa
open Go.RowKit

/-- is it a side of a raster -/
def sideB (n : Int) : Bool := n == 1 || (n == 2 || (n == 4 || (n == 8 || (n == 16 || (n == 32 || n == 64)))))
/-- the orders of the first lines of the raster of n, number by number -/
def rasL (n : Int) : Nat → List Int
  | 0 => []
  | k + 1 => rasL n k ++ ([1, 1, 1, 0] ++ ((if k = 0 then [] else [2, 2, (k : Int), 4]) ++ [3, 0, n, 0, 4, 0, 4, 0]))
/-- how many orders they are -/
def rasN (k : Nat) : Nat := 4 * k - 1

theorem l3Side_any (n : Int) (w : World) : Calls Try.prog 22 #[.int .i64 n] w fun e w' => e = .returned (.bool (sideB n)) ∧ w' = w := by
  unfold sideB
  by_cases h1 : n = 1
  · subst h1; go_enter Try.func22, Try.ntmps22; go_wp2; go_ret; exact ⟨rfl, rfl⟩
  by_cases h2 : n = 2
  · subst h2; go_enter Try.func22, Try.ntmps22; go_wp2; go_ret; exact ⟨rfl, rfl⟩
  by_cases h3 : n = 4
  · subst h3; go_enter Try.func22, Try.ntmps22; go_wp2; go_ret; exact ⟨rfl, rfl⟩
  by_cases h4 : n = 8
  · subst h4; go_enter Try.func22, Try.ntmps22; go_wp2; go_ret; exact ⟨rfl, rfl⟩
  by_cases h5 : n = 16
  · subst h5; go_enter Try.func22, Try.ntmps22; go_wp2; go_ret; exact ⟨rfl, rfl⟩
  by_cases h6 : n = 32
  · subst h6; go_enter Try.func22, Try.ntmps22; go_wp2; go_ret; exact ⟨rfl, rfl⟩
  by_cases h7 : n = 64
  · subst h7; go_enter Try.func22, Try.ntmps22; go_wp2; go_ret; exact ⟨rfl, rfl⟩
  have e1 : (n == 1) = false := by simpa using h1
  have e2 : (n == 2) = false := by simpa using h2
  have e3 : (n == 4) = false := by simpa using h3
  have e4 : (n == 8) = false := by simpa using h4
  have e5 : (n == 16) = false := by simpa using h5
  have e6 : (n == 32) = false := by simpa using h6
  have e7 : (n == 64) = false := by simpa using h7
  rw [e1, e2, e3, e4, e5, e6, e7]
  go_enter Try.func22, Try.ntmps22
  go_wp2
  go_ret
  exact ⟨rfl, rfl⟩

theorem isRasterSide_any (n : Int) (w : World) : Calls Try.prog 23 #[.int .i64 n] w fun e w' => e = .returned (.bool (sideB n)) ∧ w' = w := by
  have c := isSide_any n
  cases hin : inB n 1 64
  · have hs : sideB n = false := by
      unfold inB at hin; unfold sideB
      simp only [Bool.and_eq_false_iff, decide_eq_false_iff_not] at hin
      simp only [Bool.or_eq_false_iff, beq_eq_false_iff_ne, ne_eq]
      omega
    rw [hin] at c
    rw [hs]
    clear hin hs
    go_enter Try.func23, Try.ntmps23
    go_wp2_with fail
    refine (c _).mono ?_
    rintro e w1 ⟨rfl, rfl⟩
    go_wp2_with fail
    go_ret
    exact ⟨rfl, rfl⟩
  · rw [hin] at c
    obtain ⟨m, rfl, h1, h2⟩ : ∃ m : Nat, n = (m : Int) ∧ 1 ≤ m ∧ m ≤ 64 := by
      unfold inB at hin
      simp only [Bool.and_eq_true, decide_eq_true_eq] at hin
      exact ⟨n.toNat, by omega, by omega, by omega⟩
    clear hin
    have hb : ∀ m : Nat, m < 65 → 1 ≤ m → (bits BinOp.and IntKind.i64 (m : Int) ((m : Int) - 1) == 0) = sideB (m : Int) := by decide +kernel
    have HB : Hid ((bits BinOp.and IntKind.i64 (m : Int) ((m : Int) - 1) == 0) = sideB (m : Int)) := hb m (by omega) h1
    clear hb
    go_enter Try.func23, Try.ntmps23
    go_wp2_with fail
    refine (c _).mono ?_
    rintro e w1 ⟨rfl, rfl⟩
    go_wp2_with fail
    go_ret
    exact ⟨by rw [← HB.out]; rfl, rfl⟩

theorem sideB_nat {n : Int} (h : sideB n = true) : ∃ m : Nat, n = (m : Int) ∧ 1 ≤ m ∧ m ≤ 64 := by
  unfold sideB at h
  simp only [Bool.or_eq_true, beq_iff_eq] at h
  exact ⟨n.toNat, by omega, by omega, by omega⟩

theorem rasL_len (n : Int) : ∀ k, (rasL n k).length = rasN k * 4
  | 0 => rfl
  | k + 1 => by
    simp only [rasL, List.length_append, rasL_len n k]
    unfold rasN
    by_cases h : k = 0
    · rw [if_pos h]; simp; omega
    · rw [if_neg h]; simp; omega
theorem info44 : ∃ i, Try.prog.info? 44 = some i ∧ i.zero = some (vPulse 0 0 0 0) ∧ i.size = 4 ∧ i.bytes = 32 := ⟨_, rfl, rfl, rfl, rfl⟩

/-- what Raster answers: nothing, or the raster -/
def RasE (n : Int) (w : World) (e : Ending) (w' : World) : Prop :=
  ∃ a cap b, e = .returned (.slice a (if sideB n = true then rasN n.toNat else 0) cap) ∧ Ow a b ((if sideB n = true then rasN n.toNat else 0) * 4) (fun q => (rasL n n.toNat).getD q 0) w' ∧ w.heap.size ≤ b ∧ b < w'.heap.size ∧ Below w.heap.size w w'

set_option maxHeartbeats 2000000 in
theorem specRaster_yes (m : Nat) (hm : m ≤ 64) (hs : sideB (m : Int) = true) (w : World) :
    Calls Try.prog 10 #[.int .i64 m] w fun e w' => ∃ v, e = .returned v ∧ w'.ownsRow w.heap.size 44 4 v (rasN m) (ints (rasL m m)) ∧ Below w.heap.size w w' ∧ w.heap.size < w'.heap.size := by
  have c := l3Side_any (m : Int)
  rw [hs] at c
  clear hs
  obtain ⟨ti, hi1, hi2, hi3, hi4⟩ := info44
  have HI1 := hide hi1
  clear hi1
  go_enter Try.func10, Try.ntmps10
  go_wp2_with fail
  refine (c _).mono ?_
  rintro e w1 ⟨rfl, rfl⟩
  clear c
  go_wp2_with fail
  go_loopw [3, 4] (fun v i wr => ∃ k : Nat, k ≤ m ∧ i = .int .i64 k ∧ wr.ownsRow w.heap.size 44 4 v (rasN k) (ints (rasL m k)) ∧ Below w.heap.size w wr ∧ w.heap.size < wr.heap.size) (fun _ i _ => m - (intOf i).toNat)
  case atStart => exact ⟨0, by omega, rfl, World.ownsRow_lit w #[] 0 (Nat.le_refl _) (by unfold maxLen; omega) rfl, bnew _ _, by simp⟩
  case round =>
    obtain ⟨k, hk, rfl, ho, hb, hs⟩ := hrel
    by_cases hlt : k < m
    · have HO := hide ho
      have HB := hide hb
      have hrn : rasN k ≤ 256 := by unfold rasN; omega
      have HS := hide (Nat.le_of_lt hs)
      clear ho hb
      by_cases h0 : k = 0
      · subst h0
        go_wp2_with (refine grow _ rfl _ _ 29 rfl w.heap.size 44 ti (vPulse 0 0 0 0) 4 32 Try.underlying29 HI1.out hi2 hi3 hi4 rfl (by omega) _ (rasN 0) (rasL m 0) rfl w HO.out HB.out HS.out [1, 1, 1, 0] 1 1 rfl rfl (by unfold maxLen; omega) (by omega) ?_)
        intro v1 w1 ho1 hb1 hs1
        have HO1 := hide ho1
        have HB1 := hide hb1
        have HS1 : Hid (w.heap.size ≤ w1.heap.size) := Nat.le_trans HS.out (Nat.le_of_lt hs1)
        clear HO HB HS ho1 hb1 hs1
        go_wp2_with (refine grow _ rfl _ _ 29 rfl w.heap.size 44 ti (vPulse 0 0 0 0) 4 32 Try.underlying29 HI1.out hi2 hi3 hi4 rfl (by omega) _ (rasN 0 + 1) (rasL m 0 ++ [1, 1, 1, 0]) rfl w HO1.out HB1.out HS1.out [3, 0, m, 0, 4, 0, 4, 0] 2 2 rfl rfl (by unfold maxLen; omega) (by omega) ?_)
        intro v2 w2 ho2 hb2 hs2
        have HO2 := hide ho2
        have HB2 := hide hb2
        have hs3 : w.heap.size < w2.heap.size := Nat.lt_of_le_of_lt HS1.out hs2
        clear HO1 HB1 HS1 ho2 hb2 hs2
        go_wp2_with fail
        exact ⟨⟨1, by omega, rfl, HO2.out, HB2.out, hs3⟩, by simp [intOf]; omega⟩
      · have hpos : (0 : Int) < k := by omega
        go_wp2_with (refine grow _ rfl _ _ 29 rfl w.heap.size 44 ti (vPulse 0 0 0 0) 4 32 Try.underlying29 HI1.out hi2 hi3 hi4 rfl (by omega) _ (rasN k) (rasL m k) rfl w HO.out HB.out HS.out [1, 1, 1, 0] 1 1 rfl rfl (by unfold maxLen; omega) (by omega) ?_)
        intro v1 w1 ho1 hb1 hs1
        have HO1 := hide ho1
        have HB1 := hide hb1
        have HS1 : Hid (w.heap.size ≤ w1.heap.size) := Nat.le_trans HS.out (Nat.le_of_lt hs1)
        clear HO HB HS ho1 hb1 hs1
        go_wp2_with (refine grow _ rfl _ _ 29 rfl w.heap.size 44 ti (vPulse 0 0 0 0) 4 32 Try.underlying29 HI1.out hi2 hi3 hi4 rfl (by omega) _ (rasN k + 1) (rasL m k ++ [1, 1, 1, 0]) rfl w HO1.out HB1.out HS1.out [2, 2, (k : Int), 4] 1 1 rfl rfl (by unfold maxLen; omega) (by omega) ?_)
        intro v2 w2 ho2 hb2 hs2
        have HO2 : Hid (w2.ownsRow w.heap.size 44 4 v2 (rasN k + 1 + 1) (ints (rasL m k ++ [1, 1, 1, 0, 2, 2, (k : Int), 4]))) := by first | exact ho2 | simpa using ho2
        have HB2 := hide hb2
        have HS2 : Hid (w.heap.size ≤ w2.heap.size) := Nat.le_trans HS1.out (Nat.le_of_lt hs2)
        clear HO1 HB1 HS1 ho2 hb2 hs2
        go_wp2_with (refine grow _ rfl _ _ 29 rfl w.heap.size 44 ti (vPulse 0 0 0 0) 4 32 Try.underlying29 HI1.out hi2 hi3 hi4 rfl (by omega) _ (rasN k + 1 + 1) (rasL m k ++ [1, 1, 1, 0, 2, 2, (k : Int), 4]) rfl w HO2.out HB2.out HS2.out [3, 0, m, 0, 4, 0, 4, 0] 2 2 rfl rfl (by unfold maxLen; omega) (by omega) ?_)
        intro v3 w3 ho3 hb3 hs3
        have HO3 : Hid (w3.ownsRow w.heap.size 44 4 v3 (rasN (k + 1)) (ints (rasL m (k + 1)))) := by
          have e : rasN (k + 1) = rasN k + 1 + 1 + 2 := by unfold rasN; omega
          have e2 : rasL m (k + 1) = rasL m k ++ [1, 1, 1, 0, 2, 2, (k : Int), 4, 3, 0, m, 0, 4, 0, 4, 0] := by simp [rasL, h0]
          rw [e, e2]
          first | exact ho3 | simpa using ho3
        have HB3 := hide hb3
        have hs4 : w.heap.size < w3.heap.size := Nat.lt_of_le_of_lt HS2.out hs3
        clear HO2 HB2 HS2 ho3 hb3 hs3
        go_wp2_with fail
        exact ⟨⟨k + 1, by omega, rfl, HO3.out, HB3.out, hs4⟩, by simp [intOf]; omega⟩
    · obtain rfl : k = m := by omega
      go_wp2
      go_ret
      exact ⟨_, rfl, ho, hb, hs⟩

set_option maxHeartbeats 2000000 in
theorem implRaster_yes (m : Nat) (hm : m ≤ 64) (hs : sideB (m : Int) = true) (w : World) :
    Calls Try.prog 11 #[.int .i64 m] w fun e w' => ∃ v, e = .returned v ∧ w'.ownsRow w.heap.size 44 4 v (rasN m) (ints (rasL m m)) ∧ Below w.heap.size w w' := by
  have c := isRasterSide_any (m : Int)
  rw [hs] at c
  clear hs
  obtain ⟨ti, hi1, hi2, hi3, hi4⟩ := info44
  have HI1 := hide hi1
  clear hi1
  go_enter Try.func11, Try.ntmps11
  go_wp2_with fail
  refine (c _).mono ?_
  rintro e w ⟨rfl, rfl⟩
  clear c
  go_wp2_with fail
  go_loopw [3, 4, 9] (fun v _ i wr => ∃ k : Nat, k ≤ m ∧ i = .int .i64 k ∧ wr.ownsRow w.heap.size 44 4 v (rasN k) (ints (rasL m k)) ∧ Below w.heap.size w wr) (fun _ _ i _ => m - (intOf i).toNat)
  case atStart => exact ⟨0, by omega, rfl, World.ownsRow_nil w _ _ _, Below.refl _ _⟩
  case round =>
    obtain ⟨k, hk, rfl, ho, hb⟩ := hrel
    by_cases hlt : k < m
    · have HO := hide ho
      have HB := hide hb
      have hrn : rasN k ≤ 256 := by unfold rasN; omega
      have HS := hide hb.size
      clear ho hb
      by_cases h0 : k = 0
      · subst h0
        go_wp2_with (refine grow _ rfl _ _ 29 rfl w.heap.size 44 ti (vPulse 0 0 0 0) 4 32 Try.underlying29 HI1.out hi2 hi3 hi4 rfl (by omega) _ (rasN 0) (rasL m 0) rfl w HO.out HB.out HS.out [1, 1, 1, 0] 1 1 rfl rfl (by unfold maxLen; omega) (by omega) ?_)
        intro v1 w1 ho1 hb1 hs1
        have HO1 := hide ho1
        have HB1 := hide hb1
        have HS1 : Hid (w.heap.size ≤ w1.heap.size) := Nat.le_trans HS.out (Nat.le_of_lt hs1)
        clear HO HB HS ho1 hb1 hs1
        go_wp2_with (refine grow _ rfl _ _ 29 rfl w.heap.size 44 ti (vPulse 0 0 0 0) 4 32 Try.underlying29 HI1.out hi2 hi3 hi4 rfl (by omega) _ (rasN 0 + 1) (rasL m 0 ++ [1, 1, 1, 0]) rfl w HO1.out HB1.out HS1.out [3, 0, m, 0, 4, 0, 4, 0] 2 2 rfl rfl (by unfold maxLen; omega) (by omega) ?_)
        intro v2 w2 ho2 hb2 hs2
        have HO2 := hide ho2
        have HB2 := hide hb2
        clear HO1 HB1 HS1 ho2 hb2 hs2
        go_wp2_with fail
        exact ⟨⟨1, by omega, rfl, HO2.out, HB2.out⟩, by simp [intOf]; omega⟩
      · have hpos : (0 : Int) < k := by omega
        go_wp2_with (refine grow _ rfl _ _ 29 rfl w.heap.size 44 ti (vPulse 0 0 0 0) 4 32 Try.underlying29 HI1.out hi2 hi3 hi4 rfl (by omega) _ (rasN k) (rasL m k) rfl w HO.out HB.out HS.out [1, 1, 1, 0] 1 1 rfl rfl (by unfold maxLen; omega) (by omega) ?_)
        intro v1 w1 ho1 hb1 hs1
        have HO1 := hide ho1
        have HB1 := hide hb1
        have HS1 : Hid (w.heap.size ≤ w1.heap.size) := Nat.le_trans HS.out (Nat.le_of_lt hs1)
        clear HO HB HS ho1 hb1 hs1
        go_wp2_with (refine grow _ rfl _ _ 29 rfl w.heap.size 44 ti (vPulse 0 0 0 0) 4 32 Try.underlying29 HI1.out hi2 hi3 hi4 rfl (by omega) _ (rasN k + 1) (rasL m k ++ [1, 1, 1, 0]) rfl w HO1.out HB1.out HS1.out [2, 2, (k : Int), 4] 1 1 rfl rfl (by unfold maxLen; omega) (by omega) ?_)
        intro v2 w2 ho2 hb2 hs2
        have HO2 : Hid (w2.ownsRow w.heap.size 44 4 v2 (rasN k + 1 + 1) (ints (rasL m k ++ [1, 1, 1, 0, 2, 2, (k : Int), 4]))) := by first | exact ho2 | simpa using ho2
        have HB2 := hide hb2
        have HS2 : Hid (w.heap.size ≤ w2.heap.size) := Nat.le_trans HS1.out (Nat.le_of_lt hs2)
        clear HO1 HB1 HS1 ho2 hb2 hs2
        go_wp2_with (refine grow _ rfl _ _ 29 rfl w.heap.size 44 ti (vPulse 0 0 0 0) 4 32 Try.underlying29 HI1.out hi2 hi3 hi4 rfl (by omega) _ (rasN k + 1 + 1) (rasL m k ++ [1, 1, 1, 0, 2, 2, (k : Int), 4]) rfl w HO2.out HB2.out HS2.out [3, 0, m, 0, 4, 0, 4, 0] 2 2 rfl rfl (by unfold maxLen; omega) (by omega) ?_)
        intro v3 w3 ho3 hb3 hs3
        have HO3 : Hid (w3.ownsRow w.heap.size 44 4 v3 (rasN (k + 1)) (ints (rasL m (k + 1)))) := by
          have e : rasN (k + 1) = rasN k + 1 + 1 + 2 := by unfold rasN; omega
          have e2 : rasL m (k + 1) = rasL m k ++ [1, 1, 1, 0, 2, 2, (k : Int), 4, 3, 0, m, 0, 4, 0, 4, 0] := by simp [rasL, h0]
          rw [e, e2]
          first | exact ho3 | simpa using ho3
        have HB3 := hide hb3
        clear HO2 HB2 HS2 ho3 hb3 hs3
        go_wp2_with fail
        exact ⟨⟨k + 1, by omega, rfl, HO3.out, HB3.out⟩, by simp [intOf]; omega⟩
    · obtain rfl : k = m := by omega
      go_wp2
      go_ret
      exact ⟨_, rfl, ho, hb⟩

end Go.Proofs.Ytjohlgemjkflhaa

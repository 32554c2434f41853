/- SameFrame: the specification and the program. -/
import Derived.Test.YtjdbiaoheoialaaFok
import Derived.Laws.StructEq
import Derived.Laws.Tables
import Derived.Laws.Cover2
import Derived.KernelRfl
import Derived.BigQuiet
import Derived.Deep.QuietTactic
namespace Go.Proofs.Ytjdbiaoheoialaa
open Go.RowKit

set_option maxRecDepth 100000 in
set_option maxHeartbeats 2000000 in
theorem eqArr3 (x0 x1 x2 y0 y1 y2 : Int) (w : World) : (Op.equalIn 9999 46 (.agg #[.int .i64 x0, .int .i64 x1, .int .i64 x2]) (.agg #[.int .i64 y0, .int .i64 y1, .int .i64 y2])).run Try.prog w = .ok ((x0 == y0) && ((x1 == y1) && (x2 == y2))) w := by
  have u2 := Try.underlying2
  have a2 := Try.isAgg2
  have z2 := Try.sizeOf2
  rw [show (9999 : Nat) = 9998 + 1 from rfl, Op.equalIn]
  simp only [Sem.run_bind, run_underlying Try.underlying46, Result.andThen_ok]
  simp only [Std.Legacy.Range.forIn_eq_forIn_range', Std.Legacy.Range.size, Nat.sub_zero, Nat.add_sub_cancel, Nat.div_one, List.range'_succ, List.range'_zero, List.forIn_cons, List.forIn_nil]
  go_simp
  by_cases h0 : ¬ x0 = y0
  · simp [h0]
  obtain rfl : x0 = y0 := Classical.not_not.1 h0
  clear h0
  by_cases h1 : ¬ x1 = y1
  · simp [h1]
  obtain rfl : x1 = y1 := Classical.not_not.1 h1
  clear h1
  by_cases h : x2 = y2 <;> simp [h]

set_option maxRecDepth 100000 in
set_option maxHeartbeats 2000000 in
theorem eqArr9 (x0 x1 x2 x3 x4 x5 x6 x7 x8 y0 y1 y2 y3 y4 y5 y6 y7 y8 : Int) (w : World) : (Op.equalIn 9999 44 (.agg #[.int .i64 x0, .int .i64 x1, .int .i64 x2, .int .i64 x3, .int .i64 x4, .int .i64 x5, .int .i64 x6, .int .i64 x7, .int .i64 x8]) (.agg #[.int .i64 y0, .int .i64 y1, .int .i64 y2, .int .i64 y3, .int .i64 y4, .int .i64 y5, .int .i64 y6, .int .i64 y7, .int .i64 y8])).run Try.prog w = .ok ((x0 == y0) && ((x1 == y1) && ((x2 == y2) && ((x3 == y3) && ((x4 == y4) && ((x5 == y5) && ((x6 == y6) && ((x7 == y7) && (x8 == y8))))))))) w := by
  have u2 := Try.underlying2
  have a2 := Try.isAgg2
  have z2 := Try.sizeOf2
  rw [show (9999 : Nat) = 9998 + 1 from rfl, Op.equalIn]
  simp only [Sem.run_bind, run_underlying Try.underlying44, Result.andThen_ok]
  simp only [Std.Legacy.Range.forIn_eq_forIn_range', Std.Legacy.Range.size, Nat.sub_zero, Nat.add_sub_cancel, Nat.div_one, List.range'_succ, List.range'_zero, List.forIn_cons, List.forIn_nil]
  go_simp
  by_cases h0 : ¬ x0 = y0
  · simp [h0]
  obtain rfl : x0 = y0 := Classical.not_not.1 h0
  clear h0
  by_cases h1 : ¬ x1 = y1
  · simp [h1]
  obtain rfl : x1 = y1 := Classical.not_not.1 h1
  clear h1
  by_cases h2 : ¬ x2 = y2
  · simp [h2]
  obtain rfl : x2 = y2 := Classical.not_not.1 h2
  clear h2
  by_cases h3 : ¬ x3 = y3
  · simp [h3]
  obtain rfl : x3 = y3 := Classical.not_not.1 h3
  clear h3
  by_cases h4 : ¬ x4 = y4
  · simp [h4]
  obtain rfl : x4 = y4 := Classical.not_not.1 h4
  clear h4
  by_cases h5 : ¬ x5 = y5
  · simp [h5]
  obtain rfl : x5 = y5 := Classical.not_not.1 h5
  clear h5
  by_cases h6 : ¬ x6 = y6
  · simp [h6]
  obtain rfl : x6 = y6 := Classical.not_not.1 h6
  clear h6
  by_cases h7 : ¬ x7 = y7
  · simp [h7]
  obtain rfl : x7 = y7 := Classical.not_not.1 h7
  clear h7
  by_cases h : x8 = y8 <;> simp [h]

end Go.Proofs.Ytjdbiaoheoialaa

namespace Go.Proofs.Ytjdbiaoheoialaa
open Go.RowKit Go.Lib

def eqN (f g : Nat → Int) : Nat → Bool
  | 0 => true
  | n + 1 => eqN f g n && (f n == g n)
theorem eqN_no {f g : Nat → Int} : ∀ {n k : Nat}, k < n → f k ≠ g k → eqN f g n = false
  | n + 1, k, hk, h => by
    simp only [eqN]
    by_cases e : k = n
    · subst e
      rw [beq_eq_false_iff_ne.2 h, Bool.and_false]
    · rw [eqN_no (show k < n by omega) h]; rfl
def samT (D : Int) (M T : Nat → Int) (D' : Int) (M' T' : Nat → Int) : Bool := (D == D') && (eqN M M' 9 && ((T 0 == T' 0) && ((T 1 == T' 1) && (T 2 == T' 2))))
theorem eqN9 (M M' : Nat → Int) : eqN M M' 9 = ((M 0 == M' 0) && ((M 1 == M' 1) && ((M 2 == M' 2) && ((M 3 == M' 3) && ((M 4 == M' 4) && ((M 5 == M' 5) && ((M 6 == M' 6) && ((M 7 == M' 7) && (M 8 == M' 8))))))))) := by simp [eqN, Bool.and_assoc]
def samB (D : Int) (n0 : Nat) (M : Nat → Int) (n1 : Nat) (T : Nat → Int) (D' : Int) (n0' : Nat) (M' : Nat → Int) (n1' : Nat) (T' : Nat → Int) : Bool := frmB D n0 M n1 T && (frmB D' n0' M' n1' T' && samT D M T D' M' T')

set_option maxRecDepth 100000 in
set_option maxHeartbeats 8000000 in
theorem implSameFrame_any (D : Int) (a0 : Option Addr) (n0 c0 : Nat) (M : Nat → Int) (_hl0 : n0 ≤ 1048576) (a1 : Option Addr) (n1 c1 : Nat) (T : Nat → Int) (_hl1 : n1 ≤ 1048576) (D' : Int) (a0' : Option Addr) (n0' c0' : Nat) (M' : Nat → Int) (_hl0' : n0' ≤ 1048576) (a1' : Option Addr) (n1' c1' : Nat) (T' : Nat → Int) (_hl1' : n1' ≤ 1048576) (w : World) (h0 : Px a0 n0 M w) (h1 : Px a1 n1 T w) (h0' : Px a0' n0' M' w) (h1' : Px a1' n1' T' w) :
    Calls Try.prog 14 #[vFrame D a0 n0 c0 a1 n1 c1, vFrame D' a0' n0' c0' a1' n1' c1'] w fun e w' => e = .returned (.bool (samB D n0 M n1 T D' n0' M' n1' T')) ∧ Below w.heap.size w w' := by
  have HS0 := hide (((St.start w).box [.slice a0 n0 c0, .slice a1 n1 c1, .int .i64 D] 26).box' [.slice a0' n0' c0', .slice a1' n1' c1', .int .i64 D'] 26 (b := w.heap.size + 1) (by simp))
  have c := fun w' h h' => mappingOf_any D a0 n0 c0 M a1 n1 c1 T w' h h'
  have c' := fun w' h h' => mappingOf_any D' a0' n0' c0' M' a1' n1' c1' T' w' h h'
  have HP0 := hide h0
  have HP1 := hide h1
  have HP0' := hide h0'
  have HP1' := hide h1'
  unfold samB
  rw [← frI_eq, ← frI_eq]
  unfold MpR at c c'
  clear h0 h1 h0' h1'
  cases hf : frI D n0 M n1 T
  · rw [hf] at c
    unfold mapV at c c'
    clear hf
    generalize frI D' n0' M' n1' T' = rb at *
    go_enter Try.func14, Try.ntmps14
    go_wp2_with fail
    refine (c _ (HP0.out.below HS0.out.below) (HP1.out.below HS0.out.below)).mono ?_
    rintro e w1 ⟨rfl, hb⟩
    have HS1 := hide ((HS0.out.next hb).box [.int .i64 (sel (len93 n0 n1) M 0), .int .i64 (sel (len93 n0 n1) M 1), .int .i64 (sel (len93 n0 n1) M 2), .int .i64 (sel (len93 n0 n1) M 3), .int .i64 (sel (len93 n0 n1) M 4), .int .i64 (sel (len93 n0 n1) M 5), .int .i64 (sel (len93 n0 n1) M 6), .int .i64 (sel (len93 n0 n1) M 7), .int .i64 (sel (len93 n0 n1) M 8), .int .i64 (sel (len93 n0 n1) T 0), .int .i64 (sel (len93 n0 n1) T 1), .int .i64 (sel (len93 n0 n1) T 2), .int .i64 (selD (len93 n0 n1) D)] 48)
    obtain ⟨i0, i1, i2⟩ := HS1.out.im3 1 rfl
    clear hb c HS0
    go_wp2_with fail
    refine (c' _ (HP0'.out.below HS1.out.below) (HP1'.out.below HS1.out.below)).mono ?_
    rintro e w2 ⟨rfl, hb⟩
    have HB := hide ((HS1.out.next hb).box [.int .i64 (sel (len93 n0' n1') M' 0), .int .i64 (sel (len93 n0' n1') M' 1), .int .i64 (sel (len93 n0' n1') M' 2), .int .i64 (sel (len93 n0' n1') M' 3), .int .i64 (sel (len93 n0' n1') M' 4), .int .i64 (sel (len93 n0' n1') M' 5), .int .i64 (sel (len93 n0' n1') M' 6), .int .i64 (sel (len93 n0' n1') M' 7), .int .i64 (sel (len93 n0' n1') M' 8), .int .i64 (sel (len93 n0' n1') T' 0), .int .i64 (sel (len93 n0' n1') T' 1), .int .i64 (sel (len93 n0' n1') T' 2), .int .i64 (selD (len93 n0' n1') D')] 48).below
    clear hb c' HS1 i0 i1 i2
    go_wp2_with fail
    go_ret
    exact ⟨rfl, HB.out⟩
  cases hf' : frI D' n0' M' n1' T'
  · rw [hf] at c
    rw [hf'] at c'
    unfold mapV at c c'
    clear hf hf'
    go_enter Try.func14, Try.ntmps14
    go_wp2_with fail
    refine (c _ (HP0.out.below HS0.out.below) (HP1.out.below HS0.out.below)).mono ?_
    rintro e w1 ⟨rfl, hb⟩
    have HS1 := hide ((HS0.out.next hb).box [.int .i64 (sel (len93 n0 n1) M 0), .int .i64 (sel (len93 n0 n1) M 1), .int .i64 (sel (len93 n0 n1) M 2), .int .i64 (sel (len93 n0 n1) M 3), .int .i64 (sel (len93 n0 n1) M 4), .int .i64 (sel (len93 n0 n1) M 5), .int .i64 (sel (len93 n0 n1) M 6), .int .i64 (sel (len93 n0 n1) M 7), .int .i64 (sel (len93 n0 n1) M 8), .int .i64 (sel (len93 n0 n1) T 0), .int .i64 (sel (len93 n0 n1) T 1), .int .i64 (sel (len93 n0 n1) T 2), .int .i64 (selD (len93 n0 n1) D)] 48)
    obtain ⟨i0, i1, i2⟩ := HS1.out.im3 1 rfl
    clear hb c HS0
    go_wp2_with fail
    refine (c' _ (HP0'.out.below HS1.out.below) (HP1'.out.below HS1.out.below)).mono ?_
    rintro e w2 ⟨rfl, hb⟩
    have HB := hide ((HS1.out.next hb).box [.int .i64 (sel (len93 n0' n1') M' 0), .int .i64 (sel (len93 n0' n1') M' 1), .int .i64 (sel (len93 n0' n1') M' 2), .int .i64 (sel (len93 n0' n1') M' 3), .int .i64 (sel (len93 n0' n1') M' 4), .int .i64 (sel (len93 n0' n1') M' 5), .int .i64 (sel (len93 n0' n1') M' 6), .int .i64 (sel (len93 n0' n1') M' 7), .int .i64 (sel (len93 n0' n1') M' 8), .int .i64 (sel (len93 n0' n1') T' 0), .int .i64 (sel (len93 n0' n1') T' 1), .int .i64 (sel (len93 n0' n1') T' 2), .int .i64 (selD (len93 n0' n1') D')] 48).below
    clear hb c' HS1 i0 i1 i2
    go_wp2_with fail
    go_ret
    exact ⟨rfl, HB.out⟩
  have hl : len93 n0 n1 = true := by unfold frI at hf; simp only [Bool.and_eq_true] at hf; exact hf.1
  have hl' : len93 n0' n1' = true := by unfold frI at hf'; simp only [Bool.and_eq_true] at hf'; exact hf'.1
  rw [hf, hl, mapV_yes] at c
  rw [hf', hl', mapV_yes] at c'
  unfold mapV at c c'
  clear hf hf' hl hl'
  go_enter Try.func14, Try.ntmps14
  go_wp2_with fail
  refine (c _ (HP0.out.below HS0.out.below) (HP1.out.below HS0.out.below)).mono ?_
  rintro e w1 ⟨rfl, hb⟩
  have HS1 := hide ((HS0.out.next hb).box [.int .i64 (M 0), .int .i64 (M 1), .int .i64 (M 2), .int .i64 (M 3), .int .i64 (M 4), .int .i64 (M 5), .int .i64 (M 6), .int .i64 (M 7), .int .i64 (M 8), .int .i64 (T 0), .int .i64 (T 1), .int .i64 (T 2), .int .i64 D] 48)
  obtain ⟨i0, i1, i2⟩ := HS1.out.im3 1 rfl
  clear hb c HS0
  go_wp2_with fail
  refine (c' _ (HP0'.out.below HS1.out.below) (HP1'.out.below HS1.out.below)).mono ?_
  rintro e w2 ⟨rfl, hb⟩
  have HS2 := hide ((HS1.out.next hb).box [.int .i64 (M' 0), .int .i64 (M' 1), .int .i64 (M' 2), .int .i64 (M' 3), .int .i64 (M' 4), .int .i64 (M' 5), .int .i64 (M' 6), .int .i64 (M' 7), .int .i64 (M' 8), .int .i64 (T' 0), .int .i64 (T' 1), .int .i64 (T' 2), .int .i64 D'] 48)
  have HB := hide HS2.out.below
  have sz := ((HS1.out.next hb).ltB 0 rfl).2
  have v0 := (HS1.out.next hb).cell 0 rfl 0 rfl
  have v1 := (HS1.out.next hb).cell 0 rfl 1 rfl
  have v2 := (HS1.out.next hb).cell 0 rfl 2 rfl
  have v3 := (HS1.out.next hb).cell 0 rfl 3 rfl
  have v4 := (HS1.out.next hb).cell 0 rfl 4 rfl
  have v5 := (HS1.out.next hb).cell 0 rfl 5 rfl
  have v6 := (HS1.out.next hb).cell 0 rfl 6 rfl
  have v7 := (HS1.out.next hb).cell 0 rfl 7 rfl
  have v8 := (HS1.out.next hb).cell 0 rfl 8 rfl
  have v9 := (HS1.out.next hb).cell 0 rfl 9 rfl
  have v10 := (HS1.out.next hb).cell 0 rfl 10 rfl
  have v11 := (HS1.out.next hb).cell 0 rfl 11 rfl
  have v12 := (HS1.out.next hb).cell 0 rfl 12 rfl
  clear hb c' HS1 HS2 i0 i1 i2
  have e9 := eqArr9 (M 0) (M 1) (M 2) (M 3) (M 4) (M 5) (M 6) (M 7) (M 8) (M' 0) (M' 1) (M' 2) (M' 3) (M' 4) (M' 5) (M' 6) (M' 7) (M' 8)
  have e3 := eqArr3 (T 0) (T 1) (T 2) (T' 0) (T' 1) (T' 2)
  have HR : Hid (samT D M T D' M' T' = ((D == D') && (((M 0 == M' 0) && ((M 1 == M' 1) && ((M 2 == M' 2) && ((M 3 == M' 3) && ((M 4 == M' 4) && ((M 5 == M' 5) && ((M 6 == M' 6) && ((M 7 == M' 7) && (M 8 == M' 8))))))))) && ((T 0 == T' 0) && ((T 1 == T' 1) && (T 2 == T' 2)))))) := by show _ = _; unfold samT; rw [eqN9]
  generalize ((M 0 == M' 0) && ((M 1 == M' 1) && ((M 2 == M' 2) && ((M 3 == M' 3) && ((M 4 == M' 4) && ((M 5 == M' 5) && ((M 6 == M' 6) && ((M 7 == M' 7) && (M 8 == M' 8))))))))) = q9 at *
  generalize ((T 0 == T' 0) && ((T 1 == T' 1) && (T 2 == T' 2))) = q3 at *
  cases q9
  · have HR2 : Hid (samT D M T D' M' T' = false) := by show _ = _; rw [HR.out]; simp
    clear HR
    go_wp2_with fail
    go_ret
    exact ⟨by rw [HR2.out]; rfl, HB.out⟩
  cases q3
  · have HR2 : Hid (samT D M T D' M' T' = false) := by show _ = _; rw [HR.out]; simp
    clear HR
    go_wp2_with fail
    go_ret
    exact ⟨by rw [HR2.out]; rfl, HB.out⟩
  by_cases hD : D = D'
  · have HR2 : Hid (samT D M T D' M' T' = true) := by show _ = _; rw [HR.out, hD]; simp
    subst hD
    clear HR
    go_wp2_with fail
    go_ret
    exact ⟨by rw [HR2.out]; rfl, HB.out⟩
  · have hq : (D == D') = false := beq_eq_false_iff_ne.2 hD
    have HR2 : Hid (samT D M T D' M' T' = false) := by show _ = _; rw [HR.out, hq]; rfl
    clear HR
    go_wp2_with fail
    go_ret
    exact ⟨by rw [HR2.out]; rfl, HB.out⟩

end Go.Proofs.Ytjdbiaoheoialaa

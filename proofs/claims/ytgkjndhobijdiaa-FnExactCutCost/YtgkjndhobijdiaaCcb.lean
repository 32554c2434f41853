/- When costs are right: the specification and the program. -/
import Derived.Test.YtgkjndhobijdiaaCco
namespace Go.Proofs.Ytgkjndhobijdiaa
open Go.RowKit

set_option maxRecDepth 100000 in
set_option maxHeartbeats 4000000 in
theorem l9CutOk_any (W1 H1 : Int) (a1 : Option Addr) (n1 cap1 : Nat) (g : Nat → Int) (hl1 : n1 ≤ 1048576) (W2 H2 : Int) (a2 : Option Addr) (n2 cap2 : Nat) (h : Nat → Int) (hl2 : n2 ≤ 1048576) (lk : Int) (w : World) (p1 : Px a1 n1 g w) (p2 : Px a2 n2 h w) :
    Calls Try.prog 84 #[im W1 H1 a1 n1 cap1, im W2 H2 a2 n2 cap2, .int .i64 lk] w fun e w' => e = .returned (.bool (cutB W1 H1 n1 g W2 H2 n2 h lk)) ∧ Below w.heap.size w w' := by
  have HS0 := hide (((St.start w).box [.int .i64 W1, .int .i64 H1, .slice a1 n1 cap1] 30).box' [.int .i64 W2, .int .i64 H2, .slice a2 n2 cap2] 30 (b := w.heap.size + 1) (by simp))
  have c1 := fun w' q => l9Grey_any W1 H1 4095 a1 n1 cap1 g hl1 w' q
  have c2 := fun w' q => l9Grey_any W2 H2 4095 a2 n2 cap2 h hl2 w' q
  have c3 := fun w' => l1In_any lk 0 4095 w'
  have cS := fun w' => sameSize_any W1 H1 a1 n1 cap1 W2 H2 a2 n2 cap2 w'
  have HP1 := hide p1
  have HP2 := hide p2
  unfold cutB
  clear p1 p2
  generalize gryB W1 H1 n1 g 4095 = Q1 at *
  generalize gryB W2 H2 n2 h 4095 = Q2 at *
  generalize inB lk 0 4095 = Q3 at *
  cases Q1
  · go_enter Try.func84, Try.ntmps84
    go_wp2_with fail
    refine (c1 _ (HP1.out.below HS0.out.below)).mono ?_
    rintro e w1 ⟨rfl, hb⟩
    have HS1 := hide (HS0.out.next hb)
    obtain ⟨i0, i1, i2⟩ := HS1.out.im3 0 rfl
    obtain ⟨j0, j1, j2⟩ := HS1.out.im3 1 rfl
    clear hb c1
    go_wp2_with fail
    go_ret
    exact ⟨by simp, HS1.out.below⟩
  cases Q2
  · go_enter Try.func84, Try.ntmps84
    go_wp2_with fail
    refine (c1 _ (HP1.out.below HS0.out.below)).mono ?_
    rintro e w1 ⟨rfl, hb⟩
    have HS1 := hide (HS0.out.next hb)
    obtain ⟨i0, i1, i2⟩ := HS1.out.im3 0 rfl
    obtain ⟨j0, j1, j2⟩ := HS1.out.im3 1 rfl
    clear hb c1
    go_wp2_with fail
    refine (c2 _ (HP2.out.below HS1.out.below)).mono ?_
    rintro e w2 ⟨rfl, hb⟩
    have HS2 := hide (HS1.out.next hb)
    clear i0 i1 i2 j0 j1 j2
    obtain ⟨i0, i1, i2⟩ := HS2.out.im3 0 rfl
    obtain ⟨j0, j1, j2⟩ := HS2.out.im3 1 rfl
    clear hb c2
    go_wp2_with fail
    go_ret
    exact ⟨by simp, HS2.out.below⟩
  by_cases hW : W1 = W2
  case neg =>
    have t : (W1 == W2) = false := by simp [hW]
    go_enter Try.func84, Try.ntmps84
    go_wp2_with fail
    refine (c1 _ (HP1.out.below HS0.out.below)).mono ?_
    rintro e w1 ⟨rfl, hb⟩
    have HS1 := hide (HS0.out.next hb)
    obtain ⟨i0, i1, i2⟩ := HS1.out.im3 0 rfl
    obtain ⟨j0, j1, j2⟩ := HS1.out.im3 1 rfl
    clear hb c1
    go_wp2_with fail
    refine (c2 _ (HP2.out.below HS1.out.below)).mono ?_
    rintro e w2 ⟨rfl, hb⟩
    have HS2 := hide (HS1.out.next hb)
    clear i0 i1 i2 j0 j1 j2
    obtain ⟨i0, i1, i2⟩ := HS2.out.im3 0 rfl
    obtain ⟨j0, j1, j2⟩ := HS2.out.im3 1 rfl
    clear hb c2
    go_wp2_with fail
    go_ret
    exact ⟨by simp [hW], HS2.out.below⟩
  subst hW
  by_cases hH : H1 = H2
  case neg =>
    have t : (H1 == H2) = false := by simp [hH]
    go_enter Try.func84, Try.ntmps84
    go_wp2_with fail
    refine (c1 _ (HP1.out.below HS0.out.below)).mono ?_
    rintro e w1 ⟨rfl, hb⟩
    have HS1 := hide (HS0.out.next hb)
    obtain ⟨i0, i1, i2⟩ := HS1.out.im3 0 rfl
    obtain ⟨j0, j1, j2⟩ := HS1.out.im3 1 rfl
    clear hb c1
    go_wp2_with fail
    refine (c2 _ (HP2.out.below HS1.out.below)).mono ?_
    rintro e w2 ⟨rfl, hb⟩
    have HS2 := hide (HS1.out.next hb)
    clear i0 i1 i2 j0 j1 j2
    obtain ⟨i0, i1, i2⟩ := HS2.out.im3 0 rfl
    obtain ⟨j0, j1, j2⟩ := HS2.out.im3 1 rfl
    clear hb c2
    go_wp2_with fail
    go_ret
    exact ⟨by simp [hH], HS2.out.below⟩
  subst hH
  go_enter Try.func84, Try.ntmps84
  go_wp2_with fail
  refine (c1 _ (HP1.out.below HS0.out.below)).mono ?_
  rintro e w1 ⟨rfl, hb⟩
  have HS1 := hide (HS0.out.next hb)
  obtain ⟨i0, i1, i2⟩ := HS1.out.im3 0 rfl
  obtain ⟨j0, j1, j2⟩ := HS1.out.im3 1 rfl
  clear hb c1
  go_wp2_with fail
  refine (c2 _ (HP2.out.below HS1.out.below)).mono ?_
  rintro e w2 ⟨rfl, hb⟩
  have HS2 := hide (HS1.out.next hb)
  clear i0 i1 i2 j0 j1 j2
  obtain ⟨i0, i1, i2⟩ := HS2.out.im3 0 rfl
  obtain ⟨j0, j1, j2⟩ := HS2.out.im3 1 rfl
  clear hb c2
  go_wp2_with fail
  refine (c3 _).mono ?_
  rintro e w3 ⟨rfl, rfl⟩
  go_wp2_with fail
  go_ret
  exact ⟨by simp, HS2.out.below⟩

set_option maxRecDepth 100000 in
set_option maxHeartbeats 4000000 in
theorem areCosts_any (W1 H1 : Int) (a1 : Option Addr) (n1 cap1 : Nat) (g : Nat → Int) (hl1 : n1 ≤ 1048576) (W2 H2 : Int) (a2 : Option Addr) (n2 cap2 : Nat) (h : Nat → Int) (hl2 : n2 ≤ 1048576) (lk : Int) (w : World) (p1 : Px a1 n1 g w) (p2 : Px a2 n2 h w) :
    Calls Try.prog 89 #[im W1 H1 a1 n1 cap1, im W2 H2 a2 n2 cap2, .int .i64 lk] w fun e w' => e = .returned (.bool (cutB W1 H1 n1 g W2 H2 n2 h lk)) ∧ Below w.heap.size w w' := by
  have HS0 := hide (((St.start w).box [.int .i64 W1, .int .i64 H1, .slice a1 n1 cap1] 30).box' [.int .i64 W2, .int .i64 H2, .slice a2 n2 cap2] 30 (b := w.heap.size + 1) (by simp))
  have c1 := fun w' q => isImageOf_any W1 H1 4095 a1 n1 cap1 g hl1 w' q
  have c2 := fun w' q => isImageOf_any W2 H2 4095 a2 n2 cap2 h hl2 w' q
  have c3 := fun w' => within_any lk 0 4095 w'
  have cS := fun w' => sameSize_any W1 H1 a1 n1 cap1 W2 H2 a2 n2 cap2 w'
  have HP1 := hide p1
  have HP2 := hide p2
  unfold cutB
  clear p1 p2
  generalize gryB W1 H1 n1 g 4095 = Q1 at *
  generalize gryB W2 H2 n2 h 4095 = Q2 at *
  generalize inB lk 0 4095 = Q3 at *
  cases Q1
  · go_enter Try.func89, Try.ntmps89
    go_wp2_with fail
    refine (c1 _ (HP1.out.below HS0.out.below)).mono ?_
    rintro e w1 ⟨rfl, hb⟩
    have HS1 := hide (HS0.out.next hb)
    obtain ⟨i0, i1, i2⟩ := HS1.out.im3 0 rfl
    obtain ⟨j0, j1, j2⟩ := HS1.out.im3 1 rfl
    clear hb c1
    go_wp2_with fail
    go_ret
    exact ⟨by simp, HS1.out.below⟩
  cases Q2
  · go_enter Try.func89, Try.ntmps89
    go_wp2_with fail
    refine (c1 _ (HP1.out.below HS0.out.below)).mono ?_
    rintro e w1 ⟨rfl, hb⟩
    have HS1 := hide (HS0.out.next hb)
    obtain ⟨i0, i1, i2⟩ := HS1.out.im3 0 rfl
    obtain ⟨j0, j1, j2⟩ := HS1.out.im3 1 rfl
    clear hb c1
    go_wp2_with fail
    refine (c2 _ (HP2.out.below HS1.out.below)).mono ?_
    rintro e w2 ⟨rfl, hb⟩
    have HS2 := hide (HS1.out.next hb)
    clear i0 i1 i2 j0 j1 j2
    obtain ⟨i0, i1, i2⟩ := HS2.out.im3 0 rfl
    obtain ⟨j0, j1, j2⟩ := HS2.out.im3 1 rfl
    clear hb c2
    go_wp2_with fail
    go_ret
    exact ⟨by simp, HS2.out.below⟩
  cases hQ : decide (W1 = W2) && decide (H1 = H2)
  · rw [hQ] at cS
    go_enter Try.func89, Try.ntmps89
    go_wp2_with fail
    refine (c1 _ (HP1.out.below HS0.out.below)).mono ?_
    rintro e w1 ⟨rfl, hb⟩
    have HS1 := hide (HS0.out.next hb)
    obtain ⟨i0, i1, i2⟩ := HS1.out.im3 0 rfl
    obtain ⟨j0, j1, j2⟩ := HS1.out.im3 1 rfl
    clear hb c1
    go_wp2_with fail
    refine (c2 _ (HP2.out.below HS1.out.below)).mono ?_
    rintro e w2 ⟨rfl, hb⟩
    have HS2 := hide (HS1.out.next hb)
    clear i0 i1 i2 j0 j1 j2
    obtain ⟨i0, i1, i2⟩ := HS2.out.im3 0 rfl
    obtain ⟨j0, j1, j2⟩ := HS2.out.im3 1 rfl
    clear hb c2
    go_wp2_with fail
    refine (cS _).mono ?_
    rintro e w3 ⟨rfl, hb⟩
    have HS3 := hide (HS2.out.next hb)
    clear hb cS
    go_wp2_with fail
    go_ret
    refine ⟨?_, HS3.out.below⟩
    rw [← Bool.and_assoc (decide (W1 = W2)), hQ]
    rfl
  rw [hQ] at cS
  go_enter Try.func89, Try.ntmps89
  go_wp2_with fail
  refine (c1 _ (HP1.out.below HS0.out.below)).mono ?_
  rintro e w1 ⟨rfl, hb⟩
  have HS1 := hide (HS0.out.next hb)
  obtain ⟨i0, i1, i2⟩ := HS1.out.im3 0 rfl
  obtain ⟨j0, j1, j2⟩ := HS1.out.im3 1 rfl
  clear hb c1
  go_wp2_with fail
  refine (c2 _ (HP2.out.below HS1.out.below)).mono ?_
  rintro e w2 ⟨rfl, hb⟩
  have HS2 := hide (HS1.out.next hb)
  clear i0 i1 i2 j0 j1 j2
  obtain ⟨i0, i1, i2⟩ := HS2.out.im3 0 rfl
  obtain ⟨j0, j1, j2⟩ := HS2.out.im3 1 rfl
  clear hb c2
  go_wp2_with fail
  refine (cS _).mono ?_
  rintro e w3 ⟨rfl, hb⟩
  have HS3 := hide (HS2.out.next hb)
  clear hb cS
  go_wp2_with fail
  refine (c3 _).mono ?_
  rintro e w4 ⟨rfl, rfl⟩
  go_wp2_with fail
  go_ret
  refine ⟨?_, HS3.out.below⟩
  rw [← Bool.and_assoc (decide (W1 = W2)), hQ]
  cases Q3 <;> rfl

end Go.Proofs.Ytgkjndhobijdiaa

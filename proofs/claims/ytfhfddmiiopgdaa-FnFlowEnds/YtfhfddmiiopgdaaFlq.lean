/- Where an order stands, by halves. -/
import Derived.Test.YtfhfddmiiopgdaaFlp
namespace Go.Proofs.Ytfhfddmiiopgdaa
open Go.RowKit

/-- p is the place of x among n Ids -/
def isPl (g : Nat → Int) (n : Nat) (x : Int) (p : Nat) : Prop := p ≤ n ∧ (∀ k, k < p → g (k * 4) < x) ∧ ∀ k, p ≤ k → k < n → x ≤ g (k * 4)

set_option maxRecDepth 100000 in
set_option maxHeartbeats 2000000 in
theorem search_any (a : Option Addr) (n cap : Nat) (g : Nat → Int) (x : Int) (hl : n ≤ 1048576) (hr : ∀ i j, i < j → j < n → g (i * 4) < g (j * 4)) (w : World) (h : Px a (n * 4) g w) :
    Calls Try.prog 37 #[.slice a n cap, .int .i64 x, .func (.func 38) #[] #[]] w fun e w' => (∃ p : Nat, e = .returned (.tuple #[.int .i64 p, .bool (decide (p < n ∧ g (p * 4) = x))]) ∧ isPl g n x p) ∧ Below w.heap.size w w' := by
  have HP := hide h
  have HR := hide hr
  clear h hr
  go_enter Try.func37, Try.ntmps37
  go_wp2_with fail
  go_loopw [9, 10] (fun i j wr => ∃ I J : Nat, I ≤ J ∧ J ≤ n ∧ i = .int .i64 I ∧ j = .int .i64 J ∧ (∀ k, k < I → g (k * 4) < x) ∧ (∀ k, J ≤ k → k < n → x ≤ g (k * 4)) ∧ Below w.heap.size w wr) (fun i j _ => (intOf j).toNat - (intOf i).toNat)
  case atStart => exact ⟨0, n, by omega, by omega, rfl, rfl, fun k hk => by omega, fun k h1 h2 => by omega, Below.refl _ _⟩
  case round =>
    obtain ⟨I, J, hIJ, hJ, rfl, rfl, hA, hB, hb⟩ := hrel
    have HA := hide hA
    have HB := hide hB
    have HW := hide hb
    clear hA hB hb
    by_cases hlt : I < J
    · obtain ⟨M, hM⟩ : ∃ M, M = (I + J) / 2 := ⟨_, rfl⟩
      have hM1 : I ≤ M := by omega
      have hM2 : M < J := by omega
      obtain ⟨b, off, rfl, -, z0, z1, z2, z3⟩ := (HP.out.below HW.out).atOrder (k := M) (by omega)
      have c := placeCmp_any (g (M * 4)) (g (M * 4 + 1)) (g (M * 4 + 2)) (g (M * 4 + 3)) x
      have hMi : ((I : Int) + (J : Int)) / 2 = (M : Int) := by omega
      clear hM
      by_cases hg : g (M * 4) < x
      · rw [if_pos hg] at c
        have HA2 : Hid (∀ k, k < M + 1 → g (k * 4) < x) := fun k hk => by
          by_cases e : k = M
          · subst e; exact hg
          · have := HR.out k M (by omega) (by omega); omega
        clear HP HA HR hg
        go_wp2_with fail
        refine (c _).mono ?_
        rintro e w1 ⟨rfl, hb1⟩
        have HW1 := hide (bnext HW.out (Nat.le_refl _) hb1)
        clear c hb1 z0 z1 z2 z3 HW
        go_wp2_with fail
        exact ⟨⟨M + 1, J, by omega, hJ, rfl, rfl, HA2.out, HB.out, HW1.out⟩, by simp [intOf]; omega⟩
      · rw [if_neg hg] at c
        have HB2 : Hid (∀ k, M ≤ k → k < n → x ≤ g (k * 4)) := fun k h1 h2 => by
          by_cases e : k = M
          · subst e; omega
          · have := HR.out M k (by omega) h2; omega
        have hV : ∃ V : Int, V = (if x < g (M * 4) then (1 : Int) else 0) ∧ 0 ≤ V := ⟨_, rfl, by split <;> omega⟩
        obtain ⟨V, hV1, hV2⟩ := hV
        rw [← hV1] at c
        have hV3 : ¬ V < 0 := by omega
        clear HP HB HR hg hV1
        go_wp2_with fail
        refine (c _).mono ?_
        rintro e w1 ⟨rfl, hb1⟩
        have HW1 := hide (bnext HW.out (Nat.le_refl _) hb1)
        clear c hb1 z0 z1 z2 z3 HW
        go_wp2_with fail
        exact ⟨⟨I, M, hM1, by omega, rfl, rfl, HA.out, HB2.out, HW1.out⟩, by simp [intOf]; omega⟩
    · obtain rfl : I = J := by omega
      have HPL : Hid (isPl g n x I) := ⟨hJ, HA.out, HB.out⟩
      by_cases hn : I < n
      · obtain ⟨b, off, rfl, -, z0, z1, z2, z3⟩ := (HP.out.below HW.out).atOrder (k := I) hn
        have c := placeCmp_any (g (I * 4)) (g (I * 4 + 1)) (g (I * 4 + 2)) (g (I * 4 + 3)) x
        have hge := HB.out I (Nat.le_refl _) hn
        rw [if_neg (by omega)] at c
        have hnd : decide (I < n) = true := decide_eq_true hn
        by_cases he : g (I * 4) = x
        · rw [if_neg (by omega)] at c
          have HF : Hid (decide (I < n ∧ g (I * 4) = x) = true) := decide_eq_true ⟨hn, he⟩
          clear HP HB HA HR hge he
          go_wp2_with fail
          refine (c _).mono ?_
          rintro e w1 ⟨rfl, hb1⟩
          have HW1 := hide (bnext HW.out (Nat.le_refl _) hb1)
          clear c hb1 z0 z1 z2 z3 HW
          go_wp2_with fail
          exact bodyPost_ret (v := .tuple #[.int .i64 I, .bool true]) (by simp [results, Try.results37, go_sem]) rfl ⟨⟨I, by rw [HF.out], HPL.out⟩, HW1.out⟩
        · rw [if_pos (by omega)] at c
          have HF : Hid (decide (I < n ∧ g (I * 4) = x) = false) := decide_eq_false (fun h => he h.2)
          clear HP HB HA HR hge he
          go_wp2_with fail
          refine (c _).mono ?_
          rintro e w1 ⟨rfl, hb1⟩
          have HW1 := hide (bnext HW.out (Nat.le_refl _) hb1)
          clear c hb1 z0 z1 z2 z3 HW
          go_wp2_with fail
          exact bodyPost_ret (v := .tuple #[.int .i64 I, .bool false]) (by simp [results, Try.results37, go_sem]) rfl ⟨⟨I, by rw [HF.out], HPL.out⟩, HW1.out⟩
      · have HF : Hid (decide (I < n ∧ g (I * 4) = x) = false) := decide_eq_false (fun h => hn h.1)
        have hnd : decide (I < n) = false := decide_eq_false hn
        clear HP HB HA HR
        go_wp2_with fail
        exact bodyPost_ret (v := .tuple #[.int .i64 I, .bool false]) (by simp [results, Try.results37, go_sem]) rfl ⟨⟨I, by rw [HF.out], HPL.out⟩, HW.out⟩

end Go.Proofs.Ytfhfddmiiopgdaa

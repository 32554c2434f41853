/- Refutes: the program, whole. -/
import Derived.Test.YtadbniademamhaaRfi
namespace Go.Proofs.Ytadbniademamhaa
open Go.RowKit

set_option maxRecDepth 100000 in
set_option maxHeartbeats 8000000 in
theorem implRefutes_any (a : Option Addr) (m cap : Nat) (ad : Nat → Option Addr) (ln cp : Nat → Nat) (F : Nat → Nat → Int) (Bv : Nat → Int) (hm : m ≤ 1048576) (hl : ∀ i, i < m → ln i ≤ 1048576) (a' : Option Addr) (n cap' : Nat) (x : Nat → Int) (hn : n ≤ 1048576) (w : World) (h : PxB a m ad ln cp F Bv w) (h' : Px a' n x w) :
    Calls Try.prog 7 #[.slice a m cap, .slice a' n cap'] w fun e w' => e = .returned (.bool (refB m ln F Bv n x)) ∧ Below w.heap.size w w' := by
  have c0 := areBounds_any a m cap ad ln cp F Bv hm hl w h
  have HP := hide h
  have HP' := hide h'
  clear h h'
  unfold refB
  cases hq : bdB m ln F Bv
  · rw [hq] at c0
    rw [Bool.false_and]
    clear hq HP HP'
    go_enter Try.func7, Try.ntmps7
    go_wp2_with fail
    refine c0.mono ?_
    rintro e w1 ⟨rfl, hb⟩
    have HB := hide hb
    clear hb c0
    go_wp2_with fail
    go_ret
    exact ⟨rfl, HB.out⟩
  rw [hq] at c0
  rw [Bool.true_and]
  obtain ⟨hm1, hm2, hn1, hn2, hB⟩ := bdB_parts hq
  clear hq
  by_cases q1 : ¬ n = m
  · have q1' : ((n : Int) != (m : Int)) = true := by
      have : ¬ (n : Int) = (m : Int) := by omega
      simp [this]
    rw [decide_eq_false q1, Bool.false_and]
    clear q1 HP' HP
    go_enter Try.func7, Try.ntmps7
    go_wp2_with fail
    refine c0.mono ?_
    rintro e w1 ⟨rfl, hb⟩
    have HB := hide hb
    clear hb c0
    go_wp2_with fail
    go_ret
    exact ⟨rfl, HB.out⟩
  obtain rfl : n = m := Decidable.not_not.1 q1
  have q1' : ((n : Int) != (n : Int)) = false := by simp
  rw [decide_eq_true rfl, Bool.true_and]
  have cX := fun w' hx => allWithin_any 0 1000 a' n cap' x hn w' hx
  cases q2 : alW x 0 1000 n
  · simp only [q2] at cX
    rw [Bool.false_and]
    clear q2 HP hB
    go_enter Try.func7, Try.ntmps7
    go_wp2_with fail
    refine c0.mono ?_
    rintro e w1 ⟨rfl, hb⟩
    have HX := hide (HP'.out.below hb)
    have HB := hide hb
    clear hb c0
    go_wp2_with fail
    refine (cX _ HX.out).mono ?_
    rintro e w2 ⟨rfl, rfl⟩
    go_wp2_with fail
    go_ret
    exact ⟨rfl, HB.out⟩
  have hw : ∀ i, i < n → 0 ≤ x i ∧ x i ≤ 1000 := fun i hi => inB_iff.1 (alW_at q2 hi)
  have cW := fun w' h h' => weightedSum_any a n cap ad ln cp F Bv (ln 0) hm1 hm2 hn1 hn2 hB a' cap' x hw w' h h'
  have cM := fun a1 c1 w' h => min_any a1 (ln 0) c1 (fun q => wsA F x (ln 0) q n) (by omega) (by omega) w' h
  have hMn := mnS_all (fun q => wsA F x (ln 0) q n) (ln 0) (by omega)
  simp only [q2] at cX
  rw [Bool.true_and, ← hMn]
  clear q2 hw hB hMn
  generalize mnS (fun q => wsA F x (ln 0) q n) (ln 0) = M at *
  generalize dotS x Bv n = S at *
  obtain ⟨r, hr⟩ : ∃ r, (decide (0 ≤ M) && decide (S < 0)) = r := ⟨_, rfl⟩
  rw [hr]
  have HRr := hide hr
  clear hr
  go_enter Try.func7, Try.ntmps7
  go_wp2_with fail
  refine c0.mono ?_
  rintro e w1 ⟨rfl, hb⟩
  have HX := hide (HP'.out.below hb)
  have HA := hide (HP.out.below hb)
  have HB := hide hb
  clear hb c0 HP HP'
  go_wp2_with fail
  refine (cX _ HX.out).mono ?_
  rintro e w2 ⟨rfl, rfl⟩
  clear cX
  go_wp2_with fail
  refine (cW _ HA.out HX.out).mono ?_
  rintro e w3 ⟨G, rfl, hr, hb⟩
  have hS := ((St.start w).next (bnext HB.out (Nat.le_refl _) hb)).box [.slice (some ⟨G, 0, none⟩) (ln 0) (ln 0), .int .i64 S] 30
  have HS := hide hS
  have HR := hide (hr.px.below (bnew w3 (.cells #[.slice (some ⟨G, 0, none⟩) (ln 0) (ln 0), .int .i64 S] 30)))
  clear hb hr cW HA HX hS HB
  go_wp2_with fail
  refine (cM _ _ _ HR.out).mono ?_
  rintro e w4 ⟨rfl, rfl⟩
  clear cM HR
  by_cases qm : 0 ≤ M
  · have HQ := hide qm
    go_wp2_with fail
    go_ret
    exact ⟨by rw [← HRr.out, decide_eq_true HQ.out, Bool.true_and]; rfl, HS.out.below⟩
  · have HQ := hide qm
    go_wp2_with fail
    go_ret
    exact ⟨by rw [← HRr.out, decide_eq_false (by have := HQ.out; omega : ¬ 0 ≤ M), Bool.false_and]; rfl, HS.out.below⟩

end Go.Proofs.Ytadbniademamhaa

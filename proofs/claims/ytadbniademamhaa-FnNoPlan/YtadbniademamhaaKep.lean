/- Keeps: the program and the specification. -/
import Derived.Test.YtadbniademamhaaBda
namespace Go.Proofs.Ytadbniademamhaa
open Go.RowKit

/-- is bound i kept -/
def kpi (F : Nat → Nat → Int) (Bv : Nat → Int) (n : Nat) (x : Nat → Int) (i : Nat) : Bool := decide (dotS (F i) x n ≤ Bv i)
/-- are all bounds kept -/
def kepB (m : Nat) (ln : Nat → Nat) (F : Nat → Nat → Int) (Bv : Nat → Int) (n : Nat) (x : Nat → Int) : Bool := bdB m ln F Bv && (decide (n = ln 0) && (alW x 0 1000000000 n && allG (kpi F Bv n x) m))
theorem prod_bd {a x : Int} (h0 : -1000 ≤ a) (h1 : a ≤ 1000) (h2 : 0 ≤ x) (h3 : x ≤ 1000000000) : -1000000000000 ≤ a * x ∧ a * x ≤ 1000000000000 := by
  have := natb (a := a) (b := x) (P := 1000) (Q := 1000000000) (by omega) (by omega)
  omega

set_option maxRecDepth 100000 in
set_option maxHeartbeats 8000000 in
theorem implKeeps_any (a : Option Addr) (m cap : Nat) (ad : Nat → Option Addr) (ln cp : Nat → Nat) (F : Nat → Nat → Int) (Bv : Nat → Int) (hm : m ≤ 1048576) (hl : ∀ i, i < m → ln i ≤ 1048576) (a' : Option Addr) (n cap' : Nat) (x : Nat → Int) (hn : n ≤ 1048576) (w : World) (h : PxB a m ad ln cp F Bv w) (h' : Px a' n x w) :
    Calls Try.prog 8 #[.slice a m cap, .slice a' n cap'] w fun e w' => e = .returned (.bool (kepB m ln F Bv n x)) ∧ Below w.heap.size w w' := by
  have c0 := areBounds_any a m cap ad ln cp F Bv hm hl w h
  have HP := hide h
  have HP' := hide h'
  clear h h'
  unfold kepB
  cases hq : bdB m ln F Bv
  · rw [hq] at c0
    rw [Bool.false_and]
    clear hq HP HP'
    go_enter Try.func8, Try.ntmps8
    go_wp2_with fail
    refine c0.mono ?_
    rintro e w1 ⟨rfl, hb⟩
    have HB := hide hb
    clear hb c0
    go_wp2_with fail
    go_ret
    exact ⟨rfl, HB.out⟩
  rw [hq] at c0
  rw [Bool.true_and]
  obtain ⟨hm1, hm2, hn1, hn2, hB⟩ := bdB_parts hq
  have HBd := hide hB
  obtain ⟨b, off, rfl, -, -⟩ := HP.out.at (show 0 < m by omega)
  have hm8 : 0 < m := by omega
  have hm9 : (0 : Int) < (m : Int) := by omega
  clear hq hB
  by_cases q1 : ¬ n = ln 0
  · have q1' : ((n : Int) != (ln 0 : Int)) = true := by
      have : ¬ (n : Int) = (ln 0 : Int) := by omega
      simp [this]
    rw [decide_eq_false q1, Bool.false_and]
    clear q1 HP'
    go_enter Try.func8, Try.ntmps8
    go_wp2_with fail
    refine c0.mono ?_
    rintro e w1 ⟨rfl, hb⟩
    have y0 := (HP.out.below hb).at0 rfl hm8
    have HB := hide hb
    clear hb c0 HP
    go_wp2_with fail
    go_ret
    exact ⟨rfl, HB.out⟩
  have q1 : n = ln 0 := Decidable.not_not.1 q1
  have q1' : ((n : Int) != (ln 0 : Int)) = false := by rw [q1]; simp
  have HN := hide q1
  rw [decide_eq_true q1, Bool.true_and]
  have cX := fun w' hx => allWithin_any 0 1000000000 a' n cap' x hn w' hx
  have hn64 : n ≤ 64 := by omega
  clear q1
  cases q2 : alW x 0 1000000000 n
  · simp only [q2] at cX
    rw [Bool.false_and]
    clear q2
    go_enter Try.func8, Try.ntmps8
    go_wp2_with fail
    refine c0.mono ?_
    rintro e w1 ⟨rfl, hb⟩
    have y0 := (HP.out.below hb).at0 rfl hm8
    have HX := hide (HP'.out.below hb)
    have HB := hide hb
    clear hb c0 HP
    go_wp2_with fail
    refine (cX _ HX.out).mono ?_
    rintro e w2 ⟨rfl, rfl⟩
    go_wp2_with fail
    go_ret
    exact ⟨rfl, HB.out⟩
  have HXb : Hid (∀ k, k < n → 0 ≤ x k ∧ x k ≤ 1000000000) := fun k hk => inB_iff.1 (alW_at q2 hk)
  simp only [q2] at cX
  rw [Bool.true_and]
  clear q2
  go_enter Try.func8, Try.ntmps8
  go_wp2_with fail
  refine c0.mono ?_
  rintro e w1 ⟨rfl, hb⟩
  have y0 := (HP.out.below hb).at0 rfl hm8
  have HX := hide (HP'.out.below hb)
  have HB0 := hide hb
  clear hb c0
  go_wp2_with fail
  refine (cX _ HX.out).mono ?_
  rintro e w2 ⟨rfl, rfl⟩
  clear cX HX y0
  go_wp2_with fail
  go_loopw [6, 27] (fun _ i wr => ∃ k : Nat, k ≤ m ∧ i = .int .i64 k ∧ allG (kpi F Bv n x) k = true ∧ Below w.heap.size w wr) (fun _ i _ => m - (intOf i).toNat)
  case atStart => exact ⟨0, by omega, rfl, rfl, HB0.out⟩
  case round =>
    obtain ⟨k, hk, rfl, hA, hb⟩ := hrel
    have HA := hide hA
    clear hA HB0
    by_cases hlt : k < m
    · obtain ⟨b', off', heq, z0, z1⟩ := (HP.out.below hb).at hlt
      cases heq
      obtain ⟨e0, e1, -, -⟩ := HBd.out k hlt
      rw [e0, ← HN.out] at z0
      obtain ⟨wa, hwa⟩ : ∃ wa, wa = wr.alloc (.cells #[.slice (ad k) n (cp k), .int .i64 (Bv k)] 30) := ⟨_, rfl⟩
      have hba : Below w.heap.size w wa := by rw [hwa]; exact hb.alloc hb.size _
      have s0 : wa.cell? ⟨wr.heap.size, 0, none⟩ = some (.slice (ad k) n (cp k)) := by rw [hwa]; simp [go_sem]
      have s1 : wa.cell? ⟨wr.heap.size, 1, none⟩ = some (.int .i64 (Bv k)) := by rw [hwa]; simp [go_sem]
      have HXa := hide (HP'.out.below hba)
      have HPa : Hid (Px (ad k) n (F k) wa) := by have := (HP.out.2 k hlt).below hba; rw [e0, ← HN.out] at this; exact this
      have hpb : ∀ q, q < n → -1000000000000 ≤ F k q * x q ∧ F k q * x q ≤ 1000000000000 := fun q hq => by
        have h1 := e1 q (by rw [← HN.out]; exact hq)
        have h2 := HXb.out q hq
        exact prod_bd h1.1 h1.2 h2.1 h2.2
      have cS := fun q => sumOfProducts_any (ad k) n (cp k) (F k) hn a' cap' x hpb (wa.drewN q) (HPa.out.below (below_drewN (Below.refl _ _) q)) (HXa.out.below (below_drewN (Below.refl _ _) q))
      have HBa := hide hba
      have HK : Hid (∀ p : Bool, decide (dotS (F k) x n ≤ Bv k) = p → kpi F Bv n x k = p) := fun _ h => h
      have hwa' := hwa.symm
      clear hpb e0 e1 HXa HPa hba hwa hb HP HP' HBd HXb
      generalize dotS (F k) x n = S at *
      generalize Bv k = V at *
      by_cases q3 : V < S
      · have HFa : Hid (allG (kpi F Bv n x) m = false) := allG_no k hlt (HK.out _ (decide_eq_false (by omega)))
        clear HA HK
        go_upto_region 6 with fail
        generalize wr.heap.size = C at *
        go_quiet ((go_at_call 19; exact Calls.quiet_of (cS _)))
        have HBq := hide (below_drewN HBa.out nq)
        go_wp2_with fail
        go_ret
        exact ⟨by rw [HFa.out]; rfl, HBq.out⟩
      · have HAn := hide (allG_step HA.out (HK.out _ (decide_eq_true (by omega))))
        clear HA HK
        go_upto_region 6 with fail
        generalize wr.heap.size = C at *
        go_quiet ((go_at_call 19; exact Calls.quiet_of (cS _)))
        have HBq := hide (below_drewN HBa.out nq)
        go_wp2_with fail
        exact ⟨⟨k + 1, by omega, rfl, HAn.out, HBq.out⟩, by simp [intOf]; omega⟩
    · obtain rfl : k = m := by omega
      clear HP HP' HBd HXb
      go_wp2_with fail
      go_ret
      exact ⟨by rw [HA.out]; rfl, hb⟩

end Go.Proofs.Ytadbniademamhaa

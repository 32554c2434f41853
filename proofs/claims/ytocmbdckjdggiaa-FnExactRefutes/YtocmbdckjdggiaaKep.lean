/- Keeps: the program and the specification. -/
import Derived.Test.YtocmbdckjdggiaaBda
namespace Go.Proofs.Ytocmbdckjdggiaa
open Go.RowKit

/-- is bound i kept -/
def kpi (F : Nat → Nat → Int) (Bv : Nat → Int) (n : Nat) (x : Nat → Int) (i : Nat) : Bool := decide (dotS (F i) x n ≤ Bv i)
/-- are all bounds kept -/
def kepB (m : Nat) (ln : Nat → Nat) (F : Nat → Nat → Int) (Bv : Nat → Int) (n : Nat) (x : Nat → Int) : Bool := bdB m ln F Bv && (decide (n = ln 0) && (alW x 0 1000000000 n && allG (kpi F Bv n x) m))
theorem prod_bd {a x : Int} (h0 : -1000 ≤ a) (h1 : a ≤ 1000) (h2 : 0 ≤ x) (h3 : x ≤ 1000000000) : -1000000000000 ≤ a * x ∧ a * x ≤ 1000000000000 := by
  have := natb (a := a) (b := x) (P := 1000) (Q := 1000000000) (by omega) (by omega)
  omega

set_option maxRecDepth 100000 in
set_option maxHeartbeats 8000000 in
theorem implKeeps_any (a : Option Addr) (m cap : Nat) (ad : Nat → Option Addr) (ln cp : Nat → Nat) (F : Nat → Nat → Int) (Bv : Nat → Int) (hm : m ≤ 1048576) (hl : ∀ i, i < m → ln i ≤ 1048576) (a' : Option Addr) (n cap' : Nat) (x : Nat → Int) (hn : n ≤ 1048576) (w : World) (h : PxB a m ad ln cp F Bv w) (h' : Px a' n x w) :
    Calls Try.prog 25 #[.slice a m cap, .slice a' n cap'] w fun e w' => e = .returned (.bool (kepB m ln F Bv n x)) ∧ Below w.heap.size w w' := by
  have c0 := areBounds_any a m cap ad ln cp F Bv hm hl w h
  have HP := hide h
  have HP' := hide h'
  clear h h'
  unfold kepB
  cases hq : bdB m ln F Bv
  · rw [hq] at c0
    rw [Bool.false_and]
    clear hq HP HP'
    go_enter Try.func25, Try.ntmps25
    go_wp2_with fail
    refine c0.mono ?_
    rintro e w1 ⟨rfl, hb⟩
    have HB := hide hb
    clear hb c0
    go_wp2_with fail
    go_ret
    exact ⟨rfl, HB.out⟩
  rw [hq] at c0
  rw [Bool.true_and]
  obtain ⟨hm1, hm2, hn1, hn2, hB⟩ := bdB_parts hq
  have HBd := hide hB
  obtain ⟨b, off, rfl, -, -⟩ := HP.out.at (show 0 < m by omega)
  have hm8 : 0 < m := by omega
  have hm9 : (0 : Int) < (m : Int) := by omega
  clear hq hB
  by_cases q1 : ¬ n = ln 0
  · have q1' : ((n : Int) != (ln 0 : Int)) = true := by
      have : ¬ (n : Int) = (ln 0 : Int) := by omega
      simp [this]
    rw [decide_eq_false q1, Bool.false_and]
    clear q1 HP'
    go_enter Try.func25, Try.ntmps25
    go_wp2_with fail
    refine c0.mono ?_
    rintro e w1 ⟨rfl, hb⟩
    have y0 := (HP.out.below hb).at0 rfl hm8
    have HB := hide hb
    clear hb c0 HP
    go_wp2_with fail
    go_ret
    exact ⟨rfl, HB.out⟩
  have q1 : n = ln 0 := Decidable.not_not.1 q1
  have q1' : ((n : Int) != (ln 0 : Int)) = false := by rw [q1]; simp
  have HN := hide q1
  rw [decide_eq_true q1, Bool.true_and]
  have cX := fun w' hx => allWithin_any 0 1000000000 a' n cap' x hn w' hx
  have hn64 : n ≤ 64 := by omega
  clear q1
  cases q2 : alW x 0 1000000000 n
  · simp only [q2] at cX
    rw [Bool.false_and]
    clear q2
    go_enter Try.func25, Try.ntmps25
    go_wp2_with fail
    refine c0.mono ?_
    rintro e w1 ⟨rfl, hb⟩
    have y0 := (HP.out.below hb).at0 rfl hm8
    have HX := hide (HP'.out.below hb)
    have HB := hide hb
    clear hb c0 HP
    go_wp2_with fail
    refine (cX _ HX.out).mono ?_
    rintro e w2 ⟨rfl, rfl⟩
    go_wp2_with fail
    go_ret
    exact ⟨rfl, HB.out⟩
  have HXb : Hid (∀ k, k < n → 0 ≤ x k ∧ x k ≤ 1000000000) := fun k hk => inB_iff.1 (alW_at q2 hk)
  simp only [q2] at cX
  rw [Bool.true_and]
  clear q2
  go_enter Try.func25, Try.ntmps25
  go_wp2_with fail
  refine c0.mono ?_
  rintro e w1 ⟨rfl, hb⟩
  have y0 := (HP.out.below hb).at0 rfl hm8
  have HX := hide (HP'.out.below hb)
  have HB0 := hide hb
  clear hb c0
  go_wp2_with fail
  refine (cX _ HX.out).mono ?_
  rintro e w2 ⟨rfl, rfl⟩
  clear cX HX y0
  go_wp2_with fail
  go_loopw [6, 27] (fun _ i wr => ∃ k : Nat, k ≤ m ∧ i = .int .i64 k ∧ allG (kpi F Bv n x) k = true ∧ Below w.heap.size w wr) (fun _ i _ => m - (intOf i).toNat)
  case atStart => exact ⟨0, by omega, rfl, rfl, HB0.out⟩
  case round =>
    obtain ⟨k, hk, rfl, hA, hb⟩ := hrel
    have HA := hide hA
    clear hA HB0
    by_cases hlt : k < m
    · obtain ⟨b', off', heq, z0, z1⟩ := (HP.out.below hb).at hlt
      cases heq
      obtain ⟨e0, e1, -, -⟩ := HBd.out k hlt
      rw [e0, ← HN.out] at z0
      obtain ⟨wa, hwa⟩ : ∃ wa, wa = wr.alloc (.cells #[.slice (ad k) n (cp k), .int .i64 (Bv k)] 38) := ⟨_, rfl⟩
      have hba : Below w.heap.size w wa := by rw [hwa]; exact hb.alloc hb.size _
      have s0 : wa.cell? ⟨wr.heap.size, 0, none⟩ = some (.slice (ad k) n (cp k)) := by rw [hwa]; simp [go_sem]
      have s1 : wa.cell? ⟨wr.heap.size, 1, none⟩ = some (.int .i64 (Bv k)) := by rw [hwa]; simp [go_sem]
      have HXa := hide (HP'.out.below hba)
      have HPa : Hid (Px (ad k) n (F k) wa) := by have := (HP.out.2 k hlt).below hba; rw [e0, ← HN.out] at this; exact this
      have hpb : ∀ q, q < n → -1000000000000 ≤ F k q * x q ∧ F k q * x q ≤ 1000000000000 := fun q hq => by
        have h1 := e1 q (by rw [← HN.out]; exact hq)
        have h2 := HXb.out q hq
        exact prod_bd h1.1 h1.2 h2.1 h2.2
      have cS := fun q => sumOfProducts_any (ad k) n (cp k) (F k) hn a' cap' x hpb (wa.drewN q) (HPa.out.below (below_drewN (Below.refl _ _) q)) (HXa.out.below (below_drewN (Below.refl _ _) q))
      have HBa := hide hba
      have HK : Hid (∀ p : Bool, decide (dotS (F k) x n ≤ Bv k) = p → kpi F Bv n x k = p) := fun _ h => h
      have hwa' := hwa.symm
      clear hpb e0 e1 HXa HPa hba hwa hb HP HP' HBd HXb
      generalize dotS (F k) x n = S at *
      generalize Bv k = V at *
      by_cases q3 : V < S
      · have HFa : Hid (allG (kpi F Bv n x) m = false) := allG_no k hlt (HK.out _ (decide_eq_false (by omega)))
        clear HA HK
        go_upto_region 6 with fail
        generalize wr.heap.size = C at *
        go_quiet ((go_at_call 71; exact Calls.quiet_of (cS _)))
        have HBq := hide (below_drewN HBa.out nq)
        go_wp2_with fail
        go_ret
        exact ⟨by rw [HFa.out]; rfl, HBq.out⟩
      · have HAn := hide (allG_step HA.out (HK.out _ (decide_eq_true (by omega))))
        clear HA HK
        go_upto_region 6 with fail
        generalize wr.heap.size = C at *
        go_quiet ((go_at_call 71; exact Calls.quiet_of (cS _)))
        have HBq := hide (below_drewN HBa.out nq)
        go_wp2_with fail
        exact ⟨⟨k + 1, by omega, rfl, HAn.out, HBq.out⟩, by simp [intOf]; omega⟩
    · obtain rfl : k = m := by omega
      clear HP HP' HBd HXb
      go_wp2_with fail
      go_ret
      exact ⟨by rw [HA.out]; rfl, hb⟩

set_option maxRecDepth 100000 in
set_option maxHeartbeats 8000000 in
theorem specKeeps_any (a : Option Addr) (m cap : Nat) (ad : Nat → Option Addr) (ln cp : Nat → Nat) (F : Nat → Nat → Int) (Bv : Nat → Int) (hm : m ≤ 1048576) (hl : ∀ i, i < m → ln i ≤ 1048576) (a' : Option Addr) (n cap' : Nat) (x : Nat → Int) (hn : n ≤ 1048576) (w : World) (h : PxB a m ad ln cp F Bv w) (h' : Px a' n x w) :
    Calls Try.prog 53 #[.slice a m cap, .slice a' n cap'] w fun e w' => e = .returned (.bool (kepB m ln F Bv n x)) ∧ Below w.heap.size w w' := by
  have c0 := l11Bounds_any a m cap ad ln cp F Bv hm hl w h
  have HP := hide h
  have HP' := hide h'
  clear h h'
  unfold kepB
  cases hq : bdB m ln F Bv
  · rw [hq] at c0
    rw [Bool.false_and]
    clear hq HP HP'
    go_enter Try.func53, Try.ntmps53
    go_wp2_with fail
    refine c0.mono ?_
    rintro e w1 ⟨rfl, d, rfl⟩
    go_wp2_with fail
    go_ret
    exact ⟨rfl, below_drewN (Below.refl _ _) d⟩
  rw [hq] at c0
  rw [Bool.true_and]
  obtain ⟨hm1, hm2, hn1, hn2, hB⟩ := bdB_parts hq
  have HBd := hide hB
  obtain ⟨b, off, rfl, -, -⟩ := HP.out.at (show 0 < m by omega)
  have hm8 : 0 < m := by omega
  have hm9 : (0 : Int) < (m : Int) := by omega
  have y0 := HP.out.at0 rfl hm8
  clear hq hB
  by_cases q1 : ¬ n = ln 0
  · have q1' : ((n : Int) != (ln 0 : Int)) = true := by
      have : ¬ (n : Int) = (ln 0 : Int) := by omega
      simp [this]
    rw [decide_eq_false q1, Bool.false_and]
    clear q1 HP' HP
    go_enter Try.func53, Try.ntmps53
    go_wp2_with fail
    refine c0.mono ?_
    rintro e w1 ⟨rfl, d, rfl⟩
    go_wp2_with fail
    go_ret
    exact ⟨rfl, below_drewN (Below.refl _ _) d⟩
  have q1 : n = ln 0 := Decidable.not_not.1 q1
  have q1' : ((n : Int) != (ln 0 : Int)) = false := by rw [q1]; simp
  have HN := hide q1
  rw [decide_eq_true q1, Bool.true_and]
  have hn64 : n ≤ 64 := by omega
  clear q1
  go_enter Try.func53, Try.ntmps53
  go_wp2_with fail
  refine c0.mono ?_
  rintro e w1 ⟨rfl, d, hw1⟩
  have HB1 : Hid (Below w.heap.size w w1) := by rw [hw1]; exact below_drewN (Below.refl _ _) d
  have y1 := (HP.out.below HB1.out).at0 rfl hm8
  clear c0 y0 hw1
  go_wp2_with fail
  clear y1
  go_loop [5] (fun i => ∃ k : Nat, k ≤ n ∧ i = .int .i64 k ∧ alW x 0 1000000000 k = true) (fun i => n - (intOf i).toNat)
  case atStart => exact ⟨0, by omega, rfl, rfl⟩
  case round =>
    obtain ⟨k, hk, rfl, hT⟩ := hrel
    by_cases hlt : k < n
    · obtain ⟨b', off', rfl, z⟩ := (HP'.out.below HB1.out).at hlt
      have cF := fun w' => l1In_any (x k) 0 1000000000 w'
      clear HP HP' HBd
      cases q4 : inB (x k) 0 1000000000
      · have HFb : Hid (alW x 0 1000000000 n = false) := alW_false hlt q4
        simp only [q4] at cF
        clear q4 hT
        go_wp2_with fail
        refine (cF _).mono ?_
        rintro e w2 ⟨rfl, rfl⟩
        go_wp2_with fail
        go_ret
        exact ⟨by rw [HFb.out, Bool.false_and]; rfl, HB1.out⟩
      · have HT := hide (alW_step hT q4)
        simp only [q4] at cF
        clear q4 hT
        go_wp2_with fail
        refine (cF _).mono ?_
        rintro e w2 ⟨rfl, rfl⟩
        go_wp2_with fail
        exact ⟨⟨k + 1, by omega, rfl, HT.out⟩, by simp [intOf]; omega⟩
    obtain rfl : k = n := by omega
    have HXb : Hid (∀ q, q < k → 0 ≤ x q ∧ x q ≤ 1000000000) := fun q hq => inB_iff.1 (alW_at hT hq)
    have HT := hide hT
    clear hT hlt hk
    go_wp2_with fail
    go_loopw [6, 7, 8] (fun i _ _ wr => ∃ j : Nat, j ≤ m ∧ i = .int .i64 j ∧ allG (kpi F Bv k x) j = true ∧ Below w.heap.size w wr) (fun i _ _ _ => m - (intOf i).toNat)
    case atStart => exact ⟨0, by omega, rfl, rfl, HB1.out⟩
    case round =>
      clear HB1
      obtain ⟨j, hj, rfl, hA, hb⟩ := hrel
      have HA := hide hA
      clear hA
      by_cases hlt : j < m
      · obtain ⟨e0, e1, -, -⟩ := HBd.out j hlt
        have HPb : Hid (∀ q, q < k → -1000000000000 ≤ F j q * x q ∧ F j q * x q ≤ 1000000000000) := fun q hq => by
          have h1 := e1 q (by rw [← HN.out]; exact hq)
          have h2 := HXb.out q hq
          exact prod_bd h1.1 h1.2 h2.1 h2.2
        have HE0 : Hid (ln j = k) := by show _ = _; rw [e0, HN.out]
        have HK : Hid (∀ p : Bool, decide (dotS (F j) x k ≤ Bv j) = p → kpi F Bv k x j = p) := fun _ h => h
        have HB := hide hb
        clear e0 e1 HBd HXb hb
        go_wp2_with fail
        go_loopw [7, 8] (fun s i wz => ∃ t : Nat, t ≤ k ∧ i = .int .i64 t ∧ s = .int .i64 (dotS (F j) x t) ∧ Below w.heap.size w wz) (fun _ i _ => k - (intOf i).toNat)
        case atStart => exact ⟨0, by omega, rfl, rfl, HB.out⟩
        case round =>
          clear HB
          obtain ⟨t, ht, rfl, rfl, hb⟩ := hrel
          obtain ⟨b', off', heq, z0, z1⟩ := (HP.out.below hb).at hlt
          cases heq
          by_cases htk : t < k
          · have HPj := (HP.out.below hb).2 j hlt
            rw [HE0.out] at z0 HPj
            obtain ⟨b1, o1, ha1, x1⟩ := HPj.at htk
            obtain ⟨b2, o2, rfl, x2⟩ := (HP'.out.below hb).at htk
            rw [ha1] at z0
            have h1 := dotS_bd (f := F j) (x := x) (M := 1000000000000) (by omega) t (fun q hq => HPb.out q (by omega))
            have h2 := HPb.out t htk
            have HY : Hid (dotS (F j) x (t + 1) = dotS (F j) x t + F j t * x t) := rfl
            have HB := hide (fun d => below_drewN hb d)
            clear HP HP' HPb HPj ha1 HK HA hb HT HE0
            generalize dotS (F j) x t = X at *
            obtain ⟨P, hP⟩ : ∃ P, F j t * x t = P := ⟨_, rfl⟩
            rw [hP] at h2 HY
            have w1 : IntKind.i64.wrap (F j t * x t) = P := by rw [hP, IntKind.wrap_i64]; omega
            have w2 : IntKind.i64.wrap (X + P) = X + P := by rw [IntKind.wrap_i64]; omega
            generalize F j t = A at *
            generalize x t = C at *
            clear hP h1 h2
            go_wp2_with fail
            go_quiet (fail)
            go_wp2_with fail
            exact ⟨⟨t + 1, by omega, rfl, by rw [HY.out], HB.out _⟩, by simp [intOf]; omega⟩
          · obtain rfl : t = k := by omega
            have HB := hide hb
            clear HP HP' HPb hb
            generalize dotS (F j) x t = S at *
            generalize Bv j = V at *
            by_cases q3 : V < S
            · have HFa : Hid (allG (kpi F Bv t x) m = false) := allG_no j hlt (HK.out _ (decide_eq_false (by omega)))
              clear HA HK
              go_wp2_with fail
              go_ret
              exact ⟨by rw [HFa.out, Bool.and_false]; rfl, HB.out⟩
            · have HAn := hide (allG_step HA.out (HK.out _ (decide_eq_true (by omega))))
              clear HA HK
              go_wp2_with fail
              exact ⟨⟨j + 1, by omega, rfl, HAn.out, HB.out⟩, by simp [intOf]; omega⟩
      · obtain rfl : j = m := by omega
        clear HP HP' HBd HXb
        go_wp2_with fail
        go_ret
        exact ⟨by rw [HA.out, HT.out]; rfl, hb⟩

end Go.Proofs.Ytocmbdckjdggiaa

/- Deliver: the specification. -/
import Derived.Test.YtocmbdckjdggiaaDvn
namespace Go.Proofs.Ytocmbdckjdggiaa
open Go.RowKit

set_option maxRecDepth 100000 in
set_option maxHeartbeats 16000000 in
theorem specDeliver_any (a : Option Addr) (m cap : Nat) (K : Nat → Int) (hl : m ≤ 1048576) (a' : Option Addr) (n cap' : Nat) (r : Nat → Int) (hl' : n ≤ 1048576) (w : World) (h : Px a m K w) (h' : Px a' n r w) :
    Calls Try.prog 37 #[.slice a m cap, .slice a' n cap'] w (LsR (dvN m n K r) (dvS K r n) w) := by
  have c0 := l11Row_any a' n cap' r hl' w h'
  have HP := hide h
  have HP' := hide h'
  clear h h'
  have HV : Hid (∀ p, (rlB n r && (decide (n ≠ 0) && (decide (m % n = 0) && (decide (m / n ≤ 1024) && alW K 0 1000 m)))) = p → dvB m n K r = p) := fun _ h => h
  unfold dvN
  cases hq : rlB n r
  · rw [HV.out false (by rw [hq]; rfl)]
    rw [hq] at c0
    simp only [Bool.false_eq_true, if_false]
    clear hq HV HP HP'
    go_enter Try.func37, Try.ntmps37
    go_wp2_with fail
    refine c0.mono ?_
    rintro e w1 ⟨rfl, rfl⟩
    go_wp2_with fail
    go_ret
    exact ⟨_, _, 0, rfl, .inl rfl, .inl rfl, bnew _ _⟩
  rw [hq] at c0
  obtain ⟨hn64, hr⟩ := rlB_parts hq
  by_cases g0 : n = 0
  · subst g0
    rw [HV.out false (by rw [hq]; rfl)]
    simp only [Bool.false_eq_true, if_false]
    clear hq HV HP HP' hr
    go_enter Try.func37, Try.ntmps37
    go_wp2_with fail
    refine c0.mono ?_
    rintro e w1 ⟨rfl, rfl⟩
    go_wp2_with fail
    go_ret
    exact ⟨_, _, 0, rfl, .inl rfl, .inl rfl, bnew _ _⟩
  have g0' : ((n : Int) == 0) = false := beq_eq_false_iff_ne.2 (by omega)
  have hn0 : 0 < n := by omega
  have hnz : (n : Int) ≠ 0 := by omega
  have e1 : (m : Int).tmod (n : Int) = ((m % n : Nat) : Int) := by rw [Int.tmod_eq_emod_of_nonneg (by omega)]; simp
  have e2 : (m : Int).tdiv (n : Int) = ((m / n : Nat) : Int) := by rw [Int.tdiv_eq_ediv_of_nonneg (by omega)]; simp
  have hle := Nat.div_le_self m n
  by_cases g1 : ¬ m % n = 0
  · have g1' : (((m % n : Nat) : Int) != 0) = true := by
      have : ¬ ((m % n : Nat) : Int) = 0 := by omega
      simp only [bne_iff_ne, ne_eq]; exact this
    rw [HV.out false (by rw [hq, decide_eq_false g1, decide_eq_true (by omega : n ≠ 0)]; rfl)]
    simp only [Bool.false_eq_true, if_false]
    clear hq HV HP HP' hr g1
    generalize m % n = R at *
    generalize m / n = V at *
    go_enter Try.func37, Try.ntmps37
    go_wp2_with fail
    refine c0.mono ?_
    rintro e w1 ⟨rfl, rfl⟩
    go_wp2_with fail
    go_ret
    exact ⟨_, _, 0, rfl, .inl rfl, .inl rfl, bnew _ _⟩
  have g1 : m % n = 0 := Decidable.not_not.1 g1
  have g1' : (((m % n : Nat) : Int) != 0) = false := by rw [g1]; rfl
  by_cases g2 : ¬ m / n ≤ 1024
  · have g2' : (1024 : Int) < ((m / n : Nat) : Int) := by omega
    rw [HV.out false (by rw [hq, decide_eq_true g1, decide_eq_false g2, decide_eq_true (by omega : n ≠ 0)]; rfl)]
    simp only [Bool.false_eq_true, if_false]
    clear hq HV HP HP' hr g1 g2
    generalize m % n = R at *
    generalize m / n = V at *
    go_enter Try.func37, Try.ntmps37
    go_wp2_with fail
    refine c0.mono ?_
    rintro e w1 ⟨rfl, rfl⟩
    go_wp2_with fail
    go_ret
    exact ⟨_, _, 0, rfl, .inl rfl, .inl rfl, bnew _ _⟩
  have g2 : m / n ≤ 1024 := Decidable.not_not.1 g2
  have g2' : ¬ (1024 : Int) < ((m / n : Nat) : Int) := by omega
  have HV2 : Hid (∀ p, alW K 0 1000 m = p → dvB m n K r = p) := fun p hp => HV.out p (by rw [hq, decide_eq_true g1, decide_eq_true g2, decide_eq_true (by omega : n ≠ 0), hp]; simp)
  have HRr := hide hr
  have HM := hide g1
  have HNo : Hid (alW K 0 1000 m = false → ∀ w', w' = w.alloc (.cells #[] 2) → LsR (if dvB m n K r = true then m / n else 0) (dvS K r n) w (.returned (.slice (some ⟨w.heap.size, 0, none⟩) 0 0)) w') := fun hF w' e => by
    rw [HV2.out _ hF, e]
    exact ⟨_, _, 0, rfl, .inl rfl, .inl rfl, bnew _ _⟩
  have HYes : Hid (alW K 0 1000 m = true → ∀ s w', Row w.heap.size (m / n) s w' → (∀ q, q < m / n → s q = dvS K r n q) → Below w.heap.size w w' → LsR (if dvB m n K r = true then m / n else 0) (dvS K r n) w (.returned (.slice (some ⟨w.heap.size, 0, none⟩) (m / n) (m / n))) w') := fun hT s w' hrw hs hb => by
    rw [HV2.out _ hT, if_pos rfl]
    exact ⟨_, _, w.heap.size, rfl, .inr ⟨rfl, hrw.congr hs⟩, .inr (Nat.le_refl _), hb⟩
  generalize (if dvB m n K r = true then m / n else 0) = Rn at *
  obtain ⟨R, hR⟩ : ∃ R, m % n = R := ⟨_, rfl⟩
  obtain ⟨V, hV⟩ : ∃ V, m / n = V := ⟨_, rfl⟩
  rw [hR] at e1 g1'
  rw [hV] at e2 g2' HYes hle g2
  have HVe := hide hV
  have hmk := fun w' => make_px V (by omega) w'
  clear hq HV HV2 hr g1 hR hV
  go_enter Try.func37, Try.ntmps37
  go_wp2_with fail
  refine c0.mono ?_
  rintro e w1 ⟨rfl, rfl⟩
  clear c0
  go_wp2_with fail
  go_loop [5] (fun i => ∃ k : Nat, k ≤ m ∧ i = .int .i64 k ∧ alW K 0 1000 k = true) (fun i => m - (intOf i).toNat)
  case atStart => exact ⟨0, by omega, rfl, rfl⟩
  case round =>
    obtain ⟨k, hk, rfl, hA⟩ := hrel
    by_cases hlt : k < m
    · obtain ⟨b, off, rfl, z⟩ := HP.out.at hlt
      have cF := fun w' => l1In_any (K k) 0 1000 w'
      clear HP HP' hmk
      cases q4 : inB (K k) 0 1000
      · have HFb := hide (HNo.out (alW_false hlt q4) _ rfl)
        simp only [q4] at cF
        clear q4 hA HNo HYes
        go_wp2_with fail
        refine (cF _).mono ?_
        rintro e w2 ⟨rfl, rfl⟩
        go_wp2_with fail
        go_ret
        exact HFb.out
      · have HT := hide (alW_step hA q4)
        simp only [q4] at cF
        clear q4 hA HNo HYes
        go_wp2_with fail
        refine (cF _).mono ?_
        rintro e w2 ⟨rfl, rfl⟩
        go_wp2_with fail
        exact ⟨⟨k + 1, by omega, rfl, HT.out⟩, by simp [intOf]; omega⟩
    obtain rfl : k = m := by omega
    have HKb : Hid (∀ q, q < k → 0 ≤ K q ∧ K q ≤ 1000) := fun q hq => inB_iff.1 (alW_at hA hq)
    have HY := hide (HYes.out hA)
    have HS2 := hide ((St.start w1).own (bnew w1 (.cells (madeCells #[.int .i64 0] V) 2)) (row_new V w1).v (.inr (Nat.le_refl _)))
    clear hA HYes HNo hlt hk
    go_wp2_with fail
    clear hmk
    obtain ⟨B, hB⟩ : ∃ B, w1.heap.size = B := ⟨_, rfl⟩
    rw [hB] at HS2
    have HB := hide hB
    try simp only [hB]
    clear hB
    go_loopw [7, 8] (fun i _ wr => ∃ j : Nat, j ≤ k ∧ i = .int .i64 j ∧ St w1 [] [(some ⟨B, 0, none⟩, B, V, fun q => .int .i64 (dvP K r n j q))] wr) (fun i _ _ => k - (intOf i).toNat)
    case atStart =>
      refine ⟨0, by omega, rfl, ?_⟩
      rw [show (fun q => Value.int .i64 (dvP K r n 0 q)) = fun _ => Value.int .i64 0 from funext fun q => by rw [dvP_0]]
      exact HS2.out
    case round =>
      clear HS2
      obtain ⟨j, hj, rfl, hs⟩ := hrel
      by_cases hlt : j < k
      · have hjm := Nat.mod_lt j hn0
        obtain ⟨b, off, rfl, z⟩ := (HP.out.below hs.below).at hlt
        obtain ⟨b2, o2, rfl, z2⟩ := (HP'.out.below hs.below).at hjm
        have hdl : j / n < V := by rw [← HVe.out]; exact div_lt_of hn0 HM.out hlt
        obtain ⟨d0, f0⟩ := hs.atO (k := j / n) hdl
        have hb1 := dvP_bd (K := K) (r := r) hn0 hn64 HM.out hlt HKb.out HRr.out
        have hk2 := HKb.out j hlt
        have hr2 := HRr.out (j % n) hjm
        have hb2 := dv_prod hk2.1 hk2.2 hr2.1 hr2.2
        have HS4 := hide (hs.drew.upd (k := j / n) hdl (dvP K r n j (j / n) + K j * r (j % n)))
        rw [show (fun q => Value.int .i64 (updN (dvP K r n j) (j / n) (dvP K r n j (j / n) + K j * r (j % n)) q)) = fun q => Value.int .i64 (dvP K r n (j + 1) q) from funext fun q => by rw [dvP_step hn0]] at HS4
        have e3 : (j : Int).tdiv (n : Int) = ((j / n : Nat) : Int) := by rw [Int.tdiv_eq_ediv_of_nonneg (by omega)]; simp
        have e4 : (j : Int).tmod (n : Int) = ((j % n : Nat) : Int) := by rw [Int.tmod_eq_emod_of_nonneg (by omega)]; simp
        have hjd := Nat.div_le_self j n
        obtain ⟨P, hP⟩ : ∃ P, K j * r (j % n) = P := ⟨_, rfl⟩
        rw [hP] at hb2 HS4
        have w1' : IntKind.i64.wrap (K j * r (j % n)) = P := by rw [hP, IntKind.wrap_i64]; omega
        have w2' : IntKind.i64.wrap (dvP K r n j (j / n) + P) = dvP K r n j (j / n) + P := by rw [IntKind.wrap_i64]; omega
        clear hs HP HP' HKb HRr HM HVe HY hb1 hb2 hk2 hr2 hP e1 e2 HB
        generalize dvP K r n j (j / n) = X at *
        generalize K j = A at *
        generalize r (j % n) = C at *
        generalize j % n = Jm at *
        generalize j / n = Jd at *
        go_upto_region 13 with fail
        go_region_with (fail)
        all_goals
          clear z z2 d0 f0 w1' w2' e3 e4
          go_wp2_with fail
          exact ⟨⟨j + 1, by omega, rfl, HS4.out⟩, by simp [intOf]; omega⟩
      · obtain rfl : j = k := by omega
        have HE : Hid (LsR Rn (dvS K r n) w1 (.returned (.slice (some ⟨B, 0, none⟩) V V)) wr) := by
          have hB := HB.out
          subst hB
          refine HY.out (fun q => dvP K r n j q) wr ?_ (fun q hq => dvP_end (by rw [HVe.out]; exact hq)) hs.below
          rcases hs.nthO 0 rfl with h0 | ⟨-, h0⟩
          · intro q hq; exact absurd hq (by rw [h0]; omega)
          · exact h0
        clear hs HP HP' HKb HRr HM HVe HY HB
        go_wp2_with fail
        go_ret
        exact HE.out

end Go.Proofs.Ytocmbdckjdggiaa

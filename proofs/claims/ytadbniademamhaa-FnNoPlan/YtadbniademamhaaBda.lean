/- Bounds: both sides ask whether they are right. -/
import Derived.Test.YtadbniademamhaaBdn
namespace Go.Proofs.Ytadbniademamhaa
open Go.RowKit

theorem allG_step {p : Nat → Bool} {k : Nat} (h : allG p k = true) (hk : p k = true) : allG p (k + 1) = true := by
  show (allG p k && p k) = true
  rw [h, hk]; rfl
theorem PxB.at0 {a : Option Addr} {m : Nat} {ad : Nat → Option Addr} {ln cp : Nat → Nat} {F : Nat → Nat → Int} {Bv : Nat → Int} {w : World} (h : PxB a m ad ln cp F Bv w) {b off : Nat} (ha : a = some ⟨b, off, none⟩) (hi : 0 < m) : w.cell? ⟨b, off, none⟩ = some (.slice (ad 0) (ln 0) (cp 0)) := by
  obtain ⟨b', off', ha', h0, -⟩ := h.at hi
  rw [ha] at ha'
  cases ha'
  simpa using h0

set_option maxRecDepth 100000 in
set_option maxHeartbeats 4000000 in
theorem areBounds_any (a : Option Addr) (m cap : Nat) (ad : Nat → Option Addr) (ln cp : Nat → Nat) (F : Nat → Nat → Int) (Bv : Nat → Int) (hm : m ≤ 1048576) (hl : ∀ i, i < m → ln i ≤ 1048576) (w : World) (h : PxB a m ad ln cp F Bv w) :
    Calls Try.prog 15 #[.slice a m cap] w fun e w' => e = .returned (.bool (bdB m ln F Bv)) ∧ Below w.heap.size w w' := by
  have HP := hide h
  have HL := hide hl
  clear h hl
  have c0 := fun w' => within_any (m : Int) 1 64 w'
  have c9 := fun w' => within_any (ln 0 : Int) 1 64 w'
  unfold bdB
  cases h0 : inB (m : Int) 1 64
  · simp only [h0] at c0
    rw [Bool.false_and]
    clear h0 HP HL c9
    go_enter Try.func15, Try.ntmps15
    go_wp2_with fail
    refine (c0 _).mono ?_
    rintro e w1 ⟨rfl, rfl⟩
    go_wp2_with fail
    go_ret
    exact ⟨rfl, Below.refl _ _⟩
  have hm0 := inB_iff.1 h0
  simp only [h0] at c0
  rw [Bool.true_and]
  clear h0
  obtain ⟨b, off, rfl, -, -⟩ := HP.out.at (show 0 < m by omega)
  have y0 := HP.out.at0 rfl (by omega)
  have hl0 := HL.out 0 (by omega)
  generalize hN0 : inB (ln 0 : Int) 1 64 = r9 at *
  clear hN0
  go_enter Try.func15, Try.ntmps15
  go_wp2_with fail
  refine (c0 _).mono ?_
  rintro e w1 ⟨rfl, rfl⟩
  clear c0
  go_wp2_with fail
  clear y0
  go_loopw [5, 17] (fun _ i wr => ∃ k : Nat, k ≤ m ∧ i = .int .i64 k ∧ allG (bdi ln F Bv) k = true ∧ Below w1.heap.size w1 wr) (fun _ i _ => m - (intOf i).toNat)
  case atStart => exact ⟨0, by omega, rfl, rfl, Below.refl _ _⟩
  case round =>
    obtain ⟨k, hk, rfl, hA, hb⟩ := hrel
    have HA := hide hA
    clear hA
    by_cases hlt : k < m
    · obtain ⟨b', off', heq, z0, z1⟩ := (HP.out.below hb).at hlt
      cases heq
      have HBn := hide (hb.alloc (Nat.le_trans (Nat.le_refl _) hb.size) (.cells #[.slice (ad k) (ln k) (cp k), .int .i64 (Bv k)] 30))
      have HPk := hide ((HP.out.2 k hlt).below HBn.out)
      have cA := allWithin_any (-1000) 1000 (ad k) (ln k) (cp k) (F k) (HL.out k hlt) _ HPk.out
      have cB := fun w' => within_any (Bv k) (-1000) 1000 w'
      have hlk := HL.out k hlt
      have HF : Hid (∀ p : Bool, (decide (ln k = ln 0) && (alW (F k) (-1000) 1000 (ln k) && inB (Bv k) (-1000) 1000)) = p → bdi ln F Bv k = p) := fun _ h => h
      clear hb HP HL HPk
      by_cases q1 : ln k = ln 0
      · have q1' : ((ln k : Int) != (ln 0 : Int)) = false := by simp [q1]
        rw [decide_eq_true q1, Bool.true_and] at HF
        clear q1
        cases q2 : alW (F k) (-1000) 1000 (ln k)
        · rw [q2, Bool.false_and] at HF
          have HFa : Hid (allG (bdi ln F Bv) m = false) := allG_no k hlt (HF.out _ rfl)
          rw [q2] at cA
          clear q2 HF HA cB c9
          go_wp2_with fail
          refine cA.mono ?_
          rintro e w2 ⟨rfl, rfl⟩
          go_wp2_with fail
          go_ret
          exact ⟨by rw [HFa.out, Bool.and_false]; rfl, HBn.out⟩
        rw [q2] at cA
        rw [q2, Bool.true_and] at HF
        clear q2
        cases q3 : inB (Bv k) (-1000) 1000
        · rw [q3] at HF
          have HFa : Hid (allG (bdi ln F Bv) m = false) := allG_no k hlt (HF.out _ rfl)
          simp only [q3] at cB
          clear q3 HF HA c9
          go_wp2_with fail
          refine cA.mono ?_
          rintro e w2 ⟨rfl, rfl⟩
          go_wp2_with fail
          refine (cB _).mono ?_
          rintro e w2 ⟨rfl, rfl⟩
          go_wp2_with fail
          go_ret
          exact ⟨by rw [HFa.out, Bool.and_false]; rfl, HBn.out⟩
        rw [q3] at HF
        have HAn := hide (allG_step HA.out (HF.out _ rfl))
        simp only [q3] at cB
        clear q3 HF HA c9
        go_wp2_with fail
        refine cA.mono ?_
        rintro e w2 ⟨rfl, rfl⟩
        go_wp2_with fail
        refine (cB _).mono ?_
        rintro e w2 ⟨rfl, rfl⟩
        go_wp2_with fail
        exact ⟨⟨k + 1, by omega, rfl, HAn.out, HBn.out⟩, by simp [intOf]; omega⟩
      · have q1' : ((ln k : Int) != (ln 0 : Int)) = true := by
          have : ¬ (ln k : Int) = (ln 0 : Int) := by omega
          simp [this]
        rw [decide_eq_false q1, Bool.false_and] at HF
        have HFa : Hid (allG (bdi ln F Bv) m = false) := allG_no k hlt (HF.out _ rfl)
        clear q1 HF HA cA cB c9
        go_wp2_with fail
        go_ret
        exact ⟨by rw [HFa.out, Bool.and_false]; rfl, HBn.out⟩
    · obtain rfl : k = m := by omega
      clear HP HL
      go_wp2_with fail
      refine (c9 _).mono ?_
      rintro e w2 ⟨rfl, rfl⟩
      go_wp2_with fail
      go_ret
      exact ⟨by rw [HA.out, Bool.and_true]; rfl, hb⟩

set_option maxRecDepth 100000 in
set_option maxHeartbeats 8000000 in
theorem l11Bounds_any (a : Option Addr) (m cap : Nat) (ad : Nat → Option Addr) (ln cp : Nat → Nat) (F : Nat → Nat → Int) (Bv : Nat → Int) (hm : m ≤ 1048576) (hl : ∀ i, i < m → ln i ≤ 1048576) (w : World) (h : PxB a m ad ln cp F Bv w) :
    Calls Try.prog 13 #[.slice a m cap] w fun e w' => e = .returned (.bool (bdB m ln F Bv)) ∧ ∃ d, w' = w.drewN d := by
  have HP := hide h
  have HL := hide hl
  clear h hl
  unfold bdB
  by_cases g0 : m = 0
  · subst g0
    rw [show inB ((0 : Nat) : Int) 1 64 = false from rfl, Bool.false_and]
    clear HP HL
    go_enter Try.func13, Try.ntmps13
    go_wp2_with fail
    go_ret
    exact ⟨rfl, 0, rfl⟩
  have g0' : ((m : Int) == 0) = false := beq_eq_false_iff_ne.2 (by omega)
  by_cases g1 : 64 < m
  · have e1 : inB (m : Int) 1 64 = false := by
      cases hq : inB (m : Int) 1 64
      · rfl
      · have := inB_iff.1 hq; omega
    rw [e1, Bool.false_and]
    have g1' : (64 : Int) < (m : Int) := by omega
    clear HP HL e1
    go_enter Try.func13, Try.ntmps13
    go_wp2_with fail
    go_ret
    exact ⟨rfl, 0, rfl⟩
  have g1' : ¬ (64 : Int) < (m : Int) := by omega
  rw [inB_iff.2 (⟨by omega, by omega⟩ : 1 ≤ (m : Int) ∧ (m : Int) ≤ 64), Bool.true_and]
  obtain ⟨b, off, rfl, -, -⟩ := HP.out.at (show 0 < m by omega)
  have y0 := HP.out.at0 rfl (by omega)
  have hl0 := HL.out 0 (by omega)
  by_cases g2 : ln 0 = 0
  · rw [show inB (ln 0 : Int) 1 64 = false by rw [g2]; rfl, Bool.false_and]
    have g2' : ((ln 0 : Int) == 0) = true := by rw [g2]; rfl
    have hm9 : (0 : Int) < (m : Int) := by omega
    clear HP HL g2
    go_enter Try.func13, Try.ntmps13
    go_wp2_with fail
    go_ret
    exact ⟨rfl, 0, rfl⟩
  have g2' : ((ln 0 : Int) == 0) = false := beq_eq_false_iff_ne.2 (by omega)
  have hm9 : (0 : Int) < (m : Int) := by omega
  have hm8 : 0 < m := by omega
  by_cases g3 : 64 < ln 0
  · have e1 : inB (ln 0 : Int) 1 64 = false := by
      cases hq : inB (ln 0 : Int) 1 64
      · rfl
      · have := inB_iff.1 hq; omega
    rw [e1, Bool.false_and]
    have g3' : (64 : Int) < (ln 0 : Int) := by omega
    clear HP HL e1
    go_enter Try.func13, Try.ntmps13
    go_wp2_with fail
    go_ret
    exact ⟨rfl, 0, rfl⟩
  have g3' : ¬ (64 : Int) < (ln 0 : Int) := by omega
  rw [inB_iff.2 (⟨by omega, by omega⟩ : 1 ≤ (ln 0 : Int) ∧ (ln 0 : Int) ≤ 64), Bool.true_and]
  go_enter Try.func13, Try.ntmps13
  go_wp2_with fail
  clear y0
  go_loopw [3, 4] (fun i _ wr => ∃ k d : Nat, k ≤ m ∧ i = .int .i64 k ∧ allG (bdi ln F Bv) k = true ∧ wr = w.drewN d) (fun i _ _ => m - (intOf i).toNat)
  case atStart => exact ⟨0, 0, by omega, rfl, rfl, rfl⟩
  case round =>
    obtain ⟨k, d, hk, rfl, hA, hwr⟩ := hrel
    have HA := hide hA
    have HW := hide hwr
    have hbw : Below w.heap.size w wr := by rw [hwr]; exact below_drewN (Below.refl _ _) d
    clear hA hwr
    by_cases hlt : k < m
    · obtain ⟨b', off', heq, z0, z1⟩ := (HP.out.below hbw).at hlt
      cases heq
      have y0 := (HP.out.below hbw).at0 rfl hm8
      have HPk := hide ((HP.out.below hbw).2 k hlt)
      clear hbw
      have cB := fun w' => l1In_any (Bv k) (-1000) 1000 w'
      have hlk := HL.out k hlt
      have HF : Hid (∀ p : Bool, (decide (ln k = ln 0) && (alW (F k) (-1000) 1000 (ln k) && inB (Bv k) (-1000) 1000)) = p → bdi ln F Bv k = p) := fun _ h => h
      clear HP HL
      by_cases q1 : ln k = ln 0
      · have q1' : ((ln k : Int) != (ln 0 : Int)) = false := by simp [q1]
        rw [decide_eq_true q1, Bool.true_and] at HF
        clear q1
        cases q3 : inB (Bv k) (-1000) 1000
        · rw [q3, Bool.and_false] at HF
          have HFa : Hid (allG (bdi ln F Bv) m = false) := allG_no k hlt (HF.out _ rfl)
          simp only [q3] at cB
          clear q3 HF HA HPk
          go_wp2_with fail
          go_quiet ((go_at_call 14; exact Calls.quiet_of_same (cB _)))
          go_wp2_with fail
          go_ret
          exact ⟨by rw [HFa.out]; rfl, d + nq, by rw [HW.out, World.drewN_drewN]⟩
        rw [q3, Bool.and_true] at HF
        simp only [q3] at cB
        clear q3
        go_wp2_with fail
        go_quiet ((go_at_call 14; exact Calls.quiet_of_same (cB _)))
        go_wp2_with fail
        clear cB
        go_loopw [4] (fun i wz => ∃ t d' : Nat, t ≤ ln k ∧ i = .int .i64 t ∧ alW (F k) (-1000) 1000 t = true ∧ wz = wr.drewN d') (fun i _ => ln k - (intOf i).toNat)
        case atStart => exact ⟨0, _, by omega, rfl, rfl, rfl⟩
        case round =>
          obtain ⟨t, d', ht, rfl, hT, rfl⟩ := hrel
          by_cases htl : t < ln k
          · obtain ⟨b1, o1, ha1, x0⟩ := HPk.out.at htl
            have cF := fun w' => l1In_any (F k t) (-1000) 1000 w'
            rw [ha1] at z0
            cases q4 : inB (F k t) (-1000) 1000
            · have HFb : Hid (allG (bdi ln F Bv) m = false) := allG_no k hlt (HF.out _ (alW_false htl q4))
              simp only [q4] at cF
              clear q4 HF HA HPk ha1 hT
              go_wp2_with fail
              refine (cF _).mono ?_
              rintro e w2 ⟨rfl, rfl⟩
              go_wp2_with fail
              go_ret
              exact ⟨by rw [HFb.out]; rfl, d + d', by rw [HW.out, World.drewN_drewN]⟩
            · have HT := hide (alW_step hT q4)
              simp only [q4] at cF
              clear q4 HF HA HPk ha1 hT
              go_wp2_with fail
              refine (cF _).mono ?_
              rintro e w2 ⟨rfl, rfl⟩
              go_wp2_with fail
              exact ⟨⟨t + 1, d', by omega, rfl, HT.out, rfl⟩, by simp [intOf]; omega⟩
          · obtain rfl : t = ln k := by omega
            have HAn := hide (allG_step HA.out (HF.out _ hT))
            clear HF HA HPk hT
            go_wp2_with fail
            exact ⟨⟨k + 1, d + d', by omega, rfl, HAn.out, by rw [HW.out, World.drewN_drewN]⟩, by simp [intOf]; omega⟩
      · have q1' : ((ln k : Int) != (ln 0 : Int)) = true := by
          have : ¬ (ln k : Int) = (ln 0 : Int) := by omega
          simp [this]
        rw [decide_eq_false q1, Bool.false_and] at HF
        have HFa : Hid (allG (bdi ln F Bv) m = false) := allG_no k hlt (HF.out _ rfl)
        clear q1 HF HA cB HPk
        go_wp2_with fail
        go_quiet (fail)
        go_wp2_with fail
        go_ret
        exact ⟨by rw [HFa.out]; rfl, d + nq, by rw [HW.out, World.drewN_drewN]⟩
    · obtain rfl : k = m := by omega
      clear HP HL
      go_wp2_with fail
      go_ret
      exact ⟨by rw [HA.out]; rfl, d, HW.out⟩

end Go.Proofs.Ytadbniademamhaa

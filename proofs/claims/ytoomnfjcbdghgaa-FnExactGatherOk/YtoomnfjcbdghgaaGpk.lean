/- Do parts go together: the specification. -/
import Derived.Test.YtoomnfjcbdghgaaGpj
namespace Go.Proofs.Ytoomnfjcbdghgaa
open Go.RowKit

set_option maxRecDepth 100000 in
set_option maxHeartbeats 4000000 in
theorem l15Together_any (a : Option Addr) (m cap : Nat) (E : Nat → SPart) (hm : m ≤ 1048576) (hS : byS E m ≤ 1048576) (w : World) (h : PxG a (m * 4) (FPart E) w) :
    Calls Try.prog 72 #[.slice a m cap] w fun e w' => e = .returned (.bool (tgB E m)) ∧ Below w.heap.size w w' := by
  have HP := hide h
  have HF : Hid (¬ rsP E m → tgB E m = false) := fun h => tgB_f (fun e => h e.1)
  have HT : Hid (rsP E m → tgB E m = decide (byS E m ≤ 2048)) := fun h => by
    by_cases e : byS E m ≤ 2048
    · rw [tgB_t h e, decide_eq_true e]
    · rw [tgB_f (fun x => e x.2), decide_eq_false e]
  clear h
  generalize tgB E m = V at *
  go_enter Try.func72, Try.ntmps72
  go_wp2_with fail
  go_loopw [3, 4] (fun l i wr => ∃ k : Nat, k ≤ m ∧ i = .int .i64 k ∧ l = .int .i64 (byS E k : Nat) ∧ Hid (rsP E k) ∧ Below w.heap.size w wr) (fun _ i _ => m - (intOf i).toNat)
  case atStart => exact ⟨0, by omega, rfl, rfl, hide (fun i hi => by omega), Below.refl _ _⟩
  case round =>
    obtain ⟨k, hk, rfl, rfl, HR, hb⟩ := hrel
    have HB := hide hb
    by_cases hlt : k < m
    · have hlt' : (k : Int) < m := by omega
      obtain ⟨b, off, rfl, z0, z1, z2, z3⟩ := (HP.out.below hb).atPart hlt
      have hsz := byS_le E (show k + 1 ≤ m by omega)
      have E1 : Hid (byS E (k + 1) = byS E k + (E k).f3.size) := rfl
      have hsz2 : byS E k + (E k).f3.size ≤ 1048576 := by rw [E1.out] at hsz; omega
      have HBD := hide (below_drewN HB.out)
      cases k with
      | zero =>
        have HR2 : Hid (rsP E (0 + 1)) := fun i hi => by omega
        have q0 : ¬ (0 : Int) < ((0 : Nat) : Int) := by omega
        simp only [Nat.zero_mul, Nat.add_zero] at z0 z1 z2 z3
        clear HP HF HT HR hb HB
        go_upto_region 6 with fail
        go_quiet (fail)
        have HBe := hide (HBD.out nq)
        clear HBD
        generalize wr.drewN nq = we at *
        clear z0 z1 z2 z3
        go_wp2_with fail
        go_roundw
        case rel => exact ⟨0 + 1, by omega, by go_num, by rw [E1.out]; simp [byS], HR2, HBe.out⟩
        case measure => simp [intOf]; omega
      | succ j =>
        have hkp : (0 : Int) < ((j + 1 : Nat) : Int) := by omega
        obtain ⟨b', off', e9, x0, x1, x2, x3⟩ := (HP.out.below hb).atPart (show j < m by omega)
        cases e9
        have hj1 : (((j + 1 : Nat) : Int) - 1) = (j : Int) := by omega
        have hjm : (j : Int) < m := by omega
        have HRS := hide (rsP_step (E := E) (j := j) HR.out)
        have HRF : Hid (¬ ((E j).f2 = false ∧ (E j).f1 < (E (j + 1)).f1) → V = false) := fun h => HF.out (fun e => h (e j (by omega)))
        clear HP HF HT HR hb HB
        by_cases hN : (E (j + 1)).f1 ≤ (E j).f1
        · have HV := hide (HRF.out (by omega))
          clear HRF HRS
          go_upto_region 6 with fail
          go_quiet (fail)
          have HBe := hide (HBD.out nq)
          clear HBD
          generalize wr.drewN nq = we at *
          go_wp2_with fail
          go_ret
          exact ⟨by rw [HV.out]; rfl, HBe.out⟩
        · cases hL : (E j).f2 with
          | true =>
            have HV := hide (HRF.out (by rw [hL]; simp))
            rw [hL] at x2
            clear HRF HRS
            go_upto_region 6 with fail
            go_quiet (fail)
            have HBe := hide (HBD.out nq)
            clear HBD
            generalize wr.drewN nq = we at *
            go_wp2_with fail
            go_ret
            exact ⟨by rw [HV.out]; rfl, HBe.out⟩
          | false =>
            rw [hL] at x2
            have HR2 := hide (HRS.out hL (by omega))
            clear HRF HRS
            go_upto_region 6 with fail
            go_quiet (fail)
            have HBe := hide (HBD.out nq)
            clear HBD
            generalize wr.drewN nq = we at *
            clear z0 z1 z2 z3 x0 x1 x2 x3
            go_wp2_with fail
            go_roundw
            case rel => exact ⟨j + 1 + 1, by omega, by go_num, by rw [E1.out]; go_num, HR2, HBe.out⟩
            case measure => simp [intOf]; omega
    · obtain rfl : k = m := by omega
      have HV := hide (HT.out HR.out)
      have hd : decide (((byS E k : Nat) : Int) ≤ 2048) = decide (byS E k ≤ 2048) := by rw [Bool.eq_iff_iff]; simp; omega
      have HD := hide hd
      clear HP HF HT HR hb hd
      go_wp2_with fail
      go_ret
      exact ⟨by rw [HV.out, ← HD.out]; rfl, HB.out⟩

end Go.Proofs.Ytoomnfjcbdghgaa

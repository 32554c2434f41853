/- Do parts go together, is a message whole, is it open: the program and the specification. -/
import Derived.Test.YtoomnfjcbdghgaaGpn
namespace Go.Proofs.Ytoomnfjcbdghgaa
open Go.RowKit

theorem below_drewN {B : Nat} {w w' : World} (h : Below B w w') (d : Nat) : Below B w (w'.drewN d) := ⟨h.os, h.tape, h.output, h.size, h.block⟩
theorem byS_le (E : Nat → SPart) : ∀ {n k}, k ≤ n → byS E k ≤ byS E n
  | 0, k, h => by obtain rfl : k = 0 := by omega
                  exact Nat.le_refl _
  | n + 1, k, h => by
    by_cases e : k = n + 1
    · rw [e]; exact Nat.le_refl _
    · have := byS_le E (n := n) (k := k) (by omega); simp only [byS]; omega
theorem rsP_step {E : Nat → SPart} {j : Nat} (h : rsP E (j + 1)) (h1 : (E j).f2 = false) (h2 : (E j).f1 < (E (j + 1)).f1) : rsP E (j + 2) := fun i hi => by
  by_cases e : i = j
  · subst e; exact ⟨h1, h2⟩
  · exact h i (by omega)

set_option maxRecDepth 100000 in
set_option maxHeartbeats 4000000 in
theorem areOfOne_any (a : Option Addr) (m cap : Nat) (E : Nat → SPart) (hm : m ≤ 1048576) (hS : byS E m ≤ 1048576) (w : World) (h : PxG a (m * 4) (FPart E) w) :
    Calls Try.prog 110 #[.slice a m cap] w fun e w' => e = .returned (.bool (tgB E m)) ∧ Below w.heap.size w w' := by
  have HP := hide h
  have HF : Hid (¬ rsP E m → tgB E m = false) := fun h => tgB_f (fun e => h e.1)
  have HT : Hid (rsP E m → tgB E m = decide (byS E m ≤ 2048)) := fun h => by
    by_cases e : byS E m ≤ 2048
    · rw [tgB_t h e, decide_eq_true e]
    · rw [tgB_f (fun x => e x.2), decide_eq_false e]
  clear h
  generalize tgB E m = V at *
  go_enter Try.func110, Try.ntmps110
  go_wp2_with fail
  go_loopw [3, 8] (fun l i wr => ∃ k : Nat, k ≤ m ∧ i = .int .i64 k ∧ l = .int .i64 (byS E k : Nat) ∧ Hid (rsP E k) ∧ Below w.heap.size w wr) (fun _ i _ => m - (intOf i).toNat)
  case atStart => exact ⟨0, by omega, rfl, rfl, hide (fun i hi => by omega), Below.refl _ _⟩
  case round =>
    obtain ⟨k, hk, rfl, rfl, HR, hb⟩ := hrel
    have HB := hide hb
    by_cases hlt : k < m
    · have hlt' : (k : Int) < m := by omega
      obtain ⟨b, off, rfl, z0, z1, z2, z3⟩ := (HP.out.below hb).atPart hlt
      have hsz := byS_le E (show k + 1 ≤ m by omega)
      have E1 : Hid (byS E (k + 1) = byS E k + (E k).f3.size) := rfl
      have hsz2 : byS E k + (E k).f3.size ≤ 1048576 := by rw [E1.out] at hsz; omega
      have HBA : Hid (Below w.heap.size w (wr.alloc (.cells #[.int .i64 (E k).f0, .int .i64 (E k).f1, .bool (E k).f2, .string (E k).f3] 36))) := hb.alloc hb.size _
      cases k with
      | zero =>
        have HR2 : Hid (rsP E (0 + 1)) := fun i hi => by omega
        have HBD := hide (below_drewN HBA.out)
        have q0 : ¬ (0 : Int) < ((0 : Nat) : Int) := by omega
        simp only [Nat.zero_mul, Nat.add_zero] at z0 z1 z2 z3
        clear HP HF HT HR HBA hb HB
        go_upto_region 5 with fail
        go_quiet (fail)
        have HBe := hide (HBD.out nq)
        have y3 : ((wr.alloc (.cells #[.int .i64 (E 0).f0, .int .i64 (E 0).f1, .bool (E 0).f2, .string (E 0).f3] 36)).drewN nq).cell? ⟨wr.heap.size, 3, none⟩ = some (.string (E 0).f3) := by
          show (wr.alloc _).cell? _ = _; simp [go_sem]
        clear HBD
        generalize (wr.alloc (.cells #[.int .i64 (E 0).f0, .int .i64 (E 0).f1, .bool (E 0).f2, .string (E 0).f3] 36)).drewN nq = we at *
        clear z0 z1 z2 z3
        go_wp2_with fail
        go_roundw
        case rel => exact ⟨0 + 1, by omega, by go_num, by rw [E1.out]; simp [byS], HR2, HBe.out⟩
        case measure => simp [intOf]; omega
      | succ j =>
        have hkp : (0 : Int) < ((j + 1 : Nat) : Int) := by omega
        obtain ⟨b', off', e9, x0, x1, x2, x3⟩ := (HP.out.below hb).atPart (show j < m by omega)
        cases e9
        have hj1 : (((j + 1 : Nat) : Int) - 1) = (j : Int) := by omega
        have hjm : (j : Int) < m := by omega
        have HX2 : Hid ((wr.alloc (.cells #[.int .i64 (E (j + 1)).f0, .int .i64 (E (j + 1)).f1, .bool (E (j + 1)).f2, .string (E (j + 1)).f3] 36)).cell? ⟨b, off + j * 4 + 2, none⟩ = some (.bool (E j).f2)) := Lib.cell?_alloc_some _ x2
        have HX1 : Hid ((wr.alloc (.cells #[.int .i64 (E (j + 1)).f0, .int .i64 (E (j + 1)).f1, .bool (E (j + 1)).f2, .string (E (j + 1)).f3] 36)).cell? ⟨b, off + j * 4 + 1, none⟩ = some (.int .i64 (E j).f1)) := Lib.cell?_alloc_some _ x1
        have xx2 := HX2.out
        have xx1 := HX1.out
        have HBD := hide (below_drewN HBA.out)
        have HRS := hide (rsP_step (E := E) (j := j) HR.out)
        have HRF : Hid (¬ ((E j).f2 = false ∧ (E j).f1 < (E (j + 1)).f1) → V = false) := fun h => HF.out (fun e => h (e j (by omega)))
        clear HP HF HT HR HBA hb HB HX1 HX2
        cases hL : (E j).f2 with
        | true =>
          have HV := hide (HRF.out (by rw [hL]; simp))
          rw [hL] at xx2
          clear HRF HRS
          go_upto_region 5 with fail
          go_quiet (fail)
          have HBe := hide (HBD.out nq)
          clear HBD
          generalize (wr.alloc (.cells #[.int .i64 (E (j + 1)).f0, .int .i64 (E (j + 1)).f1, .bool (E (j + 1)).f2, .string (E (j + 1)).f3] 36)).drewN nq = we at *
          go_wp2_with fail
          go_ret
          exact ⟨by rw [HV.out]; rfl, HBe.out⟩
        | false =>
          rw [hL] at xx2
          by_cases hN : (E (j + 1)).f1 ≤ (E j).f1
          · have HV := hide (HRF.out (by omega))
            clear HRF HRS
            go_upto_region 5 with fail
            go_quiet (fail)
            have HBe := hide (HBD.out nq)
            clear HBD
            generalize (wr.alloc (.cells #[.int .i64 (E (j + 1)).f0, .int .i64 (E (j + 1)).f1, .bool (E (j + 1)).f2, .string (E (j + 1)).f3] 36)).drewN nq = we at *
            go_wp2_with fail
            go_ret
            exact ⟨by rw [HV.out]; rfl, HBe.out⟩
          · have HR2 := hide (HRS.out hL (by omega))
            clear HRF HRS
            go_upto_region 5 with fail
            go_quiet (fail)
            have HBe := hide (HBD.out nq)
            have y3 : ((wr.alloc (.cells #[.int .i64 (E (j + 1)).f0, .int .i64 (E (j + 1)).f1, .bool (E (j + 1)).f2, .string (E (j + 1)).f3] 36)).drewN nq).cell? ⟨wr.heap.size, 3, none⟩ = some (.string (E (j + 1)).f3) := by
              show (wr.alloc _).cell? _ = _; simp [go_sem]
            clear HBD
            generalize (wr.alloc (.cells #[.int .i64 (E (j + 1)).f0, .int .i64 (E (j + 1)).f1, .bool (E (j + 1)).f2, .string (E (j + 1)).f3] 36)).drewN nq = we at *
            clear z0 z1 z2 z3 x0 x1 x2 x3 xx1 xx2
            go_wp2_with fail
            go_roundw
            case rel => exact ⟨j + 1 + 1, by omega, by go_num, by rw [E1.out]; go_num, HR2, HBe.out⟩
            case measure => simp [intOf]; omega
    · obtain rfl : k = m := by omega
      have HV := hide (HT.out HR.out)
      have hd : decide (((byS E k : Nat) : Int) ≤ 2048) = decide (byS E k ≤ 2048) := by rw [Bool.eq_iff_iff]; simp; omega
      have HD := hide hd
      clear HP HF HT HR hb hd
      go_wp2_with fail
      go_ret
      exact ⟨by rw [HV.out, ← HD.out]; rfl, HB.out⟩

end Go.Proofs.Ytoomnfjcbdghgaa

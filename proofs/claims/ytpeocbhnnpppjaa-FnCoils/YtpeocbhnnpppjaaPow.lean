/- Powers modulo 12289: the specification and the program. -/
import Derived.Test.YtpeocbhnnpppjaaMod
namespace Go.Proofs.Ytpeocbhnnpppjaa
open Go.RowKit

/-- what Power answers -/
def powB (b e : Int) : Int := if inB e 0 1099511627776 = true then pw b e.toNat else 0

theorem mul_small {a b : Nat} (ha : a < 12289) (hb : b < 12289) : a * b < 151019521 := by
  have := Nat.mul_le_mul (show a ≤ 12288 by omega) (show b ≤ 12288 by omega)
  omega

set_option maxHeartbeats 1000000 in
theorem implPower_yes (b : Int) (k : Nat) (hk : k ≤ 1099511627776) (w : World) :
    Calls Try.prog 33 #[.int .i64 b, .int .i64 k] w fun e w' => e = .returned (.int .i64 (pw b k)) ∧ w' = w := by
  have c := residue_any b
  have cr := residue_any
  have cw := within_any (k : Int) 0 1099511627776
  have hin : inB (k : Int) 0 1099511627776 = true := by unfold inB; simp; omega
  rw [hin] at cw
  clear hin
  obtain ⟨r0, r1⟩ := res_bd b
  obtain ⟨B, hB⟩ : ∃ B : Nat, res b = (B : Int) := ⟨(res b).toNat, by omega⟩
  obtain ⟨V, hV, hV2⟩ : ∃ V : Nat, pwF 41 1 B k = V ∧ pw b k = (V : Int) := ⟨_, rfl, by unfold pw; rw [hB]; simp⟩
  rw [hV2]
  rw [hB] at c r1
  have HK := hide hk
  have HR := hide r1
  have HV := hide hV
  clear r0 hB hk r1 hV hV2
  go_enter Try.func33, Try.ntmps33
  go_wp2_with fail
  refine (cw _).mono ?_
  rintro e w1 ⟨rfl, rfl⟩
  clear cw
  go_wp2_with fail
  refine (c _).mono ?_
  rintro e w1 ⟨rfl, rfl⟩
  clear c
  go_wp2_with fail
  go_loop [1, 5, 6] (fun y z x => ∃ n bb ee rr : Nat, x = .int .i64 bb ∧ y = .int .i64 ee ∧ z = .int .i64 rr ∧ Hid (bb < 12289 ∧ rr < 12289 ∧ ee ≤ 1099511627776 ∧ ee < 2 ^ n ∧ pwF n rr bb ee = V)) (fun y _ _ => (intOf y).toNat)
  case atStart => exact ⟨41, B, k, 1, rfl, rfl, rfl, hide ⟨by have := HR.out; omega, by omega, HK.out, Nat.lt_of_le_of_lt HK.out (by decide), HV.out⟩⟩
  case round =>
    obtain ⟨n, bb, ee, rr, rfl, rfl, rfl, hh⟩ := hrel
    clear HV HK HR
    by_cases h0 : ee = 0
    · subst h0
      have hr : rr = V := by
        have := hh.out.2.2.2.2
        rwa [pwF_zero] at this
      subst hr
      clear hh
      go_wp2_with fail
      go_ret
      exact ⟨rfl, rfl⟩
    · obtain ⟨h1, h2, h3, h4, h5⟩ := hh.out
      cases n with
      | zero => simp at h4; omega
      | succ n =>
        have hpos : (0 : Int) < ee := by omega
        have h4' : ee / 2 < 2 ^ n := by rw [Nat.pow_succ] at h4; omega
        have hbb := mul_small h1 h1
        have hrb := mul_small h2 h1
        have m1 : bb * bb % 12289 < 12289 := Nat.mod_lt _ (by omega)
        have m2 : rr * bb % 12289 < 12289 := Nat.mod_lt _ (by omega)
        have w1 : IntKind.i64.wrap ((bb : Int) * (bb : Int)) = ((bb * bb : Nat) : Int) := by rw [IntKind.wrap_i64, ← Int.natCast_mul]; omega
        have w2 : IntKind.i64.wrap ((rr : Int) * (bb : Int)) = ((rr * bb : Nat) : Int) := by rw [IntKind.wrap_i64, ← Int.natCast_mul]; omega
        have t1 := fun w => cr ((bb * bb : Nat) : Int) w
        have t2 := fun w => cr ((rr * bb : Nat) : Int) w
        rw [res_nat] at t1 t2
        clear cr
        have t3 : (ee : Int).tdiv 2 = ((ee / 2 : Nat) : Int) := ndiv _ 2
        have t4 : (ee : Int).tmod 2 = ((ee % 2 : Nat) : Int) := nmod _ 2
        have hlt : ee / 2 < ee := by omega
        have hz : Hid (wrap64 ((ee / 2 : Nat) : Int) = ((ee / 2 : Nat) : Int)) := by show _ = _; unfold wrap64; omega
        by_cases ho : ee % 2 = 1
        · have H5 : Hid (bb * bb % 12289 < 12289 ∧ rr * bb % 12289 < 12289 ∧ ee / 2 ≤ 1099511627776 ∧ ee / 2 < 2 ^ n ∧ pwF n (rr * bb % 12289) (bb * bb % 12289) (ee / 2) = V) := ⟨m1, m2, by omega, h4', (pwF_odd n rr bb ee h0 ho).symm.trans h5⟩
          clear h5 h4 h4' hh h3 h1 h2 m1 m2 hbb hrb
          rw [ho] at t4
          generalize bb * bb % 12289 = Y1 at *
          generalize rr * bb % 12289 = Y2 at *
          generalize bb * bb = X1 at *
          generalize rr * bb = X2 at *
          generalize ee / 2 = Z at *
          clear ho
          go_wp2_with fail
          refine (t2 _).mono ?_
          rintro e w3 ⟨rfl, rfl⟩
          go_wp2_with fail
          refine (t1 _).mono ?_
          rintro e w3 ⟨rfl, rfl⟩
          go_wp2_with fail
          rw [hz.out]
          exact ⟨⟨n, Y1, Z, Y2, rfl, rfl, rfl, H5⟩, by simp [intOf]; omega⟩
        · have H5 : Hid (bb * bb % 12289 < 12289 ∧ rr < 12289 ∧ ee / 2 ≤ 1099511627776 ∧ ee / 2 < 2 ^ n ∧ pwF n rr (bb * bb % 12289) (ee / 2) = V) := ⟨m1, h2, by omega, h4', (pwF_even n rr bb ee h0 ho).symm.trans h5⟩
          clear h5 h4 h4' hh h3 h1 h2 m1 m2 hbb hrb w2 t2
          have ho' : ee % 2 = 0 := by omega
          rw [ho'] at t4
          generalize bb * bb % 12289 = Y1 at *
          generalize bb * bb = X1 at *
          generalize ee / 2 = Z at *
          clear ho ho'
          go_wp2_with fail
          refine (t1 _).mono ?_
          rintro e w3 ⟨rfl, rfl⟩
          go_wp2_with fail
          rw [hz.out]
          exact ⟨⟨n, Y1, Z, rr, rfl, rfl, rfl, H5⟩, by simp [intOf]; omega⟩

theorem implPower_any (b e : Int) (w : World) : Calls Try.prog 33 #[.int .i64 b, .int .i64 e] w fun o w' => o = .returned (.int .i64 (powB b e)) ∧ w' = w := by
  unfold powB
  cases hin : inB e 0 1099511627776
  · have cw := within_any e 0 1099511627776
    rw [hin] at cw
    clear hin
    go_enter Try.func33, Try.ntmps33
    go_wp2_with fail
    refine (cw _).mono ?_
    rintro e w1 ⟨rfl, rfl⟩
    go_wp2_with fail
    go_ret
    exact ⟨rfl, rfl⟩
  · obtain ⟨k, rfl, hk⟩ : ∃ k : Nat, e = (k : Int) ∧ k ≤ 1099511627776 := by
      unfold inB at hin
      simp at hin
      exact ⟨e.toNat, by omega, by omega⟩
    rw [if_pos rfl]
    exact implPower_yes b k hk w

end Go.Proofs.Ytpeocbhnnpppjaa

/- Thresholds: the law's own comparison. -/
import Derived.Test.YtionmmmmmjjciaaThi
namespace Go.Proofs.Ytionmmmmmjjciaa
open Go.RowKit Go.Lib

theorem dn2 {w : World} {n a b : Nat} : ∃ k, ((w.drewN n).drewN a).drewN b = w.drewN k := ⟨n + a + b, by simp [Nat.add_assoc]⟩

set_option maxRecDepth 100000 in
set_option maxHeartbeats 2000000 in
theorem above_any (a b c d : Int) (ha : 0 ≤ a ∧ a ≤ 4611686018427387904) (hb : 0 < b ∧ b ≤ 4611686018427387904) (hc : 0 ≤ c ∧ c ≤ 4611686018427387904) (hd : 0 < d ∧ d ≤ 4611686018427387904) (w : World) :
    Calls Try.prog 7 #[.int .i64 a, .int .i64 b, .int .i64 c, .int .i64 d] w fun e w' => e = .returned (.bool (decide (aboF a b c d))) ∧ ∃ n, w' = w.drewN n := by
  go_enter Try.func7, Try.ntmps7
  go_wp2_with fail
  go_loopw [0, 1, 2, 3] (fun va vb vc vd wr => ∃ (A B C D : Int), va = .int .i64 A ∧ vb = .int .i64 B ∧ vc = .int .i64 C ∧ vd = .int .i64 D ∧ (0 ≤ A ∧ A ≤ 4611686018427387904) ∧ (0 < B ∧ B ≤ 4611686018427387904) ∧ (0 ≤ C ∧ C ≤ 4611686018427387904) ∧ (0 < D ∧ D ≤ 4611686018427387904) ∧ decide (aboF a b c d) = decide (aboF A B C D) ∧ ∃ n, wr = w.drewN n) (fun _ vb _ vd _ => (intOf vb + intOf vd).toNat)
  case atStart => exact ⟨a, b, c, d, rfl, rfl, rfl, rfl, ha, hb, hc, hd, rfl, 0, rfl⟩
  case round =>
    obtain ⟨A, B, C, D, rfl, rfl, rfl, rfl, hA, hB, hC, hD, he, n, rfl⟩ := hrel
    have HE := hide he
    clear ha hb hc hd he
    have e1 : A.tdiv B = A / B := Int.tdiv_eq_ediv_of_nonneg hA.1
    have e2 : C.tdiv D = C / D := Int.tdiv_eq_ediv_of_nonneg hC.1
    have e3 : A.tmod B = A % B := Int.tmod_eq_emod_of_nonneg hA.1
    have e4 : C.tmod D = C % D := Int.tmod_eq_emod_of_nonneg hC.1
    have p0 : 0 ≤ A / B := Int.ediv_nonneg hA.1 (by omega)
    have p1 : A / B ≤ A := Int.ediv_le_self B hA.1
    have q0 : 0 ≤ C / D := Int.ediv_nonneg hC.1 (by omega)
    have q1 : C / D ≤ C := Int.ediv_le_self D hC.1
    have r0 : 0 ≤ A % B := Int.emod_nonneg _ (by omega)
    have r1 : A % B < B := Int.emod_lt_of_pos _ hB.1
    have s0 : 0 ≤ C % D := Int.emod_nonneg _ (by omega)
    have s1 : C % D < D := Int.emod_lt_of_pos _ hD.1
    have hB0 : B ≠ 0 := by omega
    have hD0 : D ≠ 0 := by omega
    have HG : Hid (C / D < A / B → aboF A B C D) := abo_gt hB.1 hD.1
    have HL : Hid (A / B < C / D → ¬ aboF A B C D) := abo_lt hB.1 hD.1
    have HT : Hid (A / B = C / D → (aboF A B C D ↔ aboF D (C % D) B (A % B))) := abo_step
    have w1 : IntKind.i64.wrap (A / B) = A / B := by rw [IntKind.wrap_i64]; omega
    have w2 : IntKind.i64.wrap (C / D) = C / D := by rw [IntKind.wrap_i64]; omega
    obtain ⟨P, hP⟩ : ∃ P, A / B = P := ⟨_, rfl⟩
    obtain ⟨Q, hQ⟩ : ∃ Q, C / D = Q := ⟨_, rfl⟩
    obtain ⟨R, hR⟩ : ∃ R, A % B = R := ⟨_, rfl⟩
    obtain ⟨S, hS⟩ : ∃ S, C % D = S := ⟨_, rfl⟩
    rw [hP] at e1 p0 p1 HG HL HT w1
    rw [hQ] at e2 q0 q1 HG HL HT w2
    rw [hR] at e3 r0 r1 HT
    rw [hS] at e4 s0 s1 HT
    clear hP hQ hR hS
    by_cases hpq : P = Q
    case neg =>
      have HV : Hid (decide (aboF a b c d) = decide (Q < P)) := by
        show decide _ = _
        rw [HE.out]
        by_cases hgt : Q < P
        · simp [hgt, HG.out hgt]
        · simp [hgt, HL.out (by omega)]
      have tn : (P != Q) = true := by simp [hpq]
      clear HE HG HL HT
      go_wp2_with fail
      go_quiet (fail)
      go_wp2_with fail
      go_quiet (fail)
      go_wp2_with fail
      go_ret
      exact ⟨by rw [HV.out]; rfl, dn2⟩
    subst hpq
    have HI : Hid (decide (aboF a b c d) = decide (aboF D S B R)) := by
      show decide _ = _
      rw [HE.out]
      congr 1
      exact propext (HT.out rfl)
    clear HE HG HL HT
    have tn : (P != P) = false := by simp
    by_cases hR : R = 0
    · subst hR
      have HV : Hid (decide (aboF a b c d) = false) := by
        show decide _ = _
        rw [HI.out]
        have : ¬ aboF D S B 0 := by
          unfold aboF
          have := Int.mul_nonneg (Int.le_of_lt hB.1) s0
          omega
        simp [this]
      clear HI
      go_wp2_with fail
      go_quiet (fail)
      go_wp2_with fail
      go_ret
      exact ⟨by rw [HV.out]; rfl, _, rfl⟩
    by_cases hS : S = 0
    · subst hS
      have HV : Hid (decide (aboF a b c d) = true) := by
        show decide _ = _
        rw [HI.out]
        have : aboF D 0 B R := by
          unfold aboF
          have := Int.mul_pos hD.1 (show 0 < R by omega)
          omega
        simp [this]
      have t2 : (R == 0) = false := by simp [hR]
      have t5 : (R != 0) = true := by simp [hR]
      clear HI
      go_wp2_with fail
      go_quiet (fail)
      go_wp2_with fail
      go_ret
      exact ⟨by rw [HV.out]; rfl, _, rfl⟩
    have t2 : (R == 0) = false := by simp [hR]
    have t3 : (S == 0) = false := by simp [hS]
    go_wp2_with fail
    go_quiet (fail)
    go_wp2_with fail
    exact ⟨⟨D, S, B, R, rfl, rfl, rfl, rfl, by omega, by omega, by omega, by omega, HI.out, _, rfl⟩, by simp [intOf]; omega⟩


end Go.Proofs.Ytionmmmmmjjciaa

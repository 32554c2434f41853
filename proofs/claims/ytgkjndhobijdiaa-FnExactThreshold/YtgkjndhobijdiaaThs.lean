/- Thresholds: the specification. -/
import Derived.Test.YtgkjndhobijdiaaThi
namespace Go.Proofs.Ytgkjndhobijdiaa
open Go.RowKit Go.Lib

set_option maxRecDepth 100000 in
set_option maxHeartbeats 2000000 in
theorem l9Above_any (a b c d : Int) (ha : 0 ≤ a ∧ a ≤ 4611686018427387904) (hb : 0 < b ∧ b ≤ 4611686018427387904) (hc : 0 ≤ c ∧ c ≤ 4611686018427387904) (hd : 0 < d ∧ d ≤ 4611686018427387904) (w : World) :
    Calls Try.prog 108 #[.int .i64 a, .int .i64 b, .int .i64 c, .int .i64 d] w fun e w' => e = .returned (.bool (decide (aboF a b c d))) ∧ w' = w := by
  go_enter Try.func108, Try.ntmps108
  go_wp2_with fail
  go_loop [0, 1, 2, 3] (fun va vb vc vd => ∃ A B C D : Int, va = .int .i64 A ∧ vb = .int .i64 B ∧ vc = .int .i64 C ∧ vd = .int .i64 D ∧ (0 ≤ A ∧ A ≤ 4611686018427387904) ∧ (0 < B ∧ B ≤ 4611686018427387904) ∧ (0 ≤ C ∧ C ≤ 4611686018427387904) ∧ (0 < D ∧ D ≤ 4611686018427387904) ∧ decide (aboF a b c d) = decide (aboF A B C D)) (fun _ vb _ vd => (intOf vb + intOf vd).toNat)
  case atStart => exact ⟨a, b, c, d, rfl, rfl, rfl, rfl, ha, hb, hc, hd, rfl⟩
  case round =>
    obtain ⟨A, B, C, D, rfl, rfl, rfl, rfl, hA, hB, hC, hD, he⟩ := hrel
    have HE := hide he
    clear ha hb hc hd he
    have e1 : A.tdiv B = A / B := Int.tdiv_eq_ediv_of_nonneg hA.1
    have e2 : C.tdiv D = C / D := Int.tdiv_eq_ediv_of_nonneg hC.1
    have e3 : A.tmod B = A % B := Int.tmod_eq_emod_of_nonneg hA.1
    have e4 : C.tmod D = C % D := Int.tmod_eq_emod_of_nonneg hC.1
    have p0 : 0 ≤ A / B := Int.ediv_nonneg hA.1 (by omega)
    have p1 : A / B ≤ A := Int.ediv_le_self B hA.1
    have q0 : 0 ≤ C / D := Int.ediv_nonneg hC.1 (by omega)
    have q1 : C / D ≤ C := Int.ediv_le_self D hC.1
    have r0 : 0 ≤ A % B := Int.emod_nonneg _ (by omega)
    have r1 : A % B < B := Int.emod_lt_of_pos _ hB.1
    have s0 : 0 ≤ C % D := Int.emod_nonneg _ (by omega)
    have s1 : C % D < D := Int.emod_lt_of_pos _ hD.1
    have hB0 : B ≠ 0 := by omega
    have hD0 : D ≠ 0 := by omega
    have HG : Hid (C / D < A / B → aboF A B C D) := abo_gt hB.1 hD.1
    have HL : Hid (A / B < C / D → ¬ aboF A B C D) := abo_lt hB.1 hD.1
    have HT : Hid (A / B = C / D → (aboF A B C D ↔ aboF D (C % D) B (A % B))) := abo_step
    have w1 : IntKind.i64.wrap (A / B) = A / B := by rw [IntKind.wrap_i64]; omega
    have w2 : IntKind.i64.wrap (C / D) = C / D := by rw [IntKind.wrap_i64]; omega
    obtain ⟨P, hP⟩ : ∃ P, A / B = P := ⟨_, rfl⟩
    obtain ⟨Q, hQ⟩ : ∃ Q, C / D = Q := ⟨_, rfl⟩
    obtain ⟨R, hR⟩ : ∃ R, A % B = R := ⟨_, rfl⟩
    obtain ⟨S, hS⟩ : ∃ S, C % D = S := ⟨_, rfl⟩
    rw [hP] at e1 p0 p1 HG HL HT w1
    rw [hQ] at e2 q0 q1 HG HL HT w2
    rw [hR] at e3 r0 r1 HT
    rw [hS] at e4 s0 s1 HT
    clear hP hQ hR hS
    by_cases hpq : P = Q
    case neg =>
      have HV : Hid (decide (aboF a b c d) = decide (Q < P)) := by
        show decide _ = _
        rw [HE.out]
        by_cases hgt : Q < P
        · simp [hgt, HG.out hgt]
        · simp [hgt, HL.out (by omega)]
      have tn : (P != Q) = true := by simp [hpq]
      clear HE HG HL HT
      go_wp2_with fail
      go_ret
      exact ⟨by rw [HV.out]; rfl, rfl⟩
    subst hpq
    have HI : Hid (decide (aboF a b c d) = decide (aboF D S B R)) := by
      show decide _ = _
      rw [HE.out]
      congr 1
      exact propext (HT.out rfl)
    clear HE HG HL HT
    have tn : (P != P) = false := by simp
    by_cases hR : R = 0
    · subst hR
      have HV : Hid (decide (aboF a b c d) = false) := by
        show decide _ = _
        rw [HI.out]
        have : ¬ aboF D S B 0 := by
          unfold aboF
          have := Int.mul_nonneg (Int.le_of_lt hB.1) s0
          omega
        simp [this]
      clear HI
      go_wp2_with fail
      go_ret
      exact ⟨by rw [HV.out]; rfl, rfl⟩
    by_cases hS : S = 0
    · subst hS
      have HV : Hid (decide (aboF a b c d) = true) := by
        show decide _ = _
        rw [HI.out]
        have : aboF D 0 B R := by
          unfold aboF
          have := Int.mul_pos hD.1 (show 0 < R by omega)
          omega
        simp [this]
      have t2 : (R == 0) = false := by simp [hR]
      clear HI
      go_wp2_with fail
      go_ret
      exact ⟨by rw [HV.out]; rfl, rfl⟩
    have t2 : (R == 0) = false := by simp [hR]
    have t3 : (S == 0) = false := by simp [hS]
    go_wp2_with fail
    exact ⟨⟨D, S, B, R, rfl, rfl, rfl, rfl, by omega, by omega, by omega, by omega, HI.out⟩, by simp [intOf]; omega⟩

set_option maxRecDepth 100000 in
set_option maxHeartbeats 4000000 in
theorem specThreshold_any (a : Option Addr) (n cap : Nat) (f : Nat → Int) (hl : n ≤ 1048576) (w : World) (h : Px a n f w) :
    Calls Try.prog 45 #[.slice a n cap] w fun e w' => e = .returned (.tuple #[.int .i64 (thrI n f), .bool (thrF n f)]) ∧ Below w.heap.size w w' := by
  have HP := hide h
  clear h
  by_cases hn : n = 256
  case neg =>
    have HF : Hid (thrI n f = 0 ∧ thrF n f = false) := by
      have : hisB n f = false := by unfold hisB; simp [hn]
      unfold thrI thrF
      rw [this]
      exact ⟨rfl, rfl⟩
    have hn' : ¬ (n : Int) = 256 := by omega
    have hn2 : ((n : Int) != 256) = true := by simp [hn']
    go_enter Try.func45, Try.ntmps45
    go_wp2_with fail
    exact bodyPost_ret (v := .tuple #[.int .i64 0, .bool false]) (by simp [results, Try.results45, go_sem]) rfl ⟨by rw [HF.out.1, HF.out.2], Below.refl _ _⟩
  subst hn
  go_enter Try.func45, Try.ntmps45
  go_wp2_with fail
  go_loop [4, 5, 6] (fun x y i => ∃ k : Nat, k ≤ 256 ∧ i = .int .i64 k ∧ x = .int .i64 (sm f k) ∧ y = .int .i64 (sto f k) ∧ alW f 0 4096 k = true) (fun _ _ i => 256 - (intOf i).toNat)
  case atStart => exact ⟨0, by omega, rfl, rfl, rfl, rfl⟩
  case round =>
    obtain ⟨k, hk, rfl, rfl, rfl, hal⟩ := hrel
    have hat : ∀ j, j < k → 0 ≤ f j ∧ f j ≤ 4096 := fun j hj => by
      have := alW_at hal hj
      unfold inB at this
      simp at this
      omega
    by_cases hlt : k < 256
    · obtain ⟨b, off, rfl, hz⟩ := HP.out.at hlt
      have c := fun w' => l1In_any (f k) 0 4096 w'
      cases hq : inB (f k) 0 4096
      · have HF : Hid (thrI 256 f = 0 ∧ thrF 256 f = false) := by
          have : hisB 256 f = false := by unfold hisB; rw [alW_false hlt hq]; simp
          unfold thrI thrF
          rw [this]
          exact ⟨rfl, rfl⟩
        rw [hq] at c
        clear hq hal hat HP
        generalize sm f k = X at *
        generalize sto f k = Y at *
        generalize f k = v at *
        go_wp2_with fail
        refine (c _).mono ?_
        rintro e w1 ⟨rfl, rfl⟩
        go_wp2_with fail
        exact bodyPost_ret (v := .tuple #[.int .i64 0, .bool false]) (by simp [results, Try.results45, go_sem]) rfl ⟨by rw [HF.out.1, HF.out.2], Below.refl _ _⟩
      · have HA : Hid (alW f 0 4096 (k + 1) = true) := alW_step hal hq
        have bf : 0 ≤ f k ∧ f k ≤ 4096 := by
          unfold inB at hq
          simp at hq
          omega
        have bm := sm_le hat k (Nat.le_refl _)
        have bm2 := sto_le hat hk k (Nat.le_refl _)
        have bt := tone_le bf hlt
        have HX : Hid (sm f (k + 1) = sm f k + f k) := rfl
        have HY : Hid (sto f (k + 1) = sto f k + (k : Int) * f k) := rfl
        rw [hq] at c
        clear hq hal hat HP
        generalize sm f k = X at *
        generalize sto f k = Y at *
        generalize f k = v at *
        obtain ⟨T, hT⟩ : ∃ T, T = (k : Int) * v := ⟨_, rfl⟩
        rw [← hT] at HY bt
        have wT : IntKind.i64.wrap ((k : Int) * v) = T := by rw [← hT, IntKind.wrap_i64]; omega
        obtain ⟨X', hX'⟩ : ∃ X', X' = X + v := ⟨_, rfl⟩
        obtain ⟨Y', hY'⟩ : ∃ Y', Y' = Y + T := ⟨_, rfl⟩
        have wX : IntKind.i64.wrap (X + v) = X' := by rw [← hX', IntKind.wrap_i64]; omega
        have wY : IntKind.i64.wrap (Y + T) = Y' := by rw [← hY', IntKind.wrap_i64]; omega
        rw [← hX'] at HX
        rw [← hY'] at HY
        clear hT hX' hY'
        go_wp2_with fail
        refine (c _).mono ?_
        rintro e w1 ⟨rfl, rfl⟩
        go_wp2_with fail
        exact ⟨⟨k + 1, by omega, rfl, by rw [HX.out], by rw [HY.out], HA.out⟩, by simp [intOf]; omega⟩
    · obtain rfl : k = 256 := by omega
      by_cases hbig : 4096 < sm f 256
      · have HF : Hid (thrI 256 f = 0 ∧ thrF 256 f = false) := by
          have : hisB 256 f = false := by unfold hisB; simp [hbig]
          unfold thrI thrF
          rw [this]
          exact ⟨rfl, rfl⟩
        clear hal hat HP
        generalize sm f 256 = X at *
        generalize sto f 256 = Y at *
        go_wp2_with fail
        exact bodyPost_ret (v := .tuple #[.int .i64 0, .bool false]) (by simp [results, Try.results45, go_sem]) rfl ⟨by rw [HF.out.1, HF.out.2], Below.refl _ _⟩
      have HH : Hid (His f) := ⟨hat, by omega⟩
      have HQ : Hid (hisB 256 f = true) := by show hisB 256 f = true; unfold hisB; rw [hal]; simp; omega
      have bN := sm_le hat 256 (Nat.le_refl _)
      have bS := sto_le hat (by omega) 256 (Nat.le_refl _)
      clear hal hat
      obtain ⟨Nn, hN⟩ : ∃ Nn, sm f 256 = Nn := ⟨_, rfl⟩
      obtain ⟨Ss, hS⟩ : ∃ Ss, sto f 256 = Ss := ⟨_, rfl⟩
      rw [hN] at hbig bN ⊢
      rw [hS] at bS ⊢
      have HNn := hide hN
      have HSs := hide hS
      clear hN hS
      go_wp2_with fail
      go_loop [7, 8, 9, 10, 11, 12] (fun vb vt vl v0 v1 i => ∃ k : Nat, k ≤ 255 ∧ i = .int .i64 k ∧ vb = .int .i64 (thr f k).best ∧ vt = .int .i64 (thr f k).top ∧ vl = .int .i64 (thr f k).low ∧ v0 = .int .i64 (sm f k) ∧ v1 = .int .i64 (sto f k)) (fun _ _ _ _ _ i => 255 - (intOf i).toNat)
      case atStart => exact ⟨0, by omega, rfl, rfl, rfl, rfl, rfl, rfl⟩
      case round =>
        obtain ⟨k, hk, rfl, rfl, rfl, rfl, rfl, rfl⟩ := hrel
        by_cases hlt2 : k < 255
        · obtain ⟨b, off, rfl, hz⟩ := HP.out.at (k := k) (by omega)
          have bf := HH.out.at' k (by omega)
          have bm := sm_le HH.out.at' k (by omega)
          have bm2 := sto_le HH.out.at' (by omega) k (by omega)
          have bt := tone_le bf (by omega)
          obtain ⟨ba, bb, bc, bd, be⟩ := HH.out.bounds hlt2
          obtain ⟨ma, mb, mc, md, me⟩ := HH.out.more hlt2
          have ok := thr_ok HH.out k hk
          have hX : sm f k + f k = nlo f k := rfl
          have hY : sto f k + (k : Int) * f k = slo f k := rfl
          have h1 : Nn - nlo f k = nhi f k := by rw [← HNn.out]; rfl
          have h2 : Ss - slo f k = shi f k := by rw [← HSs.out]; rfl
          obtain ⟨T0, hT⟩ : ∃ T, T = (k : Int) * f k := ⟨_, rfl⟩
          rw [← hT] at hY bt
          have wT : IntKind.i64.wrap ((k : Int) * f k) = T0 := by rw [← hT, IntKind.wrap_i64]; omega
          have wX : IntKind.i64.wrap (sm f k + f k) = nlo f k := by rw [IntKind.wrap_i64]; omega
          have wY : IntKind.i64.wrap (sto f k + T0) = slo f k := by rw [IntKind.wrap_i64]; omega
          have w1 : IntKind.i64.wrap (Nn - nlo f k) = nhi f k := by rw [IntKind.wrap_i64]; omega
          have w2 : IntKind.i64.wrap (Ss - slo f k) = shi f k := by rw [IntKind.wrap_i64]; omega
          obtain ⟨A, hA⟩ : ∃ A, A = slo f k * nhi f k := ⟨_, rfl⟩
          obtain ⟨B, hB⟩ : ∃ B, B = shi f k * nlo f k := ⟨_, rfl⟩
          have wA : IntKind.i64.wrap (slo f k * nhi f k) = A := by rw [IntKind.wrap_i64, hA]; omega
          have wB : IntKind.i64.wrap (shi f k * nlo f k) = B := by rw [IntKind.wrap_i64, hB]; omega
          have hC : A - B = apt f k := by rw [hA, hB]; rfl
          have wC : IntKind.i64.wrap (A - B) = apt f k := by rw [hC, IntKind.wrap_i64]; omega
          have wW : IntKind.i64.wrap (apt f k * apt f k) = tpw f k := by show IntKind.i64.wrap (tpw f k) = _; rw [IntKind.wrap_i64]; omega
          have wD : IntKind.i64.wrap (nlo f k * nhi f k) = lwt f k := by show IntKind.i64.wrap (lwt f k) = _; rw [IntKind.wrap_i64]; omega
          have HXn : Hid (sm f (k + 1) = nlo f k) := rfl
          have HYn : Hid (sto f (k + 1) = slo f k) := rfl
          by_cases hg : goodT f k
          case neg =>
            have HN : Hid ((thr f (k + 1)).best = (thr f k).best ∧ (thr f (k + 1)).top = (thr f k).top ∧ (thr f (k + 1)).low = (thr f k).low) := by rw [thr_skip hg]; exact ⟨rfl, rfl, rfl⟩
            have hor : nlo f k = 0 ∨ nlo f k = Nn := by unfold goodT at hg; omega
            clear ma mb mc md me ba bb bc bd be hg ok hX hY h1 h2 hT hA hB hC wA wB wC wW wD w1 w2 HP HH HQ
            generalize (thr f k).best = x0 at *
            generalize (thr f k).top = x1 at *
            generalize (thr f k).low = x2 at *
            generalize nlo f k = n0 at *
            generalize slo f k = s0 at *
            generalize sm f k = X at *
            generalize sto f k = Y at *
            generalize f k = v at *
            by_cases h0 : n0 = 0
            · subst h0
              clear hor
              go_wp2_with fail
              refine ⟨⟨k + 1, by omega, rfl, ?_, ?_, ?_, ?_, ?_⟩, by simp [intOf]; omega⟩
              all_goals first | (rw [HN.out.1]; done) | (rw [HN.out.2.1]; done) | (rw [HN.out.2.2]; done) | (rw [HXn.out]; done) | (rw [HYn.out]; done)
            · obtain rfl : n0 = Nn := by omega
              clear hor
              have t0 : (n0 == 0) = false := by simp [h0]
              go_wp2_with fail
              refine ⟨⟨k + 1, by omega, rfl, ?_, ?_, ?_, ?_, ?_⟩, by simp [intOf]; omega⟩
              all_goals first | (rw [HN.out.1]; done) | (rw [HN.out.2.1]; done) | (rw [HN.out.2.2]; done) | (rw [HXn.out]; done) | (rw [HYn.out]; done)
          have lp := lwt_pos HH.out hlt2 hg
          have g0 : ¬ nlo f k = 0 := hg.1
          have g1 : ¬ nlo f k = Nn := fun e => hg.2 (by omega)
          have t0 : (nlo f k == 0) = false := by simp [g0]
          have t1 : (nlo f k == Nn) = false := by simp [g1]
          have HT : Hid ((thr f k).best < 0 ∨ aboF (tpw f k) (lwt f k) (thr f k).top (thr f k).low → thr f (k + 1) = ⟨k, tpw f k, lwt f k⟩) := thr_take hg
          have HKp : Hid (¬ (thr f k).best < 0 → ¬ aboF (tpw f k) (lwt f k) (thr f k).top (thr f k).low → thr f (k + 1) = thr f k) := thr_keep
          have cA := fun w' => l9Above_any (tpw f k) (lwt f k) (thr f k).top (thr f k).low (by omega) (by omega) (by omega) (by omega) w'
          clear ma mb mc md me ba bb bc bd be hg ok hX hY h1 h2 hT hA hB hC HP HH HQ lp
          by_cases hbest : (thr f k).best < 0
          · have HN := hide (HT.out (.inl hbest))
            clear HT HKp cA
            generalize (thr f k).best = x0 at *
            generalize (thr f k).top = x1 at *
            generalize (thr f k).low = x2 at *
            generalize nlo f k = n0 at *
            generalize slo f k = s0 at *
            generalize nhi f k = n1 at *
            generalize shi f k = s1 at *
            generalize tpw f k = T at *
            generalize lwt f k = D at *
            generalize apt f k = C at *
            generalize sm f k = X at *
            generalize sto f k = Y at *
            generalize f k = v at *
            go_wp2_with fail
            refine ⟨⟨k + 1, by omega, rfl, ?_, ?_, ?_, ?_, ?_⟩, by simp [intOf]; omega⟩
            all_goals first | (rw [HN.out]; done) | (rw [HXn.out]; done) | (rw [HYn.out]; done)
          by_cases hmore : aboF (tpw f k) (lwt f k) (thr f k).top (thr f k).low
          · have HN := hide (HT.out (.inr hmore))
            rw [decide_eq_true hmore] at cA
            clear HT HKp hmore
            generalize (thr f k).best = x0 at *
            generalize (thr f k).top = x1 at *
            generalize (thr f k).low = x2 at *
            generalize nlo f k = n0 at *
            generalize slo f k = s0 at *
            generalize nhi f k = n1 at *
            generalize shi f k = s1 at *
            generalize tpw f k = T at *
            generalize lwt f k = D at *
            generalize apt f k = C at *
            generalize sm f k = X at *
            generalize sto f k = Y at *
            generalize f k = v at *
            go_wp2_with fail
            refine (cA _).mono ?_
            rintro e w1 ⟨rfl, rfl⟩
            go_wp2_with fail
            refine ⟨⟨k + 1, by omega, rfl, ?_, ?_, ?_, ?_, ?_⟩, by simp [intOf]; omega⟩
            all_goals first | (rw [HN.out]; done) | (rw [HXn.out]; done) | (rw [HYn.out]; done)
          · have HN : Hid ((thr f (k + 1)).best = (thr f k).best ∧ (thr f (k + 1)).top = (thr f k).top ∧ (thr f (k + 1)).low = (thr f k).low) := by rw [HKp.out hbest hmore]; exact ⟨rfl, rfl, rfl⟩
            rw [decide_eq_false hmore] at cA
            clear HT HKp hmore
            generalize (thr f k).best = x0 at *
            generalize (thr f k).top = x1 at *
            generalize (thr f k).low = x2 at *
            generalize nlo f k = n0 at *
            generalize slo f k = s0 at *
            generalize nhi f k = n1 at *
            generalize shi f k = s1 at *
            generalize tpw f k = T at *
            generalize lwt f k = D at *
            generalize apt f k = C at *
            generalize sm f k = X at *
            generalize sto f k = Y at *
            generalize f k = v at *
            go_wp2_with fail
            refine (cA _).mono ?_
            rintro e w1 ⟨rfl, rfl⟩
            go_wp2_with fail
            refine ⟨⟨k + 1, by omega, rfl, ?_, ?_, ?_, ?_, ?_⟩, by simp [intOf]; omega⟩
            all_goals first | (rw [HN.out.1]; done) | (rw [HN.out.2.1]; done) | (rw [HN.out.2.2]; done) | (rw [HXn.out]; done) | (rw [HYn.out]; done)
        · obtain rfl : k = 255 := by omega
          by_cases hbest : (thr f 255).best < 0
          · have HF : Hid (thrI 256 f = 0 ∧ thrF 256 f = false) := by
              unfold thrI thrF bI fI
              rw [if_pos HQ.out, if_pos HQ.out, if_pos hbest]
              exact ⟨rfl, by simp [hbest]⟩
            generalize (thr f 255).best = x0 at *
            go_wp2_with fail
            exact bodyPost_ret (v := .tuple #[.int .i64 0, .bool false]) (by simp [results, Try.results45, go_sem]) rfl ⟨by rw [HF.out.1, HF.out.2], Below.refl _ _⟩
          · have HF : Hid (thrI 256 f = (thr f 255).best ∧ thrF 256 f = true) := by
              unfold thrI thrF bI fI
              rw [if_pos HQ.out, if_pos HQ.out, if_neg hbest]
              exact ⟨rfl, by simp [hbest]⟩
            generalize (thr f 255).best = x0 at *
            go_wp2_with fail
            exact bodyPost_ret (v := .tuple #[.int .i64 x0, .bool true]) (by simp [results, Try.results45, go_sem]) rfl ⟨by rw [HF.out.1, HF.out.2], Below.refl _ _⟩

end Go.Proofs.Ytgkjndhobijdiaa

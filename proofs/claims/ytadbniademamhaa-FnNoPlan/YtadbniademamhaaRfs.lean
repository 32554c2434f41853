/- Refutes: the specification. -/
import Derived.Test.YtadbniademamhaaRfi
namespace Go.Proofs.Ytadbniademamhaa
open Go.RowKit

set_option maxRecDepth 100000 in
set_option maxHeartbeats 16000000 in
theorem specRefutes_any (a : Option Addr) (m cap : Nat) (ad : Nat → Option Addr) (ln cp : Nat → Nat) (F : Nat → Nat → Int) (Bv : Nat → Int) (hm : m ≤ 1048576) (hl : ∀ i, i < m → ln i ≤ 1048576) (a' : Option Addr) (n cap' : Nat) (x : Nat → Int) (hn : n ≤ 1048576) (w : World) (h : PxB a m ad ln cp F Bv w) (h' : Px a' n x w) :
    Calls Try.prog 6 #[.slice a m cap, .slice a' n cap'] w fun e w' => e = .returned (.bool (refB m ln F Bv n x)) ∧ Below w.heap.size w w' := by
  have c0 := l11Bounds_any a m cap ad ln cp F Bv hm hl w h
  have HP := hide h
  have HP' := hide h'
  clear h h'
  unfold refB
  cases hq : bdB m ln F Bv
  · rw [hq] at c0
    rw [Bool.false_and]
    clear hq HP HP'
    go_enter Try.func6, Try.ntmps6
    go_wp2_with fail
    refine c0.mono ?_
    rintro e w1 ⟨rfl, d, rfl⟩
    go_wp2_with fail
    go_ret
    exact ⟨rfl, below_drewN (Below.refl _ _) d⟩
  rw [hq] at c0
  rw [Bool.true_and]
  obtain ⟨hm1, hm2, hn1, hn2, hB⟩ := bdB_parts hq
  have HBd := hide hB
  obtain ⟨b, off, rfl, -, -⟩ := HP.out.at (show 0 < m by omega)
  have hm8 : 0 < m := by omega
  have hm9 : (0 : Int) < (m : Int) := by omega
  clear hq hB
  by_cases q1 : ¬ n = m
  · have q1' : ((n : Int) != (m : Int)) = true := by
      have : ¬ (n : Int) = (m : Int) := by omega
      simp [this]
    rw [decide_eq_false q1, Bool.false_and]
    clear q1 HP' HP
    go_enter Try.func6, Try.ntmps6
    go_wp2_with fail
    refine c0.mono ?_
    rintro e w1 ⟨rfl, d, rfl⟩
    go_wp2_with fail
    go_ret
    exact ⟨rfl, below_drewN (Below.refl _ _) d⟩
  obtain rfl : n = m := Decidable.not_not.1 q1
  have q1' : ((n : Int) != (n : Int)) = false := by simp
  rw [decide_eq_true rfl, Bool.true_and]
  obtain ⟨L, hL⟩ : ∃ L, ln 0 = L := ⟨_, rfl⟩
  have HL := hide hL
  rw [hL] at hn1 hn2 HBd ⊢
  obtain ⟨r, hr⟩ : ∃ r, (alW x 0 1000 n && (allG (fun q => decide (0 ≤ wsA F x L q n)) L && decide (dotS x Bv n < 0))) = r := ⟨_, rfl⟩
  rw [hr]
  have HR := hide hr
  have hmk := fun w' => make_px L (by omega) w'
  clear hr q1 hL
  go_enter Try.func6, Try.ntmps6
  go_wp2_with fail
  refine c0.mono ?_
  rintro e w1 ⟨rfl, d, hw1⟩
  have hB1 : Below w.heap.size w w1 := by rw [hw1]; exact below_drewN (Below.refl _ _) d
  have y0 := (HP.out.below hB1).at0 rfl hm8
  rw [HL.out] at y0
  have HS2 := hide (((St.start w).next hB1).own (bnew w1 (.cells (madeCells #[.int .i64 0] L) 2)) (row_new L w1).v (.inr (Nat.le_refl _)))
  clear c0 hw1 hB1
  go_wp2_with fail
  clear hmk y0
  generalize w1.heap.size = B at *
  go_loopw [6, 7, 8] (fun s i _ wr => ∃ k : Nat, k ≤ n ∧ i = .int .i64 k ∧ s = .int .i64 (dotS x Bv k) ∧ alW x 0 1000 k = true ∧ St w [] [(some ⟨B, 0, none⟩, B, L, fun q => .int .i64 (wsA F x L q k))] wr) (fun _ i _ _ => n - (intOf i).toNat)
  case atStart =>
    refine ⟨0, by omega, rfl, rfl, rfl, ?_⟩
    rw [show (fun q => Value.int .i64 (wsA F x L q 0)) = fun _ => Value.int .i64 0 from funext fun q => by rw [wsA_0]]
    exact HS2.out
  case round =>
    obtain ⟨k, hk, rfl, rfl, hA, hs⟩ := hrel
    clear HS2
    by_cases hlt : k < n
    · obtain ⟨b2, o2, ha2, x2⟩ := (HP'.out.below hs.below).at hlt
      subst ha2
      have cF := fun w' => l1In_any (x k) 0 1000 w'
      cases q4 : inB (x k) 0 1000
      · have HFb : Hid (r = false) := by show _ = _; rw [← HR.out, alW_false hlt q4]; rfl
        have HB := hide hs.below
        simp only [q4] at cF
        clear q4 hA hs HP HP' HBd HR
        go_wp2_with fail
        refine (cF _).mono ?_
        rintro e w2 ⟨rfl, rfl⟩
        go_wp2_with fail
        go_ret
        exact ⟨by rw [HFb.out]; rfl, HB.out⟩
      have hAn := alW_step hA q4
      have HAn := hide hAn
      have HWF : Hid (∀ i q, i < k + 1 → q < L → -1000000 ≤ x i * F i q ∧ x i * F i q ≤ 1000000) := fun i q hi hq => by
        have h1 := inB_iff.1 (alW_at hAn hi)
        have h2 := (HBd.out i (by omega)).2.1 q hq
        exact wprod_bd h1.1 h1.2 h2.1 h2.2
      have HWB : Hid (∀ i, i < k + 1 → -1000000 ≤ x i * Bv i ∧ x i * Bv i ≤ 1000000) := fun i hi => by
        have h1 := inB_iff.1 (alW_at hAn hi)
        have h2 := (HBd.out i (by omega)).2.2
        exact wprod_bd h1.1 h1.2 h2.1 h2.2
      have e0 := (HBd.out k hlt).1
      have HPk : Hid (∀ w', Below w.heap.size w w' → Px (ad k) L (F k) w') := fun w' hb => by have := (HP.out.2 k hlt).below hb; rw [e0] at this; exact this
      have HZk : Hid (∀ w', Below w.heap.size w w' → w'.cell? ⟨b, off + k * 2, none⟩ = some (.slice (ad k) L (cp k)) ∧ w'.cell? ⟨b, off + k * 2 + 1, none⟩ = some (.int .i64 (Bv k))) := fun w' hb => by
        obtain ⟨b3, o3, e3, h3, h4⟩ := (HP.out.below hb).at hlt
        cases e3
        rw [e0] at h3
        exact ⟨h3, h4⟩
      have HWk : Hid (∀ w', Below w.heap.size w w' → w'.cell? ⟨b2, o2 + k, none⟩ = some (.int .i64 (x k))) := fun w' hb => by
        obtain ⟨b3, o3, e3, h3⟩ := (HP'.out.below hb).at hlt
        cases e3
        exact h3
      have HS3 : Hid (St w [] [(some ⟨B, 0, none⟩, B, L, fun q => .int .i64 (wsM F x L k 0 q))] wr) := by
        rw [show (fun q => Value.int .i64 (wsM F x L k 0 q)) = fun q => Value.int .i64 (wsA F x L q k) from funext fun q => by rw [wsM_0]]
        exact hs
      simp only [q4] at cF
      clear q4 hA hs HP HP' HBd HR e0 hAn
      go_wp2_with fail
      refine (cF _).mono ?_
      rintro e w2 ⟨rfl, rfl⟩
      clear cF x2
      go_wp2_with fail
      go_loopw [8] (fun i wz => ∃ p : Nat, p ≤ L ∧ i = .int .i64 p ∧ St w [] [(some ⟨B, 0, none⟩, B, L, fun q => .int .i64 (wsM F x L k p q))] wz) (fun i _ => L - (intOf i).toNat)
      case atStart => exact ⟨0, by omega, rfl, HS3.out⟩
      case round =>
        clear HS3
        obtain ⟨p, hp, rfl, hs⟩ := hrel
        by_cases hpl : p < L
        · obtain ⟨b1, o1, ha1, x1⟩ := (HPk.out _ hs.below).at hpl
          have x2 := HWk.out _ hs.below
          have z0 := (HZk.out _ hs.below).1
          obtain ⟨d0, f0⟩ := hs.atO (k := p) hpl
          have hb1 := wsA_bd (F := F) (wt := x) (L := L) (q := p) (k + 1) (fun i hi hq => HWF.out i p hi hq)
          have hb2 := HWF.out k p (by omega) hpl
          have hh := wsM_here (F := F) (wt := x) (k := k) hpl
          have HS4 := hide (hs.drew.upd (k := p) hpl (wsA F x L p (k + 1)))
          rw [show (fun q => Value.int .i64 (updN (wsM F x L k p) p (wsA F x L p (k + 1)) q)) = fun q => Value.int .i64 (wsM F x L k (p + 1) q) from funext fun q => by rw [wsM_next]] at HS4
          obtain ⟨P, hP⟩ : ∃ P, x k * F k p = P := ⟨_, rfl⟩
          rw [hP] at hb2 hh
          have w1 : IntKind.i64.wrap (x k * F k p) = P := by rw [hP, IntKind.wrap_i64]; omega
          have w2 : IntKind.i64.wrap (wsM F x L k p p + P) = wsA F x L p (k + 1) := by rw [hh, IntKind.wrap_i64]; omega
          rw [ha1] at z0
          clear hs HPk HWk HWF HWB HZk hb1 hb2 hh hP ha1
          generalize wsM F x L k p p = X at *
          generalize wsA F x L p (k + 1) = Y at *
          generalize F k p = A at *
          generalize x k = C at *
          go_upto_region 13 with fail
          go_region_with (fail)
          all_goals
            clear z0 x1 x2 d0 f0 w1 w2
            go_wp2_with fail
            exact ⟨⟨p + 1, by omega, rfl, HS4.out⟩, by simp [intOf]; omega⟩
        · obtain rfl : p = L := by omega
          have x2 := HWk.out _ hs.below
          have z1 := (HZk.out _ hs.below).2
          have hb1 := dotS_bd (f := x) (x := Bv) (M := 1000000) (by omega) k (fun i hi => HWB.out i (by omega))
          have hb2 := HWB.out k (by omega)
          have HY : Hid (dotS x Bv (k + 1) = dotS x Bv k + x k * Bv k) := rfl
          rw [show (fun q => Value.int .i64 (wsM F x p k p q)) = fun q => Value.int .i64 (wsA F x p q (k + 1)) from funext fun q => by rw [wsM_L]] at hs
          have HS5 := hide (fun d => hs.next (below_drewN (Below.refl _ _) d))
          obtain ⟨P, hP⟩ : ∃ P, x k * Bv k = P := ⟨_, rfl⟩
          rw [hP] at hb2 HY
          have w1 : IntKind.i64.wrap (x k * Bv k) = P := by rw [hP, IntKind.wrap_i64]; omega
          have w2 : IntKind.i64.wrap (dotS x Bv k + P) = dotS x Bv k + P := by rw [IntKind.wrap_i64]; omega
          clear hs HPk HWk HWF HWB HZk hb1 hb2 hP
          generalize dotS x Bv k = X at *
          generalize Bv k = A at *
          generalize x k = C at *
          go_wp2_with fail
          go_quiet (fail)
          go_wp2_with fail
          exact ⟨⟨k + 1, by omega, rfl, by rw [HY.out], HAn.out, HS5.out _⟩, by simp [intOf]; omega⟩
    · obtain rfl : k = n := by omega
      have HB := hide hs.below
      have HAt := hide (fun q hq => (hs.atO (k := q) hq).1)
      have HA := hide hA
      clear hs HP HP' HBd hA
      go_wp2_with fail
      go_loop [9] (fun i => ∃ p : Nat, p ≤ L ∧ i = .int .i64 p ∧ allG (fun q => decide (0 ≤ wsA F x L q k)) p = true) (fun i => L - (intOf i).toNat)
      case atStart => exact ⟨0, by omega, rfl, rfl⟩
      case round =>
        obtain ⟨p, hp, rfl, hG⟩ := hrel
        have HG := hide hG
        clear hG
        by_cases hpl : p < L
        · have d0 := HAt.out p hpl
          have HX : Hid (∀ y, wsA F x L p k = y → ¬ y < 0 → allG (fun q => decide (0 ≤ wsA F x L q k)) (p + 1) = true) := fun y hy h => allG_step HG.out (decide_eq_true (by rw [hy]; omega))
          have HN : Hid (∀ y, wsA F x L p k = y → y < 0 → r = false) := fun y hy h => by
            rw [← HR.out, allG_no (p := fun q => decide (0 ≤ wsA F x L q k)) p hpl (decide_eq_false (by rw [hy]; omega)), Bool.false_and, Bool.and_false]
          obtain ⟨y, hy⟩ : ∃ y, wsA F x L p k = y := ⟨_, rfl⟩
          have hX := HX.out y hy
          have hN := HN.out y hy
          rw [hy] at d0
          clear HAt HG HX HN hy HR HA
          by_cases hy0 : y < 0
          · have HN := hide (hN hy0)
            clear hX hN
            go_wp2_with fail
            go_ret
            exact ⟨by rw [HN.out]; rfl, HB.out⟩
          · have HX := hide (hX hy0)
            clear hX hN
            go_wp2_with fail
            exact ⟨⟨p + 1, by omega, rfl, HX.out⟩, by simp [intOf]; omega⟩
        · obtain rfl : p = L := by omega
          have HE : Hid (decide (dotS x Bv k < 0) = r) := by show _ = _; rw [← HR.out, HA.out, HG.out, Bool.true_and, Bool.true_and]
          clear HAt HG HR HA
          go_wp2_with fail
          go_ret
          exact ⟨by rw [← HE.out]; rfl, HB.out⟩

end Go.Proofs.Ytadbniademamhaa

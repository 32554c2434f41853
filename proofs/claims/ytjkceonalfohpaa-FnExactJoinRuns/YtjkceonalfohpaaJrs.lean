/- JoinRuns: the specification. -/
import Derived.Test.YtjkceonalfohpaaJru
namespace Go.Proofs.Ytjkceonalfohpaa
open Go.RowKit

set_option maxRecDepth 100000 in
theorem l1Max_any (x y : Int) (w : World) : Calls Try.prog 102 #[.int .i64 x, .int .i64 y] w fun e w' => e = .returned (.int .i64 (max x y)) ∧ w' = w := by
  by_cases h : y < x
  · have hm : max x y = x := by omega
    rw [hm]
    go_enter Try.func102, Try.ntmps102
    go_wp2
    go_ret
    exact ⟨rfl, rfl⟩
  · have hm : max x y = y := by omega
    rw [hm]
    go_enter Try.func102, Try.ntmps102
    go_wp2
    go_ret
    exact ⟨rfl, rfl⟩

set_option maxRecDepth 100000 in
set_option maxHeartbeats 4000000 in
theorem specJoinRuns_any (n : Int) (a : Option Addr) (m cap : Nat) (r : Nat → Int) (hl : m ≤ 1048576) (a' : Option Addr) (m' cap' : Nat) (r' : Nat → Int) (hl' : m' ≤ 1048576) (op : Int) (w : World) (h : Px a m r w) (h' : Px a' m' r' w) :
    Calls Try.prog 69 #[.int .i64 n, .slice a m cap, .slice a' m' cap', .int .i64 op] w (LsR (jruN n m r m' r' op) (rval (jruF op m r m' r') n.toNat) w) := by
  have HP := hide h
  have HP' := hide h'
  clear h h'
  obtain ⟨Q, hQ⟩ : ∃ Q, Q = LsR (jruN n m r m' r' op) (rval (jruF op m r m' r') n.toNat) w := ⟨_, rfl⟩
  rw [← hQ]
  have HQn : Hid (jruB n m r m' r' op = false → ∀ aa c w', Below w.heap.size w w' → Q (.returned (.slice aa 0 c)) w') := fun e aa c w' hb => by
    rw [hQ]; unfold jruN; rw [e]; exact ⟨aa, c, 0, rfl, .inl rfl, .inl rfl, hb⟩
  have HQy : Hid (jruB n m r m' r' op = true → Q = LsR (rcnt (jruF op m r m' r') n.toNat) (rval (jruF op m r m' r') n.toNat) w) := fun e => by
    rw [hQ]; unfold jruN; rw [e]; rfl
  clear hQ
  have cO := l1In_any op 1 3
  have cN := l1In_any n 1 4096
  cases hN : inB n 1 4096
  · have HF := hide (HQn.out (by unfold jruB; rw [hN]; simp))
    have HB := hide (bnew w (.cells #[] 2))
    rw [hN] at cN
    clear HQn HQy HP HP' hN cO
    go_enter Try.func69, Try.ntmps69
    go_wp2_with fail
    refine (cN _).mono ?_
    rintro e w ⟨rfl, rfl⟩
    go_wp2_with fail
    exact HF.out _ _ _ HB.out
  cases hO : inB op 1 3
  · have HF := hide (HQn.out (by unfold jruB; rw [hO]; rfl))
    have HB := hide (bnew w (.cells #[] 2))
    rw [hO] at cO
    rw [hN] at cN
    clear HQn HQy HP HP' hO hN
    go_enter Try.func69, Try.ntmps69
    go_wp2_with fail
    refine (cN _).mono ?_
    rintro e w ⟨rfl, rfl⟩
    go_wp2_with fail
    refine (cO _).mono ?_
    rintro e w ⟨rfl, rfl⟩
    go_wp2_with fail
    exact HF.out _ _ _ HB.out
  have ho3 : op = 1 ∨ op = 2 ∨ op = 3 := by unfold inB at hO; simp at hO; omega
  have hn : 1 ≤ n ∧ n ≤ 4096 := by unfold inB at hN; simpa using hN
  have c1 := fun w' h => l7Bits_any n a m cap r hl (by omega) (by omega) w' h
  have c2 := fun w' h => l7Bits_any n a' m' cap' r' hl' (by omega) (by omega) w' h
  unfold BtR at c1 c2
  have hB : jruB n m r m' r' op = (runB n m r && runB n m' r') := by unfold jruB; rw [hO, hN]; rfl
  rw [hB] at HQn HQy
  rw [hO] at cO
  rw [hN] at cN
  clear hB hO hN
  cases hR : (runB n m r && runB n m' r')
  · have HF := hide (HQn.out hR)
    clear HQn HQy ho3 hn
    go_enter Try.func69, Try.ntmps69
    go_wp2_with fail
    refine (cN _).mono ?_
    rintro e w ⟨rfl, rfl⟩
    go_wp2_with fail
    refine (cO _).mono ?_
    rintro e w ⟨rfl, rfl⟩
    clear cO cN
    go_wp2_with fail
    refine (c1 _ HP.out).mono ?_
    rintro e w1 ⟨v1, rfl, hb1, hv1⟩
    have HB1 := hide hb1
    have HP2 := hide (HP'.out.below hb1)
    clear c1 hv1 hb1 HP HP'
    cases hR1 : runB n m r
    · clear hR
      go_wp2_with fail
      refine (c2 _ HP2.out).mono ?_
      rintro e w2 ⟨v2, rfl, hb2, hv2⟩
      have HB2 := hide (bnext (bnext HB1.out (Nat.le_refl _) hb2) (Nat.le_refl _) (bnew w2 (.cells #[] 2)))
      clear c2 hv2 hb2 HP2 HB1
      generalize runB n m' r' = rb at *
      go_wp2_with fail
      exact HF.out _ _ _ HB2.out
    · rw [hR1] at hR
      rw [Bool.true_and] at hR
      rw [hR] at c2
      clear hR
      go_wp2_with fail
      refine (c2 _ HP2.out).mono ?_
      rintro e w2 ⟨v2, rfl, hb2, hv2⟩
      have HB2 := hide (bnext (bnext HB1.out (Nat.le_refl _) hb2) (Nat.le_refl _) (bnew w2 (.cells #[] 2)))
      clear c2 hv2 hb2 HP2 HB1
      go_wp2_with fail
      exact HF.out _ _ _ HB2.out
  have HQ := hide (HQy.out hR)
  obtain ⟨hR1, hR2⟩ : runB n m r = true ∧ runB n m' r' = true := by simpa using hR
  rw [hR1] at c1
  rw [hR2] at c2
  obtain ⟨M, rfl⟩ : ∃ M : Nat, n = M := ⟨n.toNat, by omega⟩
  rw [Int.toNat_natCast] at c1 c2 HQ
  have cR := fun a1 c w' h => l7Runs_any a1 M c (jruF op m r m' r') (by omega) (jruF_bit _ _ _ _ _ _) w' h
  unfold LsR at cR
  have HJ : Hid (∀ k, jpx op (rbit r m k) (rbit r' m' k) = jruF op m r m' r' k) := fun _ => rfl
  have HX : Hid (∀ k, rbit r m k = 0 ∨ rbit r m k = 1) := fun k => rbit_01 _ _ _
  have HY : Hid (∀ k, rbit r' m' k = 0 ∨ rbit r' m' k = 1) := fun k => rbit_01 _ _ _
  clear HQn HQy hR hR1 hR2
  generalize rbit r m = x at *
  generalize rbit r' m' = y at *
  generalize jruF op m r m' r' = g at *
  go_enter Try.func69, Try.ntmps69
  go_wp2_with fail
  refine (cN _).mono ?_
  rintro e w ⟨rfl, rfl⟩
  go_wp2_with fail
  refine (cO _).mono ?_
  rintro e w ⟨rfl, rfl⟩
  clear cO cN
  go_wp2_with fail
  refine (c1 _ HP.out).mono ?_
  rintro e w1 ⟨v1, rfl, hb1, hv1⟩
  obtain ⟨a1, k1, b1, rfl, ow1, hge1⟩ := hv1 (by trivial)
  have HB1 := hide hb1
  have HP2 := hide (HP'.out.below hb1)
  clear c1 HP' HP hv1
  go_wp2_with fail
  refine (c2 _ HP2.out).mono ?_
  rintro e w2 ⟨v2, rfl, hb2, hv2⟩
  obtain ⟨a2, k2, b2, rfl, ow2, hge2⟩ := hv2 (by trivial)
  obtain ⟨rfl, hr1⟩ := ow1.resolve_left (by omega)
  obtain ⟨rfl, hr2⟩ := ow2.resolve_left (by omega)
  have hlt1 : b1 < w1.heap.size := World.block_lt_of_cell? _ _ (hr1 0 (by omega)).1
  have HR1 : Hid (Row b1 M (hyb g x 0) w2) := by rw [hyb_zero]; exact hr1.below hb2 hlt1
  have HR2 := hide hr2
  have HB2 := hide (bnext hb1 (Nat.le_refl _) hb2)
  have HNE : Hid (b1 ≠ b2) := by show _ ≠ _; omega
  have HG1 := hide hge1
  clear ow1 ow2 hv2 hb1 hb2 hr1 hr2 hlt1 hge1 hge2 c2 HP2 HB1
  go_wp2_with fail
  go_loopw [13] (fun i wr => ∃ k : Nat, k ≤ M ∧ i = .int .i64 k ∧ Row b1 M (hyb g x k) wr ∧ Row b2 M y wr ∧ Below w.heap.size w wr) (fun i _ => M - (intOf i).toNat)
  case atStart => exact ⟨0, by omega, rfl, HR1.out, HR2.out, HB2.out⟩
  case round =>
    obtain ⟨k, hk, rfl, r1, r2, hb⟩ := hrel
    clear HR1 HR2 HB2
    by_cases hlt : k < M
    · obtain ⟨z1, e1⟩ := r1 k hlt
      obtain ⟨z2, e2⟩ := r2 k hlt
      rw [hyb_at] at z1
      have HN1 := hide (r1.hybStep hlt (z := jpx op (x k) (y k)) (HJ.out k))
      have HN2 := hide (r2.set (p := ⟨b1, k, none⟩) HNE.out (.int .i64 (jpx op (x k) (y k))))
      have HNB := hide (hb.setCell (p := ⟨b1, k, none⟩) HG1.out (.int .i64 (jpx op (x k) (y k))))
      have hx := HX.out k
      have hy := HY.out k
      clear r1 r2 hb HJ cR HQ HX HY
      generalize x k = X at *
      generalize y k = Y at *
      rcases ho3 with rfl | rfl | rfl
      · obtain ⟨Z, hZ⟩ : ∃ Z, Z = jpx 1 X Y := ⟨_, rfl⟩
        rw [← hZ] at HN1 HN2 HNB
        have wZ : IntKind.i64.wrap (X * Y) = Z := by rcases hx with rfl | rfl <;> rcases hy with rfl | rfl <;> (rw [hZ]; decide)
        clear hZ hx hy
        go_upto_region 13 with fail
        go_region_with (fail)
        all_goals
          clear z1 z2 e1 e2 wZ
          go_wp2_with fail
          exact ⟨⟨k + 1, by omega, rfl, HN1.out, HN2.out, HNB.out.drew⟩, by simp [intOf]; omega⟩
      · have cM := l1Max_any X Y
        obtain ⟨Z, hZ⟩ : ∃ Z, Z = jpx 2 X Y := ⟨_, rfl⟩
        have hZ2 : max X Y = Z := by rw [hZ]; rfl
        rw [← hZ] at HN1 HN2 HNB
        rw [hZ2] at cM
        clear hZ hZ2 hx hy
        go_upto_region 15 with fail
        go_region_with (go_at_call 102; refine (cM _).mono ?_; rintro e w3 ⟨rfl, rfl⟩)
        all_goals
          clear z1 z2 e1 e2 cM
          go_wp2_with fail
          exact ⟨⟨k + 1, by omega, rfl, HN1.out, HN2.out, HNB.out.drew⟩, by simp [intOf]; omega⟩
      · obtain ⟨Z, hZ⟩ : ∃ Z, Z = jpx 3 X Y := ⟨_, rfl⟩
        obtain ⟨D, hD⟩ : ∃ D, D = 1 - Y := ⟨_, rfl⟩
        rw [← hZ] at HN1 HN2 HNB
        have wD : IntKind.i64.wrap (1 - Y) = D := by rw [IntKind.wrap_i64]; omega
        have wZ : IntKind.i64.wrap (X * D) = Z := by rcases hx with rfl | rfl <;> rcases hy with rfl | rfl <;> (rw [hZ, hD]; decide)
        clear hZ hD hx hy
        go_upto_region 11 with fail
        go_region_with (fail)
        all_goals
          clear z1 z2 e1 e2 wZ wD
          go_wp2_with fail
          exact ⟨⟨k + 1, by omega, rfl, HN1.out, HN2.out, HNB.out.drew⟩, by simp [intOf]; omega⟩
    · obtain rfl : k = M := by omega
      have HPx := hide r1.hybDone.px
      have HB := hide hb
      clear r1 r2 hb HJ HX HY ho3
      go_wp2_with fail
      refine (cR _ _ _ HPx.out).mono ?_
      rintro e w3 ⟨a3, k3, b3, rfl, ow3, hB3, hb3⟩
      have HF : Hid (Q (.returned (.slice a3 (rcnt g k) k3)) w3) := by
        rw [HQ.out]
        exact ⟨_, _, b3, rfl, ow3, hB3.imp_right (fun h => Nat.le_trans HB.out.size h), bnext HB.out (Nat.le_refl _) hb3⟩
      clear ow3 hB3 hb3 cR HQ HPx HB
      generalize rcnt g k = RC at *
      go_wp2_with fail
      exact HF.out

end Go.Proofs.Ytjkceonalfohpaa

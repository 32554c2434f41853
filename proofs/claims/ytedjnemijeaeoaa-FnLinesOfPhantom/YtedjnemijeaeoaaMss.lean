/- Misfit, answered by the specification. -/
import Derived.Test.YtedjnemijeaeoaaMsf
import Derived.BigQuiet
namespace Go.Proofs.Ytedjnemijeaeoaa
open Go.RowKit Go.Shelf

theorem msB_parts {W H : Int} {n : Nat} {f : Nat → Int} {m : Nat} {g : Nat → Int} (h : msB W H n f m g = true) :
    toneB W H n f = true ∧ ∃ p : Nat, W = p ∧ priB (p : Int) = true ∧ lsB p m g = true ∧ m ≠ 0 ∧ lnN W H n f = m ∧ lnF W f = Lnm.lin p f ∧ (∀ k, k < m → -326945 ≤ g k - Lnm.lin p f k ∧ g k - Lnm.lin p f k ≤ 326945) := by
  unfold msB at h
  rw [Bool.and_eq_true] at h
  obtain ⟨h1, h2⟩ := h
  obtain ⟨p, hW, hH, hn, p1, p2, hp, hf⟩ := toneB_parts h1
  have hpr : priB W = true := by
    unfold toneB at h1
    simp only [Bool.and_eq_true] at h1
    exact h1.2.2.1
  rw [hW, Int.toNat_natCast] at h2
  obtain ⟨hm, hg⟩ := lsB_parts h2
  refine ⟨h1, p, hW, by rw [← hW]; exact hpr, h2, ?_, ?_, ?_, fun k hk => ?_⟩
  · rw [hm]; exact Nat.ne_of_gt (Nat.mul_pos (by omega) (by omega))
  · unfold lnN; rw [if_pos h1, hW, Int.toNat_natCast, hm]
  · unfold lnF; rw [hW, Int.toNat_natCast]
  · have a1 := hg k hk
    have a2 := lin_bound (show 0 < p by omega) p2 (fun j hj => hf j (by rw [hn]; exact hj)) k
    omega

set_option maxRecDepth 100000 in
set_option maxHeartbeats 4000000 in
theorem implMisfit_any (W H : Int) (a : Option Addr) (n cap : Nat) (f : Nat → Int) (hl : n ≤ 1048576) (a' : Option Addr) (m cap' : Nat) (g : Nat → Int) (hl' : m ≤ 1048576) (w : World) (h : Px a n f w) (h' : Px a' m g w) :
    Calls Try.prog 37 #[im W H a n cap, .slice a' m cap'] w fun e w' => e = .returned (.int .i64 (msV W H n f m g)) ∧ Below w.heap.size w w' := by
  have HS0 := hide ((St.start w).box [.int .i64 W, .int .i64 H, .slice a n cap] 32)
  have c := isTone_any W H a n cap f hl _ (h.below HS0.out.below)
  unfold msV
  have HP := hide h
  have HP' := hide h'
  clear h h'
  cases hq : toneB W H n f
  · rw [hq] at c
    have e1 : msB W H n f m g = false := by unfold msB; rw [hq]; rfl
    rw [if_neg (by rw [e1]; simp)]
    clear hq e1
    go_enter Try.func37, Try.ntmps37
    go_wp2_with fail
    refine c.mono ?_
    rintro e w1 ⟨rfl, hb⟩
    have HB := hide (HS0.out.next hb).below
    clear c hb HS0
    go_wp2_with fail
    go_ret
    exact ⟨rfl, HB.out⟩
  · rw [hq] at c
    obtain ⟨p, hW, hH, hn, p1, p2, _, hf⟩ := toneB_parts hq
    subst hW hH
    have cL := fun w' h => areLineSums_any p (by omega) a' m cap' g hl' w' h
    cases hls : lsB p m g
    · have e1 : msB (p : Int) (p : Int) n f m g = false := by unfold msB; rw [Int.toNat_natCast, hls, hq]; rfl
      rw [if_neg (by rw [e1]; simp)]
      rw [hls] at cL
      clear hq e1 hls hf hn
      go_enter Try.func37, Try.ntmps37
      go_wp2_with fail
      refine c.mono ?_
      rintro e w1 ⟨rfl, hb⟩
      have HS1 := hide (HS0.out.next hb)
      obtain ⟨i0, i1, i2⟩ := HS1.out.im3 0 rfl
      clear c hb HS0
      go_wp2_with fail
      refine (cL _ (HP'.out.below HS1.out.below)).mono ?_
      rintro e w2 ⟨rfl, rfl⟩
      go_wp2_with fail
      go_ret
      exact ⟨rfl, HS1.out.below⟩
    · have e1 : msB (p : Int) (p : Int) n f m g = true := by unfold msB; rw [Int.toNat_natCast, hls, hq]; rfl
      obtain ⟨_, q, hWq, _, _, hm0, hN, hF, hd⟩ := msB_parts e1
      rw [if_pos e1]
      rw [hls] at cL
      have cI := implLines_any (p : Int) (p : Int) a n cap f hl
      rw [hN] at cI
      have hqp : q = p := by omega
      subst hqp
      rw [hF] at cI ⊢
      have cD := fun a1 a2 c1 c2 => differences_any a1 a2 m c1 c2 g (Lnm.lin q f) hl' (fun k hk => by have := hd k hk; omega)
      have cQ := fun a1 c1 => total_squares a1 m c1 (fun k => g k - Lnm.lin q f k) hm0 hl' (fun k hk => by have := hd k hk; omega)
      have hds : (fun k => (fun k => g k - Lnm.lin q f k) k * (fun k => g k - Lnm.lin q f k) k) = dsq g (Lnm.lin q f) := rfl
      rw [hds] at cQ
      generalize Lnm.sm (dsq g (Lnm.lin q f)) m = V at *
      unfold LsR at cI
      clear hq e1 hls hf hn hWq hN hF hd hds
      go_enter Try.func37, Try.ntmps37
      go_wp2_with fail
      refine c.mono ?_
      rintro e w1 ⟨rfl, hb⟩
      have HS1 := hide (HS0.out.next hb)
      obtain ⟨i0, i1, i2⟩ := HS1.out.im3 0 rfl
      clear c hb HS0
      go_wp2_with fail
      refine (cL _ (HP'.out.below HS1.out.below)).mono ?_
      rintro e w2 ⟨rfl, rfl⟩
      go_wp2_with fail
      refine (cI _ (HP.out.below HS1.out.below)).mono ?_
      rintro e w3 ⟨a0, c0, b0, rfl, ho, h1, hb⟩
      have HS3 := hide (HS1.out.own hb ho.v h1)
      clear hb ho h1 HS1 i0 i1 i2 cI cL
      have pA := (HS3.out.nthO 0 rfl).px
      go_wp2_with fail
      refine (cD _ _ _ _ _ (HP'.out.below HS3.out.below) pA).mono ?_
      rintro e w4 ⟨rfl, hr, hb, hs⟩
      have HS4 := hide (HS3.out.own hb hr.v (.inr (Nat.le_refl _)))
      clear hb hr hs pA cD
      go_wp2_with fail
      refine (squares_any _ _ _ _).mono ?_
      rintro e w5 ⟨rfl, rfl⟩
      have HS5 := hide (HS4.out.box [.slice (some ⟨w3.heap.size, 0, none⟩) m m] 30)
      have hc5 := HS5.out.cell 0 rfl 0 rfl
      have pA := (HS5.out.nthO 0 rfl).px
      clear HS4 HS3
      go_wp2_with fail
      refine (cQ _ _ _ _ hc5 pA).mono ?_
      rintro e w6 ⟨rfl, hb⟩
      have HB := hide (HS5.out.next hb).below
      clear hb HS5 hc5 pA cQ
      go_wp2_with fail
      go_ret
      exact ⟨rfl, HB.out⟩

end Go.Proofs.Ytedjnemijeaeoaa

namespace Go.Proofs.Ytedjnemijeaeoaa
open Go.RowKit

theorem dsq_bound {g l : Nat → Int} {m : Nat} (hd : ∀ k, k < m → -326945 ≤ g k - l k ∧ g k - l k ≤ 326945) : ∀ k, k < m → 0 ≤ dsq g l k ∧ dsq g l k ≤ 106893033025 := fun k hk => by
  obtain ⟨h1, h2⟩ := hd k hk
  unfold dsq
  generalize g k - l k = d at *
  rcases Int.le_total 0 d with h | h
  · have h5 := Int.mul_le_mul h2 h2 h (show (0 : Int) ≤ 326945 by omega)
    have := Int.mul_nonneg h h
    omega
  · have h5 := Int.mul_le_mul (show -d ≤ 326945 by omega) (show -d ≤ 326945 by omega) (show 0 ≤ -d by omega) (show (0 : Int) ≤ 326945 by omega)
    have := Int.mul_nonneg_of_nonpos_of_nonpos h h
    rw [Int.neg_mul_neg] at h5
    omega
theorem dsq_sum {g l : Nat → Int} {m : Nat} (hm : m ≤ 1048576) (hd : ∀ k, k < m → -326945 ≤ g k - l k ∧ g k - l k ≤ 326945) : ∀ k, k ≤ m → 0 ≤ Lnm.sm (dsq g l) k ∧ Lnm.sm (dsq g l) k ≤ 113000000000000000
  | 0, _ => by simp [Lnm.sm]
  | k + 1, hk => by
    have e : ∀ j, j ≤ k + 1 → 0 ≤ Lnm.sm (dsq g l) j := by
      intro j
      induction j with
      | zero => intro _; simp [Lnm.sm]
      | succ j ih =>
        intro hj
        have := dsq_bound hd j (by omega)
        have := ih (by omega)
        show 0 ≤ Lnm.sm (dsq g l) j + dsq g l j
        omega
    have h2 := Lnm.sm_bound (f := dsq g l) (M := 106893033025) (n := k + 1) (fun j hj => by have := dsq_bound hd j (by omega); omega)
    refine ⟨e _ (Nat.le_refl _), ?_⟩
    omega

set_option maxRecDepth 100000 in
set_option maxHeartbeats 4000000 in
theorem specMisfit_any (W H : Int) (a : Option Addr) (n cap : Nat) (f : Nat → Int) (hl : n ≤ 1048576) (a' : Option Addr) (m cap' : Nat) (g : Nat → Int) (hl' : m ≤ 1048576) (w : World) (h : Px a n f w) (h' : Px a' m g w) :
    Calls Try.prog 14 #[im W H a n cap, .slice a' m cap'] w fun e w' => e = .returned (.int .i64 (msV W H n f m g)) ∧ Below w.heap.size w w' := by
  have HS0 := hide ((St.start w).box [.int .i64 W, .int .i64 H, .slice a n cap] 32)
  have c := l6Tones_any W H a n cap f hl _ (h.below HS0.out.drew.below)
  unfold msV
  have HP := hide h
  have HP' := hide h'
  clear h h'
  cases hq : toneB W H n f
  · rw [hq] at c
    have e1 : msB W H n f m g = false := by unfold msB; rw [hq]; rfl
    rw [if_neg (by rw [e1]; simp)]
    clear hq e1
    obtain ⟨i0, i1, i2⟩ := HS0.out.im3 0 rfl
    go_enter Try.func14, Try.ntmps14
    go_upto_region 1 with fail
    first | (go_region_with (go_at_call 43; refine c.mono ?_; rintro e w1 ⟨rfl, hb⟩)) | fail "no"
    all_goals
      have HB := hide (HS0.out.drew.next hb).below
      clear c hb HS0 i0 i1 i2
      go_wp2_with fail
      go_ret
      exact ⟨rfl, HB.out⟩
  · rw [hq] at c
    obtain ⟨p, hW, hH, hn, p1, p2, _, hf⟩ := toneB_parts hq
    subst hW hH
    have hpr : priB (p : Int) = true := by
      have h1 := hq
      unfold toneB at h1
      simp only [Bool.and_eq_true] at h1
      exact h1.2.2.1
    have cL := fun w' h => l6Sums_any a' m cap' g hl' w' h
    have hne := l6sV_eq (m := m) (g := g) hpr
    generalize l6sV m g = LV at *
    cases hls : lsB p m g
    · have e1 : msB (p : Int) (p : Int) n f m g = false := by unfold msB; rw [Int.toNat_natCast, hls, hq]; rfl
      rw [if_neg (by rw [e1]; simp)]
      rw [hls] at hne
      clear hq e1 hls hf hn hpr
      have hne' : (LV != (p : Int)) = true := hne
      clear hne
      go_enter Try.func14, Try.ntmps14
      obtain ⟨i0, i1, i2⟩ := HS0.out.im3 0 rfl
      go_upto_region 1 with fail
      go_region_with (first | (go_at_call 43; refine c.mono ?_; rintro e w1 ⟨rfl, hb⟩; have HS1 := hide (HS0.out.drew.next hb); obtain ⟨j0, j1, j2⟩ := HS1.out.im3 0 rfl) | (go_at_call 44; refine (cL _ (HP'.out.below HS1.out.below)).mono ?_; rintro e w2 ⟨rfl, rfl⟩))
      all_goals
        have HB := hide HS1.out.below
        clear c hb HS0 HS1 i0 i1 i2 j0 j1 j2 cL
        go_wp2_with fail
        go_ret
        exact ⟨rfl, HB.out⟩
    · have e1 : msB (p : Int) (p : Int) n f m g = true := by unfold msB; rw [Int.toNat_natCast, hls, hq]; rfl
      obtain ⟨_, q, hWq, _, _, hm0, hN, hF, hd⟩ := msB_parts e1
      rw [if_pos e1]
      rw [hls] at hne
      have hne' : (LV != (p : Int)) = false := hne
      have cI := specLines_any (p : Int) (p : Int) a n cap f hl
      rw [hN] at cI
      have hqp : q = p := by omega
      subst hqp
      rw [hF] at cI ⊢
      have HDS := hide (dsq_sum hl' hd)
      have HDB := hide (dsq_bound hd)
      have HD := hide hd
      generalize Lnm.lin q f = lq at *
      unfold LsR at cI
      clear hq e1 hls hf hn hWq hN hF hd hne hpr
      obtain ⟨bg, og, rfl, _⟩ := HP'.out.lt (show 0 < m by omega)
      go_enter Try.func14, Try.ntmps14
      obtain ⟨i0, i1, i2⟩ := HS0.out.im3 0 rfl
      go_upto_region 1 with fail
      go_region_with (first | (go_at_call 43; refine c.mono ?_; rintro e w1 ⟨rfl, hb⟩; have HS1 := hide (HS0.out.drew.next hb); obtain ⟨j0, j1, j2⟩ := HS1.out.im3 0 rfl) | (go_at_call 44; refine (cL _ (HP'.out.below HS1.out.below)).mono ?_; rintro e w2 ⟨rfl, rfl⟩))
      all_goals
        clear c hb HS0 i0 i1 i2 cL hne'
        go_wp2_with fail
        refine (cI _ (HP.out.below HS1.out.below)).mono ?_
        rintro e w3 ⟨a0, c0, b0, rfl, ho, h1, hb3⟩
        have HS3 := hide (HS1.out.own hb3 ho.v h1)
        have HL3 := hide (HS3.out.nthO 0 rfl).px
        clear hb3 ho h1 HS1 j0 j1 j2 cI
        obtain ⟨bl, ol, rfl, _⟩ := HL3.out.lt (show 0 < m by omega)
        go_wp2_with fail
        go_loopw [6, 7] (fun s i wr => ∃ k d : Nat, k ≤ m ∧ i = .int .i64 k ∧ s = .int .i64 (Lnm.sm (dsq g lq) k) ∧ wr = w3.drewN d) (fun _ i _ => m - (intOf i).toNat)
        case atStart => exact ⟨0, 0, by omega, rfl, rfl, rfl⟩
        case round =>
          obtain ⟨k, dn, hk, rfl, rfl, rfl⟩ := hrel
          by_cases hlt : k < m
          · obtain ⟨_, _, e1, hz⟩ := HL3.out.at hlt
            cases e1
            obtain ⟨_, _, e2, hz'⟩ := (HP'.out.below HS3.out.below).at hlt
            cases e2
            have d1 := HD.out k hlt
            have d2 := HDB.out k hlt
            have d3 := HDS.out k (by omega)
            have d4 := HDS.out (k + 1) (by omega)
            have wA : IntKind.i64.wrap (lq k - g k) = lq k - g k := by rw [IntKind.wrap_i64]; omega
            have hsq : (lq k - g k) * (lq k - g k) = dsq g lq k := by
              unfold dsq
              rw [← Int.neg_mul_neg (g k - lq k), Int.neg_sub]
            obtain ⟨X', hX'⟩ : ∃ X', X' = Lnm.sm (dsq g lq) (k + 1) := ⟨_, rfl⟩
            have hs1 : X' = Lnm.sm (dsq g lq) k + dsq g lq k := hX'
            have HX := hide hX'
            rw [← hX'] at d4
            have HS1 := hide hs1
            clear hX'
            have wM : IntKind.i64.wrap ((lq k - g k) * (lq k - g k)) = dsq g lq k := by rw [hsq, IntKind.wrap_i64]; omega
            clear hsq hs1 d1
            generalize dsq g lq k = Y at *
            generalize Lnm.sm (dsq g lq) k = X at *
            generalize lq k = L1 at *
            generalize g k = G1 at *
            obtain ⟨D, hD⟩ : ∃ D, D = L1 - G1 := ⟨_, rfl⟩
            have wA' : IntKind.i64.wrap (L1 - G1) = D := by rw [wA, hD]
            rw [← hD] at wM
            have wS : IntKind.i64.wrap (X + Y) = X' := by rw [IntKind.wrap_i64, HS1.out]; omega
            clear wA hD d2 d3 d4 HS1
            clear HD HDB HDS HL3 HS3 HP HP'
            go_wp2
            go_quiet (fail)
            go_wp2
            exact ⟨⟨k + 1, _, by omega, rfl, (by rw [HX.out]), rfl⟩, by simp [intOf]; omega⟩
          · obtain rfl : k = m := by omega
            have HB := hide HS3.out.below
            clear HD HDB HDS HL3 HS3 HP HP'
            go_wp2
            go_ret
            exact ⟨rfl, below_drewN HB.out _⟩

end Go.Proofs.Ytedjnemijeaeoaa

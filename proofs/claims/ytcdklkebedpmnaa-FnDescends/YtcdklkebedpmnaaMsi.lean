/- Misfit, answered by the program and by the specification. -/
import Derived.Test.YtcdklkebedpmnaaMsf
import Derived.BigQuiet
namespace Go.Proofs.Ytcdklkebedpmnaa
open Go.RowKit Go.Shelf

theorem msB_parts {W H : Int} {n : Nat} {f : Nat → Int} {m : Nat} {g : Nat → Int} (h : msB W H n f m g = true) :
    toneB W H n f = true ∧ ∃ p : Nat, W = p ∧ priB (p : Int) = true ∧ lsB p m g = true ∧ m ≠ 0 ∧ lnN W H n f = m ∧ lnF W f = Lnm.lin p f ∧ (∀ k, k < m → -326945 ≤ g k - Lnm.lin p f k ∧ g k - Lnm.lin p f k ≤ 326945) := by
  unfold msB at h
  rw [Bool.and_eq_true] at h
  obtain ⟨h1, h2⟩ := h
  obtain ⟨p, hW, hH, hn, p1, p2, hp, hf⟩ := toneB_parts h1
  have hpr : priB W = true := by
    unfold toneB at h1
    simp only [Bool.and_eq_true] at h1
    exact h1.2.2.1
  rw [hW, Int.toNat_natCast] at h2
  obtain ⟨hm, hg⟩ := lsB_parts h2
  refine ⟨h1, p, hW, by rw [← hW]; exact hpr, h2, ?_, ?_, ?_, fun k hk => ?_⟩
  · rw [hm]; exact Nat.ne_of_gt (Nat.mul_pos (by omega) (by omega))
  · unfold lnN; rw [if_pos h1, hW, Int.toNat_natCast, hm]
  · unfold lnF; rw [hW, Int.toNat_natCast]
  · have a1 := hg k hk
    have a2 := lin_bound (show 0 < p by omega) p2 (fun j hj => hf j (by rw [hn]; exact hj)) k
    omega

set_option maxRecDepth 100000 in
set_option maxHeartbeats 4000000 in
theorem implMisfit_any (W H : Int) (a : Option Addr) (n cap : Nat) (f : Nat → Int) (hl : n ≤ 1048576) (a' : Option Addr) (m cap' : Nat) (g : Nat → Int) (hl' : m ≤ 1048576) (w : World) (h : Px a n f w) (h' : Px a' m g w) :
    Calls Try.prog 27 #[im W H a n cap, .slice a' m cap'] w fun e w' => e = .returned (.int .i64 (msV W H n f m g)) ∧ Below w.heap.size w w' := by
  have HS0 := hide ((St.start w).box [.int .i64 W, .int .i64 H, .slice a n cap] 26)
  have c := isTone_any W H a n cap f hl _ (h.below HS0.out.below)
  unfold msV
  have HP := hide h
  have HP' := hide h'
  clear h h'
  cases hq : toneB W H n f
  · rw [hq] at c
    have e1 : msB W H n f m g = false := by unfold msB; rw [hq]; rfl
    rw [if_neg (by rw [e1]; simp)]
    clear hq e1
    go_enter Try.func27, Try.ntmps27
    go_wp2_with fail
    refine c.mono ?_
    rintro e w1 ⟨rfl, hb⟩
    have HB := hide (HS0.out.next hb).below
    clear c hb HS0
    go_wp2_with fail
    go_ret
    exact ⟨rfl, HB.out⟩
  · rw [hq] at c
    obtain ⟨p, hW, hH, hn, p1, p2, _, hf⟩ := toneB_parts hq
    subst hW hH
    have cL := fun w' h => areLineSums_any p (by omega) a' m cap' g hl' w' h
    cases hls : lsB p m g
    · have e1 : msB (p : Int) (p : Int) n f m g = false := by unfold msB; rw [Int.toNat_natCast, hls, hq]; rfl
      rw [if_neg (by rw [e1]; simp)]
      rw [hls] at cL
      clear hq e1 hls hf hn
      go_enter Try.func27, Try.ntmps27
      go_wp2_with fail
      refine c.mono ?_
      rintro e w1 ⟨rfl, hb⟩
      have HS1 := hide (HS0.out.next hb)
      obtain ⟨i0, i1, i2⟩ := HS1.out.im3 0 rfl
      clear c hb HS0
      go_wp2_with fail
      refine (cL _ (HP'.out.below HS1.out.below)).mono ?_
      rintro e w2 ⟨rfl, rfl⟩
      go_wp2_with fail
      go_ret
      exact ⟨rfl, HS1.out.below⟩
    · have e1 : msB (p : Int) (p : Int) n f m g = true := by unfold msB; rw [Int.toNat_natCast, hls, hq]; rfl
      obtain ⟨_, q, hWq, _, _, hm0, hN, hF, hd⟩ := msB_parts e1
      rw [if_pos e1]
      rw [hls] at cL
      have cI := implLines_any (p : Int) (p : Int) a n cap f hl
      rw [hN] at cI
      have hqp : q = p := by omega
      subst hqp
      rw [hF] at cI ⊢
      have cD := fun a1 a2 c1 c2 => differences_any a1 a2 m c1 c2 g (Lnm.lin q f) hl' (fun k hk => by have := hd k hk; omega)
      have cQ := fun a1 c1 => total_squares a1 m c1 (fun k => g k - Lnm.lin q f k) hm0 hl' (fun k hk => by have := hd k hk; omega)
      have hds : (fun k => (fun k => g k - Lnm.lin q f k) k * (fun k => g k - Lnm.lin q f k) k) = dsq g (Lnm.lin q f) := rfl
      rw [hds] at cQ
      generalize Lnm.sm (dsq g (Lnm.lin q f)) m = V at *
      unfold LsR at cI
      clear hq e1 hls hf hn hWq hN hF hd hds
      go_enter Try.func27, Try.ntmps27
      go_wp2_with fail
      refine c.mono ?_
      rintro e w1 ⟨rfl, hb⟩
      have HS1 := hide (HS0.out.next hb)
      obtain ⟨i0, i1, i2⟩ := HS1.out.im3 0 rfl
      clear c hb HS0
      go_wp2_with fail
      refine (cL _ (HP'.out.below HS1.out.below)).mono ?_
      rintro e w2 ⟨rfl, rfl⟩
      go_wp2_with fail
      refine (cI _ (HP.out.below HS1.out.below)).mono ?_
      rintro e w3 ⟨a0, c0, b0, rfl, ho, h1, hb⟩
      have HS3 := hide (HS1.out.own hb ho.v h1)
      clear hb ho h1 HS1 i0 i1 i2 cI cL
      have pA := (HS3.out.nthO 0 rfl).px
      go_wp2_with fail
      refine (cD _ _ _ _ _ (HP'.out.below HS3.out.below) pA).mono ?_
      rintro e w4 ⟨rfl, hr, hb, hs⟩
      have HS4 := hide (HS3.out.own hb hr.v (.inr (Nat.le_refl _)))
      clear hb hr hs pA cD
      go_wp2_with fail
      refine (squares_any _ _ _ _).mono ?_
      rintro e w5 ⟨rfl, rfl⟩
      have HS5 := hide (HS4.out.box [.slice (some ⟨w3.heap.size, 0, none⟩) m m] 24)
      have hc5 := HS5.out.cell 0 rfl 0 rfl
      have pA := (HS5.out.nthO 0 rfl).px
      clear HS4 HS3
      go_wp2_with fail
      refine (cQ _ _ _ _ hc5 pA).mono ?_
      rintro e w6 ⟨rfl, hb⟩
      have HB := hide (HS5.out.next hb).below
      clear hb HS5 hc5 pA cQ
      go_wp2_with fail
      go_ret
      exact ⟨rfl, HB.out⟩

end Go.Proofs.Ytcdklkebedpmnaa

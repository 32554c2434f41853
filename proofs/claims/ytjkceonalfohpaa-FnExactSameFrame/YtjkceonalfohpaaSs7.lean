/- SameFrame: the specification. -/
import Derived.Test.YtjkceonalfohpaaSm7
namespace Go.Proofs.Ytjkceonalfohpaa
open Go.RowKit Go.Lib

theorem eqN_step {f g : Nat → Int} {k : Nat} (h : eqN f g k = true) (e : f k = g k) : eqN f g (k + 1) = true := by simp only [eqN]; rw [h, beq_iff_eq.2 e]; rfl

set_option maxRecDepth 100000 in
set_option maxHeartbeats 8000000 in
theorem specSameFrame_any (D : Int) (a0 : Option Addr) (n0 c0 : Nat) (M : Nat → Int) (hl0 : n0 ≤ 1048576) (a1 : Option Addr) (n1 c1 : Nat) (T : Nat → Int) (hl1 : n1 ≤ 1048576) (D' : Int) (a0' : Option Addr) (n0' c0' : Nat) (M' : Nat → Int) (hl0' : n0' ≤ 1048576) (a1' : Option Addr) (n1' c1' : Nat) (T' : Nat → Int) (hl1' : n1' ≤ 1048576) (w : World) (h0 : Px a0 n0 M w) (h1 : Px a1 n1 T w) (h0' : Px a0' n0' M' w) (h1' : Px a1' n1' T' w) :
    Calls Try.prog 41 #[vFrame D a0 n0 c0 a1 n1 c1, vFrame D' a0' n0' c0' a1' n1' c1'] w fun e w' => e = .returned (.bool (samB D n0 M n1 T D' n0' M' n1' T')) ∧ Below w.heap.size w w' := by
  have HS0 := hide (((St.start w).box [.slice a0 n0 c0, .slice a1 n1 c1, .int .i64 D] 26).box' [.slice a0' n0' c0', .slice a1' n1' c1', .int .i64 D'] 26 (b := w.heap.size + 1) (by simp))
  have c := fun w' h h' => specFrameOk_any D a0 n0 c0 M hl0 a1 n1 c1 T hl1 w' h h'
  have c' := fun w' h h' => specFrameOk_any D' a0' n0' c0' M' hl0' a1' n1' c1' T' hl1' w' h h'
  have HP0 := hide h0
  have HP1 := hide h1
  have HP0' := hide h0'
  have HP1' := hide h1'
  unfold samB
  clear h0 h1 h0' h1'
  cases hf : frmB D n0 M n1 T
  · rw [hf] at c
    clear hf
    go_enter Try.func41, Try.ntmps41
    go_wp2_with fail
    refine (c _ (HP0.out.below HS0.out.below) (HP1.out.below HS0.out.below)).mono ?_
    rintro e w1 ⟨rfl, hb⟩
    have HB := hide (HS0.out.next hb).below
    clear hb c HS0
    go_wp2_with fail
    go_ret
    exact ⟨rfl, HB.out⟩
  cases hf' : frmB D' n0' M' n1' T'
  · rw [hf] at c
    rw [hf'] at c'
    clear hf hf'
    go_enter Try.func41, Try.ntmps41
    go_wp2_with fail
    refine (c _ (HP0.out.below HS0.out.below) (HP1.out.below HS0.out.below)).mono ?_
    rintro e w1 ⟨rfl, hb⟩
    have HS1 := hide (HS0.out.next hb)
    obtain ⟨i0, i1, i2⟩ := HS1.out.im3 0 rfl
    clear hb c HS0
    go_wp2_with fail
    refine (c' _ (HP0'.out.below HS1.out.below) (HP1'.out.below HS1.out.below)).mono ?_
    rintro e w2 ⟨rfl, hb⟩
    have HB := hide (HS1.out.next hb).below
    clear hb c' HS1 i0 i1 i2
    go_wp2_with fail
    go_ret
    exact ⟨rfl, HB.out⟩
  obtain ⟨g1, g2, -⟩ := frmB_parts hf
  obtain ⟨g1', g2', -⟩ := frmB_parts hf'
  rw [hf] at c
  rw [hf'] at c'
  clear hf hf'
  subst g1 g2 g1' g2'
  obtain ⟨b, off, rfl, hbl⟩ := HP0.out.lt (by omega)
  obtain ⟨b1, off1, rfl, hbl1⟩ := HP1.out.lt (by omega)
  obtain ⟨b', off', rfl, hbl'⟩ := HP0'.out.lt (by omega)
  obtain ⟨b1', off1', rfl, hbl1'⟩ := HP1'.out.lt (by omega)
  go_enter Try.func41, Try.ntmps41
  go_wp2_with fail
  refine (c _ (HP0.out.below HS0.out.below) (HP1.out.below HS0.out.below)).mono ?_
  rintro e w1 ⟨rfl, hb⟩
  have HS1 := hide (HS0.out.next hb)
  obtain ⟨i0, i1, i2⟩ := HS1.out.im3 0 rfl
  clear hb c HS0
  go_wp2_with fail
  refine (c' _ (HP0'.out.below HS1.out.below) (HP1'.out.below HS1.out.below)).mono ?_
  rintro e w2 ⟨rfl, hb⟩
  have HS2 := hide (HS1.out.next hb)
  clear hb c' HS1 i0 i1 i2
  obtain ⟨i0, i1, i2⟩ := HS2.out.im3 0 rfl
  obtain ⟨j0, j1, j2⟩ := HS2.out.im3 1 rfl
  by_cases hD : ¬ D = D'
  · have hq : (D != D') = true := by simp [hD]
    have HR : Hid (samT D M T D' M' T' = false) := by show _ = _; unfold samT; rw [beq_eq_false_iff_ne.2 hD]; rfl
    clear hD
    go_wp2_with fail
    go_ret
    exact ⟨by rw [HR.out]; rfl, HS2.out.below⟩
  obtain rfl : D = D' := Classical.not_not.1 hD
  clear hD
  have hq : (D != D) = false := by simp
  have HR : Hid (samT D M T D M' T' = (eqN M M' 9 && ((T 0 == T' 0) && ((T 1 == T' 1) && (T 2 == T' 2))))) := by show _ = _; unfold samT; simp
  go_wp2_with fail
  go_loopw [5] (fun i wr => ∃ k m : Nat, k ≤ 9 ∧ i = .int .i64 k ∧ eqN M M' k = true ∧ wr = w2.drewN m) (fun i _ => 9 - (intOf i).toNat)
  case atStart => exact ⟨0, 0, by omega, rfl, rfl, rfl⟩
  case round =>
    obtain ⟨k, m, hk, rfl, ha, rfl⟩ := hrel
    by_cases hlt : k < 9
    · obtain ⟨_, _, heq, z1⟩ := (HP0.out.below HS2.out.below).at hlt
      cases heq
      obtain ⟨_, _, heq, z2⟩ := (HP0'.out.below HS2.out.below).at hlt
      cases heq
      have k0 : (0 : Int) ≤ (k : Int) := by omega
      have k9 : (k : Int) < 9 := by omega
      by_cases he : M k = M' k
      · have HE := hide (eqN_step ha he)
        have hE : (M k != M' k) = false := by simp [he]
        clear ha he HP0 HP0' HP1 HP1' HR i1 i2 j1 j2
        generalize M k = x at *
        generalize M' k = y at *
        go_upto_region 6 with fail
        go_quiet (fail)
        go_wp2_with fail
        exact ⟨⟨k + 1, _, by omega, rfl, HE.out, rfl⟩, by simp [intOf]; omega⟩
      · have HE : Hid (samT D M T D M' T' = false) := by show _ = _; rw [HR.out, eqN_no hlt he]; rfl
        have hE : (M k != M' k) = true := by simp [he]
        clear ha he HP0 HP0' HP1 HP1' HR i1 i2 j1 j2
        generalize M k = x at *
        generalize M' k = y at *
        go_upto_region 6 with fail
        go_quiet (fail)
        go_wp2_with fail
        go_ret
        exact ⟨by rw [HE.out]; rfl, by first | exact below_drewN HS2.out.below _ | exact below_drewN (below_drewN HS2.out.below _) _⟩
    · obtain rfl : k = 9 := by omega
      have HR2 : Hid (samT D M T D M' T' = ((T 0 == T' 0) && ((T 1 == T' 1) && (T 2 == T' 2)))) := by show _ = _; rw [HR.out, ha]; rfl
      have x0 : w2.cell? ⟨b1, off1, none⟩ = some (.int .i64 (T 0)) := by obtain ⟨_, _, heq, hz⟩ := (HP1.out.below HS2.out.below).at (show 0 < 3 by omega); cases heq; exact hz
      have x1 : w2.cell? ⟨b1, off1 + 1, none⟩ = some (.int .i64 (T 1)) := by obtain ⟨_, _, heq, hz⟩ := (HP1.out.below HS2.out.below).at (show 1 < 3 by omega); cases heq; exact hz
      have x2 : w2.cell? ⟨b1, off1 + 2, none⟩ = some (.int .i64 (T 2)) := by obtain ⟨_, _, heq, hz⟩ := (HP1.out.below HS2.out.below).at (show 2 < 3 by omega); cases heq; exact hz
      have y0 : w2.cell? ⟨b1', off1', none⟩ = some (.int .i64 (T' 0)) := by obtain ⟨_, _, heq, hz⟩ := (HP1'.out.below HS2.out.below).at (show 0 < 3 by omega); cases heq; exact hz
      have y1 : w2.cell? ⟨b1', off1' + 1, none⟩ = some (.int .i64 (T' 1)) := by obtain ⟨_, _, heq, hz⟩ := (HP1'.out.below HS2.out.below).at (show 1 < 3 by omega); cases heq; exact hz
      have y2 : w2.cell? ⟨b1', off1' + 2, none⟩ = some (.int .i64 (T' 2)) := by obtain ⟨_, _, heq, hz⟩ := (HP1'.out.below HS2.out.below).at (show 2 < 3 by omega); cases heq; exact hz
      have HB := hide HS2.out.below
      clear HP0 HP0' HP1 HP1' HR i0 i2 j0 j2 ha hk hlt HS2
      generalize hu0 : (T 0 == T' 0) = u0 at *
      generalize hu1 : (T 1 == T' 1) = u1 at *
      generalize hu2 : (T 2 == T' 2) = u2 at *
      generalize T 0 = p0 at *
      generalize T 1 = p1 at *
      generalize T 2 = p2 at *
      generalize T' 0 = r0 at *
      generalize T' 1 = r1 at *
      generalize T' 2 = r2 at *
      cases u0
      · clear hu1 hu2
        go_upto_region 8 with fail
        go_quiet (fail)
        go_wp2_with fail
        go_ret
        exact ⟨by rw [HR2.out]; rfl, by first | exact below_drewN HB.out _ | exact below_drewN (below_drewN HB.out _) _⟩
      · cases u1
        · clear hu2
          go_upto_region 8 with fail
          go_quiet (fail)
          go_wp2_with fail
          go_ret
          exact ⟨by rw [HR2.out]; rfl, by first | exact below_drewN HB.out _ | exact below_drewN (below_drewN HB.out _) _⟩
        · go_upto_region 8 with fail
          go_quiet (fail)
          go_wp2_with fail
          go_ret
          exact ⟨by rw [HR2.out]; simp, by first | exact below_drewN HB.out _ | exact below_drewN (below_drewN HB.out _) _⟩

end Go.Proofs.Ytjkceonalfohpaa

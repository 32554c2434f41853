/- Bends: the program's places and their way back. -/
import Derived.Test.YtigiddkodpcpkaaBni
import Derived.Lib.MinMax
import Derived.BigQuiet
import Derived.BigRegion
namespace Go.Proofs.Ytigiddkodpcpkaa
open Go.RowKit

set_option maxRecDepth 100000 in
set_option maxHeartbeats 2000000 in
theorem implBendAt_any (a : Option Addr) (n cap : Nat) (f : Nat → Int) (hl : n ≤ 1048576) (x : Int) (hcp : n ≤ cap) (w : World) (h : Px a n f w) :
    Calls Try.prog 16 #[.slice a n cap, .int .i64 x] w fun e w' => e = .returned (.tuple #[.int .i64 (bdAI n f x), .bool (bdAF n f x)]) ∧ Below w.heap.size w w' := by
  have c := implBendOk_any a n cap f hl hcp w h
  have hln : (0 : Int) ≤ n ∧ (n : Int) ≤ 1048576 := by omega
  have u1 : IntKind.i64.wrap ((n : Int) - 1) = (n : Int) - 1 := by rw [IntKind.wrap_i64]; omega
  have u2 : IntKind.i64.wrap (16 * ((n : Int) - 1)) = 16 * ((n : Int) - 1) := by rw [IntKind.wrap_i64]; omega
  cases hq : bdB n f
  · have HF : Hid (bdAI n f x = 0 ∧ bdAF n f x = false) := by
      show bdAI n f x = 0 ∧ bdAF n f x = false
      unfold bdAI bdAF
      simp [hq]
    rw [hq] at c
    clear hq h
    go_enter Try.func16, Try.ntmps16
    go_wp2_with fail
    refine c.mono ?_
    rintro e w1 ⟨rfl, rfl⟩
    go_wp2_with fail
    exact bodyPost_ret (v := .tuple #[.int .i64 0, .bool false]) (by simp [results, Try.results16, go_sem]) rfl ⟨by rw [HF.out.1, HF.out.2], Below.refl _ _⟩
  rw [hq] at c
  have HQ := hide hq
  clear hq
  have cw := within_any x 0 (16 * ((n : Int) - 1)) w
  cases hin : inB x 0 (16 * ((n : Int) - 1))
  · have HF : Hid (bdAI n f x = 0 ∧ bdAF n f x = false) := by
      show bdAI n f x = 0 ∧ bdAF n f x = false
      have : ¬ (0 ≤ x ∧ x ≤ 16 * ((n : Int) - 1)) := fun e => by rw [(inB_iff _ _ _).2 e] at hin; cases hin
      unfold bdAI bdAF
      simp [this]
    rw [hin] at cw
    clear HQ h hin
    go_enter Try.func16, Try.ntmps16
    go_wp2_with fail
    refine c.mono ?_
    rintro e w1 ⟨rfl, rfl⟩
    go_wp2_with fail
    refine cw.mono ?_
    rintro e w1 ⟨rfl, rfl⟩
    go_wp2_with fail
    exact bodyPost_ret (v := .tuple #[.int .i64 0, .bool false]) (by simp [results, Try.results16, go_sem]) rfl ⟨by rw [HF.out.1, HF.out.2], Below.refl _ _⟩
  rw [hin] at cw
  rw [inB_iff] at hin
  have HB := bdB_parts HQ.out
  obtain ⟨i, r, hx, hr, hi, hr1, t1, t2, hv⟩ := bdA_parts HB (by omega) (show x ≤ 16 * ((n : Int) - 1) by omega)
  have HF : Hid (bdAI n f x = 16 * f i + (r : Int) * (f (i + 1) - f i) ∧ bdAF n f x = true) := by
    show _ ∧ _
    unfold bdAI bdAF
    rw [if_pos ⟨HQ.out, by omega, by omega⟩]
    exact ⟨hv, by simp [HQ.out]; omega⟩
  have b0 := HB.at' i hi
  have u3 : IntKind.i64.wrap (16 * f i) = 16 * f i := by rw [IntKind.wrap_i64]; omega
  obtain ⟨b, off, rfl, z0⟩ := h.at hi
  have hir : (i : Int) ≤ 1048576 := by omega
  have hrr : (r : Int) < 16 := by omega
  obtain ⟨j, hj, hjn, hjm⟩ : ∃ j : Nat, min ((i : Int) + 1) ((n : Int) - 1) = (j : Int) ∧ j < n ∧ (r : Int) * (f j - f i) = (r : Int) * (f (i + 1) - f i) := by
    by_cases h1 : i + 1 < n
    · exact ⟨i + 1, by omega, h1, rfl⟩
    · have : r = 0 := by
        rcases Nat.eq_zero_or_pos r with h0 | h0
        · exact h0
        · exact absurd (hr1 h0) h1
      subst this
      exact ⟨i, by omega, hi, by simp⟩
  rw [← hjm] at HF
  have b1 := HB.at' j hjn
  obtain ⟨b', off', he, z1⟩ := h.at hjn
  cases he
  have pb := Int.mul_nonneg (show (0 : Int) ≤ r by omega) (show 0 ≤ 2000 - (f j - f i) by omega)
  have pc := Int.mul_nonneg (show (0 : Int) ≤ r by omega) (show 0 ≤ 2000 + (f j - f i) by omega)
  rw [Int.mul_sub] at pb
  rw [Int.mul_add] at pc
  have u4 : IntKind.i64.wrap (f j - f i) = f j - f i := by rw [IntKind.wrap_i64]; omega
  have u5 : IntKind.i64.wrap ((r : Int) * (f j - f i)) = (r : Int) * (f j - f i) := by rw [IntKind.wrap_i64]; omega
  have u6 : IntKind.i64.wrap (16 * f i + (r : Int) * (f j - f i)) = 16 * f i + (r : Int) * (f j - f i) := by rw [IntKind.wrap_i64]; omega
  have u7 : IntKind.i64.wrap ((i : Int) + 1) = (i : Int) + 1 := by rw [IntKind.wrap_i64]; omega
  have hjr : (j : Int) ≤ 1048576 := by omega
  clear h hv hr1 HQ HB hx pb pc hjm
  go_enter Try.func16, Try.ntmps16
  go_wp2_with fail
  refine c.mono ?_
  rintro e w1 ⟨rfl, rfl⟩
  go_wp2_with fail
  refine cw.mono ?_
  rintro e w1 ⟨rfl, rfl⟩
  go_wp2_with fail
  go_region
  go_wp2_with fail
  exact bodyPost_ret (v := .tuple #[.int .i64 (16 * f i + (r : Int) * (f j - f i)), .bool true]) (by simp [results, Try.results16, go_sem]) rfl ⟨by rw [HF.out.1, HF.out.2], (Below.refl _ _).drew⟩

set_option maxRecDepth 100000 in
set_option maxHeartbeats 2000000 in
theorem implBendBack_any (a : Option Addr) (n cap : Nat) (f : Nat → Int) (hl : n ≤ 1048576) (y : Int) (hcp : n ≤ cap) (w : World) (h : Px a n f w) :
    Calls Try.prog 17 #[.slice a n cap, .int .i64 y] w fun e w' => e = .returned (.tuple #[.int .i64 (bdKI n f y), .bool (bdKF n f y)]) ∧ Below w.heap.size w w' := by
  have c := fun q => implBendOk_any a n cap f hl hcp (w.drewN q) (h.below (below_drewN (Below.refl _ _) q))
  cases hq : bdB n f
  · have HF : Hid (bdKI n f y = 0 ∧ bdKF n f y = false) := by
      show bdKI n f y = 0 ∧ bdKF n f y = false
      unfold bdKI bdKF
      simp [hq]
    simp only [hq] at c
    clear hq h
    go_enter Try.func17, Try.ntmps17
    go_wp2_with fail
    go_quiet ((go_at_call 49; exact Calls.quiet_of_same (c _)))
    go_wp2_with fail
    exact bodyPost_ret (v := .tuple #[.int .i64 0, .bool false]) (by simp [results, Try.results17, go_sem]) rfl ⟨by rw [HF.out.1, HF.out.2], below_drewN (Below.refl _ _) _⟩
  simp only [hq] at c
  have HQ := hide hq
  have HB := hide (bdB_parts hq)
  have HP := hide h
  clear hq h
  have hlo := HB.out.lo
  have hhi := HB.out.hi
  obtain ⟨m, rfl⟩ : ∃ m, n = m + 1 := ⟨n - 1, by omega⟩
  have b0 := HB.out.at' 0 (by omega)
  have bm := HB.out.at' m (by omega)
  obtain ⟨b, off, rfl, z0'⟩ := HP.out.at (show 0 < m + 1 by omega)
  have z0 : w.cell? ⟨b, off, none⟩ = some (.int .i64 (f 0)) := z0'
  clear z0'
  obtain ⟨b', off', he, zm⟩ := HP.out.at (show m < m + 1 by omega)
  cases he
  have u0 : IntKind.i64.wrap (16 * f 0) = 16 * f 0 := by rw [IntKind.wrap_i64]; omega
  have u1 : IntKind.i64.wrap (16 * f m) = 16 * f m := by rw [IntKind.wrap_i64]; omega
  have u2 : ((m + 1 : Nat) : Int) - 1 = (m : Int) := by omega
  have cw := fun w' => within_any y (16 * f 0) (16 * f m) w'
  cases hin : inB y (16 * f 0) (16 * f m)
  · have HF : Hid (bdKI (m + 1) f y = 0 ∧ bdKF (m + 1) f y = false) := by
      show _ ∧ _
      have : ¬ (16 * f 0 ≤ y ∧ y ≤ 16 * f m) := fun e => by rw [(inB_iff _ _ _).2 e] at hin; cases hin
      unfold bdKI bdKF
      simp [this]
    simp only [hin] at cw
    clear HQ hin HB HP
    go_enter Try.func17, Try.ntmps17
    go_wp2_with fail
    go_quiet (first | (go_at_call 49; exact Calls.quiet_of_same (c _)) | (go_at_call 56; exact Calls.quiet_of_same (cw _)))
    go_wp2_with fail
    exact bodyPost_ret (v := .tuple #[.int .i64 0, .bool false]) (by simp [results, Try.results17, go_sem]) rfl ⟨by rw [HF.out.1, HF.out.2], below_drewN (Below.refl _ _) _⟩
  simp only [hin] at cw
  rw [inB_iff] at hin
  have HF : Hid (bdKI (m + 1) f y = (bdK f y (16 * m) : Nat) ∧ bdKF (m + 1) f y = true) := by
    show _ ∧ _
    unfold bdKI bdKF
    simp [HQ.out, hin.1, hin.2]
  have hyb : -16000 ≤ y ∧ y ≤ 16000 := by omega
  have HI := hide hin
  clear HQ hin
  go_enter Try.func17, Try.ntmps17
  go_wp2_with fail
  go_quiet (first | (go_at_call 49; exact Calls.quiet_of_same (c _)) | (go_at_call 56; exact Calls.quiet_of_same (cw _)))
  go_wp2_with fail
  clear c cw z0 zm b0 bm u0 u1
  go_loopw [6] (fun v wr => ∃ i : Nat, i < m + 1 ∧ v = .int .i64 i ∧ 16 * f i ≤ y ∧ ∃ q, wr = w.drewN q) (fun v _ => m + 1 - (intOf v).toNat)
  case atStart => exact ⟨0, by omega, rfl, HI.out.1, _, rfl⟩
  case round =>
    obtain ⟨i, hi, rfl, hle, q, hwr⟩ := hrel
    have HW := hide hwr
    have HPw : Hid (Px (some ⟨b, off, none⟩) (m + 1) f wr) := by show Px _ _ _ _; rw [hwr]; exact HP.out.below (below_drewN (Below.refl _ _) q)
    have HBe : Hid (∀ j, Below w.heap.size w (wr.drewN j)) := fun j => by rw [hwr]; exact below_drewN (below_drewN (Below.refl _ _) q) j
    clear hwr HP
    obtain ⟨b', off', he, zi⟩ := HPw.out.at hi
    cases he
    have bi := HB.out.at' i hi
    have u0 : IntKind.i64.wrap (16 * f i) = 16 * f i := by rw [IntKind.wrap_i64]; omega
    have u5 : IntKind.i64.wrap (y - 16 * f i) = y - 16 * f i := by rw [IntKind.wrap_i64]; omega
    have u6 : IntKind.i64.wrap (16 * (i : Int)) = 16 * (i : Int) := by rw [IntKind.wrap_i64]; omega
    by_cases hlt : i + 1 < m + 1
    · obtain ⟨b', off', he, zj⟩ := HPw.out.at hlt
      cases he
      have bj := HB.out.at' (i + 1) hlt
      have hup := HB.out.up i hlt
      have u1 : IntKind.i64.wrap (16 * f (i + 1)) = 16 * f (i + 1) := by rw [IntKind.wrap_i64]; omega
      have t1 : (i : Int) + 1 < ((m + 1 : Nat) : Int) := by omega
      by_cases hn : 16 * f (i + 1) ≤ y
      · clear HPw HB
        go_wp2_with fail
        exact ⟨⟨i + 1, by omega, by go_num, hn, _, HW.out⟩, by simp [intOf]; omega⟩
      · have HV := hide (bdK_prog HB.out hi hle (.inr ⟨hlt, Int.not_le.1 hn⟩) HI.out.2)
        rw [show 16 * (m + 1 - 1) = 16 * m from rfl] at HV
        by_cases hp : 0 < y - 16 * f i
        · obtain ⟨_, e2, q0, q1⟩ := HV.out.1 hp
          have HE := hide e2
          have u7 : IntKind.i64.wrap (f (i + 1) - f i) = f (i + 1) - f i := by rw [IntKind.wrap_i64]; omega
          have t2 : (y - 16 * f i).tdiv (f (i + 1) - f i) = (y - 16 * f i) / (f (i + 1) - f i) := Int.tdiv_eq_ediv_of_nonneg (by omega)
          have t3 : f (i + 1) - f i ≠ 0 := by omega
          clear HV e2 HPw HB HI hle hup
          generalize (y - 16 * f i) / (f (i + 1) - f i) = Q at *
          go_wp2_with fail
          go_quiet (fail)
          go_wp2_with fail
          go_quiet (fail)
          go_wp2_with fail
          exact bodyPost_ret (v := .tuple #[.int .i64 (16 * (i : Int) + Q), .bool true]) (by simp [results, Try.results17, go_sem]) rfl ⟨by rw [HF.out.1, HF.out.2, HE.out], by first | exact HBe.out _ | (simp only [World.drewN_drewN]; exact HBe.out _)⟩
        · have HE := hide (HV.out.2 hp)
          clear HV HPw HB HI hle hup
          go_wp2_with fail
          go_quiet (fail)
          go_wp2_with fail
          exact bodyPost_ret (v := .tuple #[.int .i64 (16 * (i : Int)), .bool true]) (by simp [results, Try.results17, go_sem]) rfl ⟨by rw [HF.out.1, HF.out.2, HE.out], by first | exact HBe.out _ | (simp only [World.drewN_drewN]; exact HBe.out _)⟩
    · have him : i = m := by omega
      have hp : ¬ 0 < y - 16 * f i := by rw [him]; have := HI.out.2; omega
      have HE := hide ((bdK_prog HB.out hi hle (.inl (by omega)) HI.out.2).2 hp)
      rw [show 16 * (m + 1 - 1) = 16 * m from rfl] at HE
      have t1 : ¬ (i : Int) + 1 < ((m + 1 : Nat) : Int) := by omega
      clear HPw HB HI hle him
      go_wp2_with fail
      go_quiet (fail)
      go_wp2_with fail
      exact bodyPost_ret (v := .tuple #[.int .i64 (16 * (i : Int)), .bool true]) (by simp [results, Try.results17, go_sem]) rfl ⟨by rw [HF.out.1, HF.out.2, HE.out], by first | exact HBe.out _ | (simp only [World.drewN_drewN]; exact HBe.out _)⟩

end Go.Proofs.Ytigiddkodpcpkaa

/- Bends: the specification's places and their way back. -/
import Derived.Test.YtigiddkodpcpkaaBns
import Derived.BigQuiet
namespace Go.Proofs.Ytigiddkodpcpkaa
open Go.RowKit

theorem bdA_parts {n : Nat} {f : Nat → Int} (H : Bend n f) {x : Int} (h0 : 0 ≤ x) (h1 : x ≤ 16 * ((n : Int) - 1)) :
    ∃ i r : Nat, x = 16 * (i : Int) + r ∧ r < 16 ∧ i < n ∧ (0 < r → i + 1 < n) ∧ x.tdiv 16 = (i : Int) ∧ x.tmod 16 = (r : Int) ∧ bdA f x.toNat = 16 * f i + (r : Int) * (f (i + 1) - f i) := by
  have := H.lo
  refine ⟨x.toNat / 16, x.toNat % 16, by omega, by omega, by omega, by omega, ?_, ?_, rfl⟩
  · rw [Int.tdiv_eq_ediv_of_nonneg h0]; omega
  · rw [Int.tmod_eq_emod_of_nonneg h0]; omega

set_option maxRecDepth 100000 in
set_option maxHeartbeats 2000000 in
theorem specBendAt_any (a : Option Addr) (n cap : Nat) (f : Nat → Int) (hl : n ≤ 1048576) (x : Int) (w : World) (h : Px a n f w) :
    Calls Try.prog 15 #[.slice a n cap, .int .i64 x] w fun e w' => e = .returned (.tuple #[.int .i64 (bdAI n f x), .bool (bdAF n f x)]) ∧ ∃ m, w' = w.drewN m := by
  have c := specBendOk_any a n cap f hl w h
  have hln : (0 : Int) ≤ n ∧ (n : Int) ≤ 1048576 := by omega
  cases hq : bdB n f
  · have HF : Hid (bdAI n f x = 0 ∧ bdAF n f x = false) := by
      show bdAI n f x = 0 ∧ bdAF n f x = false
      unfold bdAI bdAF
      simp [hq]
    rw [hq] at c
    clear hq h
    go_enter Try.func15, Try.ntmps15
    go_wp2_with fail
    refine c.mono ?_
    rintro e w1 ⟨rfl, m, hm⟩
    have HM := hide hm
    clear hm
    go_wp2_with fail
    exact bodyPost_ret (v := .tuple #[.int .i64 0, .bool false]) (by simp [results, Try.results15, go_sem]) rfl ⟨by rw [HF.out.1, HF.out.2], _, HM.out⟩
  rw [hq] at c
  have HQ := hide hq
  clear hq
  by_cases h0 : x < 0
  · have HF : Hid (bdAI n f x = 0 ∧ bdAF n f x = false) := by
      show bdAI n f x = 0 ∧ bdAF n f x = false
      unfold bdAI bdAF
      have : ¬ 0 ≤ x := by omega
      simp [this]
    clear HQ h
    go_enter Try.func15, Try.ntmps15
    go_wp2_with fail
    refine c.mono ?_
    rintro e w1 ⟨rfl, m, hm⟩
    have HM := hide hm
    clear hm
    go_wp2_with fail
    exact bodyPost_ret (v := .tuple #[.int .i64 0, .bool false]) (by simp [results, Try.results15, go_sem]) rfl ⟨by rw [HF.out.1, HF.out.2], _, HM.out⟩
  have u1 : IntKind.i64.wrap ((n : Int) - 1) = (n : Int) - 1 := by rw [IntKind.wrap_i64]; omega
  have u2 : IntKind.i64.wrap (16 * ((n : Int) - 1)) = 16 * ((n : Int) - 1) := by rw [IntKind.wrap_i64]; omega
  by_cases h1 : 16 * ((n : Int) - 1) < x
  · have HF : Hid (bdAI n f x = 0 ∧ bdAF n f x = false) := by
      show bdAI n f x = 0 ∧ bdAF n f x = false
      unfold bdAI bdAF
      have : ¬ x ≤ 16 * ((n : Int) - 1) := by omega
      simp [this]
    clear HQ h
    go_enter Try.func15, Try.ntmps15
    go_wp2_with fail
    refine c.mono ?_
    rintro e w1 ⟨rfl, m, hm⟩
    have HM := hide hm
    clear hm
    go_wp2_with fail
    exact bodyPost_ret (v := .tuple #[.int .i64 0, .bool false]) (by simp [results, Try.results15, go_sem]) rfl ⟨by rw [HF.out.1, HF.out.2], _, HM.out⟩
  have HB := bdB_parts HQ.out
  obtain ⟨i, r, hx, hr, hi, hr1, t1, t2, hv⟩ := bdA_parts HB (by omega) (show x ≤ 16 * ((n : Int) - 1) by omega)
  have HF : Hid (bdAI n f x = 16 * f i + (r : Int) * (f (i + 1) - f i) ∧ bdAF n f x = true) := by
    show _ ∧ _
    unfold bdAI bdAF
    rw [if_pos ⟨HQ.out, by omega, by omega⟩]
    exact ⟨hv, by simp [HQ.out]; omega⟩
  have b0 := HB.at' i hi
  have u3 : IntKind.i64.wrap (16 * f i) = 16 * f i := by rw [IntKind.wrap_i64]; omega
  obtain ⟨b, off, rfl, z0⟩ := h.at hi
  have hir : (i : Int) ≤ 1048576 := by omega
  have hrr : (r : Int) < 16 := by omega
  by_cases hr0 : r = 0
  · have HV : Hid (bdAI n f x = 16 * f i) := by
      show _ = _
      rw [HF.out.1, hr0]; simp
    have HG := hide HF.out.2
    have t3 : ¬ (0 : Int) < (r : Int) := by omega
    clear h hv hr1 HQ HF HB hx
    go_enter Try.func15, Try.ntmps15
    go_wp2_with fail
    refine c.mono ?_
    rintro e w1 ⟨rfl, m, hm⟩
    have HM := hide hm
    have z0' : w1.cell? ⟨b, off + i, none⟩ = some (.int .i64 (f i)) := by rw [hm]; exact z0
    clear hm z0
    go_wp2_with fail
    exact bodyPost_ret (v := .tuple #[.int .i64 (16 * f i), .bool true]) (by simp [results, Try.results15, go_sem]) rfl ⟨by rw [HV.out, HG.out], _, HM.out⟩
  have hi1 := hr1 (by omega)
  have b1 := HB.at' (i + 1) hi1
  obtain ⟨b', off', he, z1⟩ := h.at hi1
  cases he
  have pb := Int.mul_nonneg (show (0 : Int) ≤ r by omega) (show 0 ≤ 2000 - (f (i + 1) - f i) by omega)
  have pc := Int.mul_nonneg (show (0 : Int) ≤ r by omega) (show 0 ≤ 2000 + (f (i + 1) - f i) by omega)
  rw [Int.mul_sub] at pb
  rw [Int.mul_add] at pc
  have u4 : IntKind.i64.wrap (f (i + 1) - f i) = f (i + 1) - f i := by rw [IntKind.wrap_i64]; omega
  have u5 : IntKind.i64.wrap ((r : Int) * (f (i + 1) - f i)) = (r : Int) * (f (i + 1) - f i) := by rw [IntKind.wrap_i64]; omega
  have u6 : IntKind.i64.wrap (16 * f i + (r : Int) * (f (i + 1) - f i)) = 16 * f i + (r : Int) * (f (i + 1) - f i) := by rw [IntKind.wrap_i64]; omega
  have t3 : (0 : Int) < (r : Int) := by omega
  clear h hv hr1 HQ HB hx pb pc
  go_enter Try.func15, Try.ntmps15
  go_wp2_with fail
  refine c.mono ?_
  rintro e w1 ⟨rfl, m, hm⟩
  have HM := hide hm
  have z0' : w1.cell? ⟨b, off + i, none⟩ = some (.int .i64 (f i)) := by rw [hm]; exact z0
  have z1' : w1.cell? ⟨b, off + (i + 1), none⟩ = some (.int .i64 (f (i + 1))) := by rw [hm]; exact z1
  clear hm z0 z1
  go_wp2_with fail
  go_quiet (fail)
  go_wp2_with fail
  exact bodyPost_ret (v := .tuple #[.int .i64 (16 * f i + (r : Int) * (f (i + 1) - f i)), .bool true]) (by simp [results, Try.results15, go_sem]) rfl ⟨by rw [HF.out.1, HF.out.2], _, by rw [HM.out]; exact World.drewN_drewN _ _ _⟩

theorem bdA_in {n : Nat} {f : Nat → Int} (h : bdB n f = true) {x : Nat} (hx : x ≤ 16 * (n - 1)) : bdAI n f x = bdA f x ∧ bdAF n f x = true := by
  have := (bdB_parts h).lo
  unfold bdAI bdAF
  rw [if_pos ⟨h, by omega, by omega⟩]
  exact ⟨rfl, by simp [h]; omega⟩

set_option maxRecDepth 100000 in
set_option maxHeartbeats 2000000 in
theorem specBendBack_any (a : Option Addr) (n cap : Nat) (f : Nat → Int) (hl : n ≤ 1048576) (y : Int) (w : World) (h : Px a n f w) :
    Calls Try.prog 50 #[.slice a n cap, .int .i64 y] w fun e w' => e = .returned (.tuple #[.int .i64 (bdKI n f y), .bool (bdKF n f y)]) ∧ ∃ m, w' = w.drewN m := by
  have c := specBendOk_any a n cap f hl w h
  cases hq : bdB n f
  · have HF : Hid (bdKI n f y = 0 ∧ bdKF n f y = false) := by
      show bdKI n f y = 0 ∧ bdKF n f y = false
      unfold bdKI bdKF
      simp [hq]
    rw [hq] at c
    clear hq h
    go_enter Try.func50, Try.ntmps50
    go_wp2_with fail
    refine c.mono ?_
    rintro e w1 ⟨rfl, j1, hj1⟩
    go_wp2_with fail
    exact bodyPost_ret (v := .tuple #[.int .i64 0, .bool false]) (by simp [results, Try.results50, go_sem]) rfl ⟨by rw [HF.out.1, HF.out.2], _, rfl⟩
  rw [hq] at c
  have HQ := hide hq
  have HB := hide (bdB_parts hq)
  clear hq
  have hlo := HB.out.lo
  have hhi := HB.out.hi
  obtain ⟨m, rfl⟩ : ∃ m, n = m + 1 := ⟨n - 1, by omega⟩
  have cA : ∀ x : Nat, x ≤ 16 * m → ∀ (w1 : World) (q : Nat), w1 = w.drewN q → Calls Try.prog 15 #[.slice a (m + 1) cap, .int .i64 (x : Int)] w1 fun e w' => e = .returned (.tuple #[.int .i64 (bdA f x), .bool true]) ∧ ∃ j, w' = w.drewN j := fun x hx w1 q hw => by
    subst hw
    have := specBendAt_any a (m + 1) cap f hl x (w.drewN q) (h.below (below_drewN (Below.refl _ _) q))
    obtain ⟨e1, e2⟩ := bdA_in HQ.out (x := x) hx
    rw [e1, e2] at this
    refine this.mono ?_
    rintro e w' ⟨he, j, hj⟩
    exact ⟨he, q + j, by rw [hj]; exact World.drewN_drewN _ _ _⟩
  have c0 := cA 0 (by omega)
  have c1 := cA (16 * m) (by omega)
  rw [show bdA f 0 = 16 * f 0 from bdA_mul f 0] at c0
  rw [bdA_mul] at c1
  have HC := hide cA
  have u0 : ((m + 1 : Nat) : Int) - 1 = m := by omega
  have u1 : IntKind.i64.wrap (((m + 1 : Nat) : Int) - 1) = (m : Int) := by rw [IntKind.wrap_i64]; omega
  have u2 : IntKind.i64.wrap (16 * (m : Int)) = ((16 * m : Nat) : Int) := by rw [IntKind.wrap_i64]; omega
  clear cA h
  by_cases h0 : y < 16 * f 0
  · have HF : Hid (bdKI (m + 1) f y = 0 ∧ bdKF (m + 1) f y = false) := by
      show _ ∧ _
      unfold bdKI bdKF
      have : ¬ 16 * f 0 ≤ y := by omega
      simp [this]
    clear HQ HB HC
    go_enter Try.func50, Try.ntmps50
    go_wp2_with fail
    refine c.mono ?_
    rintro e w1 ⟨rfl, j1, hj1⟩
    have W1 := hide hj1
    clear hj1
    go_wp2_with fail
    refine (c0 _ _ W1.out).mono ?_
    rintro e w2 ⟨rfl, j2, hj2⟩
    have W2 := hide hj2
    clear hj2
    go_wp2_with fail
    refine (c1 _ _ W2.out).mono ?_
    rintro e w3 ⟨rfl, j3, hj3⟩
    have W3 := hide hj3
    clear hj3
    go_wp2_with fail
    exact bodyPost_ret (v := .tuple #[.int .i64 0, .bool false]) (by simp [results, Try.results50, go_sem]) rfl ⟨by rw [HF.out.1, HF.out.2], _, W3.out⟩
  by_cases h1 : 16 * f m < y
  · have HF : Hid (bdKI (m + 1) f y = 0 ∧ bdKF (m + 1) f y = false) := by
      show _ ∧ _
      unfold bdKI bdKF
      have : ¬ y ≤ 16 * f m := by omega
      simp [this]
    clear HQ HB HC
    go_enter Try.func50, Try.ntmps50
    go_wp2_with fail
    refine c.mono ?_
    rintro e w1 ⟨rfl, j1, hj1⟩
    have W1 := hide hj1
    clear hj1
    go_wp2_with fail
    refine (c0 _ _ W1.out).mono ?_
    rintro e w2 ⟨rfl, j2, hj2⟩
    have W2 := hide hj2
    clear hj2
    go_wp2_with fail
    refine (c1 _ _ W2.out).mono ?_
    rintro e w3 ⟨rfl, j3, hj3⟩
    have W3 := hide hj3
    clear hj3
    go_wp2_with fail
    exact bodyPost_ret (v := .tuple #[.int .i64 0, .bool false]) (by simp [results, Try.results50, go_sem]) rfl ⟨by rw [HF.out.1, HF.out.2], _, W3.out⟩
  have HF : Hid (bdKI (m + 1) f y = (bdK f y (16 * m) : Nat) ∧ bdKF (m + 1) f y = true) := by
    show _ ∧ _
    unfold bdKI bdKF
    have g0 : 16 * f 0 ≤ y := by omega
    have g1 : y ≤ 16 * f m := by omega
    simp [HQ.out, g0, g1]
  have hst : bdA f 0 ≤ y := by rw [show bdA f 0 = 16 * f 0 from bdA_mul f 0]; omega
  have HST := hide hst
  clear hst HQ
  go_enter Try.func50, Try.ntmps50
  go_wp2_with fail
  refine c.mono ?_
  rintro e w1 ⟨rfl, j1, hj1⟩
  have W1 := hide hj1
  clear hj1
  go_wp2_with fail
  refine (c0 _ _ W1.out).mono ?_
  rintro e w2 ⟨rfl, j2, hj2⟩
  have W2 := hide hj2
  clear hj2
  go_wp2_with fail
  refine (c1 _ _ W2.out).mono ?_
  rintro e w3 ⟨rfl, j3, hj3⟩
  have W3 := hide hj3
  clear hj3
  go_wp2_with fail
  clear c c0 c1 h0 h1
  go_loopw [11] (fun v wr => ∃ x : Nat, x ≤ 16 * m ∧ v = .int .i64 x ∧ bdA f x ≤ y ∧ ∃ q, wr = w.drewN q) (fun v _ => 16 * m - (intOf v).toNat)
  case atStart => exact ⟨0, by omega, rfl, HST.out, _, W3.out⟩
  case round =>
    obtain ⟨x, hx, rfl, hle, q, hwr⟩ := hrel
    have HW := hide hwr
    clear hwr W1 W2 W3
    by_cases hlt : x < 16 * m
    · have c := HC.out (x + 1) (by omega) wr q HW.out
      have e1 : ((x + 1 : Nat) : Int) = (x : Int) + 1 := by omega
      rw [e1] at c
      have t1 : (x : Int) < ((16 * m : Nat) : Int) := by omega
      by_cases hn : y < bdA f (x + 1)
      · have HV : Hid (bdK f y (16 * m) = x) := bdK_is HB.out hle _ hx (by omega) (.inr hn)
        generalize bdA f (x + 1) = A at *
        clear hle HC HB e1
        go_wp2_with fail
        refine c.mono ?_
        rintro e w4 ⟨rfl, j4, hj4⟩
        have W4 := hide hj4
        clear hj4
        go_wp2_with fail
        exact bodyPost_ret (v := .tuple #[.int .i64 x, .bool true]) (by simp [results, Try.results50, go_sem]) rfl ⟨by rw [HF.out.1, HF.out.2, HV.out], _, W4.out⟩
      · have HV : Hid (bdA f (x + 1) ≤ y) := Int.not_lt.1 hn
        obtain ⟨A, hA⟩ : ∃ A, bdA f (x + 1) = A := ⟨_, rfl⟩
        rw [hA] at c hn
        clear hle HC HB e1 hA
        go_wp2_with fail
        refine c.mono ?_
        rintro e w4 ⟨rfl, j4, hj4⟩
        have W4 := hide hj4
        clear hj4
        go_wp2_with fail
        exact ⟨⟨x + 1, by omega, by go_num, HV.out, _, W4.out⟩, by simp [intOf]; omega⟩
    · obtain rfl : x = 16 * m := by omega
      have HV : Hid (bdK f y (16 * m) = 16 * m) := bdK_is HB.out hle _ (by omega) (by omega) (.inl rfl)
      clear hle HC HB
      go_wp2_with fail
      exact bodyPost_ret (v := .tuple #[.int .i64 ((16 * m : Nat) : Int), .bool true]) (by simp [results, Try.results50, go_sem]) rfl ⟨by rw [HF.out.1, HF.out.2, HV.out], _, HW.out⟩

end Go.Proofs.Ytigiddkodpcpkaa

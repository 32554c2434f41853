/- The specification's codecs: small numbers, steps, the bits of rice counted. -/
import Derived.Test.YtebcclmilplfcaaCmm
namespace Go.Proofs.Ytebcclmilplfcaa
open Go.RowKit

set_option maxRecDepth 100000 in
set_option maxHeartbeats 1000000 in
theorem l13Small_any (B : Nat) (v : Value) (m : Nat) (L : List Int) (x : Nat) (hx : x ≤ 2097151) (hm : m ≤ 1900000000) (w : World) (ho : w.ownsRow B 5 1 v m (bys L)) (hL : L.length = m) (hB : B ≤ w.heap.size) :
    Calls Try.prog 23 #[v, .int .i64 x] w fun e w' => ∃ v', e = .returned v' ∧ w'.ownsRow B 5 1 v' (L ++ smL x).length (bys (L ++ smL x)) ∧ Below B w w' := by
  have HO0 := hide ho
  have HB0 := hide hB
  clear ho hB
  go_enter Try.func23, Try.ntmps23
  go_wp2_with fail
  go_loopw [0, 1] (fun u q wr => ∃ (z : Nat) (M : List Int), z ≤ x ∧ q = .int .i64 z ∧ M ++ smL z = L ++ smL x ∧ wr.ownsRow B 5 1 u M.length (bys M) ∧ Below B w wr) (fun _ q _ => (intOf q).toNat)
  case atStart => exact ⟨x, L, Nat.le_refl _, rfl, rfl, by rw [hL]; exact HO0.out, Below.refl _ _⟩
  case round =>
    obtain ⟨z, M, hz, rfl, hM, hox, hb⟩ := hrel
    have HO := hide hox
    have HB := hide hb
    have HZ : Hid (B ≤ wr.heap.size) := Nat.le_trans HB0.out hb.size
    clear hox hb HO0
    have HN : Hid (M.length + 1 ≤ 2000000000) := by
      show _ ≤ _
      have h1 := congrArg List.length hM
      have h2 := (smL_len x hx).2
      simp only [List.length_append] at h1
      omega
    by_cases hlt : 127 < z
    · have HM2 : Hid ((M ++ [128 + (z : Int) % 128]) ++ smL (z / 128) = L ++ smL x) := by
        show _ = _
        rw [← hM, smL_big hlt, List.append_assoc]; rfl
      have e1 : (z : Int).tmod 128 = (z : Int) % 128 := Int.tmod_eq_emod_of_nonneg (by omega)
      have e2 : (z : Int).tdiv 128 = ((z / 128 : Nat) : Int) := by rw [Int.tdiv_eq_ediv_of_nonneg (by omega)]; omega
      have w1 : IntKind.i64.wrap ((z : Int) % 128) = (z : Int) % 128 := by rw [IntKind.wrap_i64]; omega
      have w2 : IntKind.i64.wrap (128 + (z : Int) % 128) = 128 + (z : Int) % 128 := by rw [IntKind.wrap_i64]; omega
      have w3 : IntKind.u8.wrap (128 + (z : Int) % 128) = 128 + (z : Int) % 128 := by rw [IntKind.wrap_u8]; omega
      have w4 : IntKind.i64.wrap ((z / 128 : Nat) : Int) = ((z / 128 : Nat) : Int) := by rw [IntKind.wrap_i64]; omega
      clear hM
      go_wp2_with (refine growUG _ rfl _ _ rfl B _ M.length M rfl w HO.out HB.out HZ.out [128 + (z : Int) % 128] 1 rfl rfl HN.out ?_)
      intro v' w' ho' hb' hs'
      have HO' : Hid (w'.ownsRow B 5 1 v' (M ++ [128 + (z : Int) % 128]).length (bys (M ++ [128 + (z : Int) % 128]))) := by
        show World.ownsRow _ _ _ _ _ _ _
        rw [List.length_append]; exact ho'
      have HB' := hide hb'
      clear ho' hb' hs' HO HB
      go_wp2_with fail
      go_roundw
      case rel => exact ⟨z / 128, _, by omega, by go_num, HM2.out, HO'.out, HB'.out⟩
      case measure => simp [intOf]; omega
    · have HM2 : Hid (L ++ smL x = M ++ [(z : Int)]) := by
        show _ = _
        rw [← hM, smL_low (by omega)]
      have w3 : IntKind.u8.wrap (z : Int) = (z : Int) := by rw [IntKind.wrap_u8]; omega
      clear hM
      go_wp2_with (refine growUG _ rfl _ _ rfl B _ M.length M rfl w HO.out HB.out HZ.out [(z : Int)] 1 rfl rfl HN.out ?_)
      intro v' w' ho' hb' hs'
      have HO' : Hid (w'.ownsRow B 5 1 v' (L ++ smL x).length (bys (L ++ smL x))) := by
        show World.ownsRow _ _ _ _ _ _ _
        rw [HM2.out, List.length_append]; exact ho'
      have HB' := hide hb'
      clear ho' hb' hs' HO HB
      go_wp2_with fail
      go_ret
      exact ⟨_, rfl, HO'.out, HB'.out⟩

theorem l13Step_any (a b : Int) (h0 : 0 ≤ a) (h1 : a ≤ 65535) (h2 : 0 ≤ b) (h3 : b ≤ 65535) (w : World) : Calls Try.prog 25 #[.int .i64 a, .int .i64 b] w fun e w' => e = .returned (.int .i64 (stpV a b)) ∧ w' = w := by
  by_cases h : b ≤ a
  · have e1 : ((stpV a b : Nat) : Int) = 2 * (a - b) := by unfold stpV; rw [if_pos h]; omega
    rw [e1]
    go_enter Try.func25, Try.ntmps25
    go_wp2
    go_ret
    exact ⟨rfl, rfl⟩
  · have e1 : ((stpV a b : Nat) : Int) = 2 * (b - a) - 1 := by unfold stpV; rw [if_neg h]; omega
    rw [e1]
    go_enter Try.func25, Try.ntmps25
    go_wp2
    go_ret
    exact ⟨rfl, rfl⟩

set_option maxHeartbeats 1000000 in
theorem l13Rice_any (a : Option Addr) (n cap : Nat) (f : Nat → Int) (hn : n ≤ 65536) (ht : tnB f n) (k : Nat) (hk : k ≤ 15) (w : World) (h : Px a n f w) :
    Calls Try.prog 26 #[.slice a n cap, .int .i64 k] w fun e w' => e = .returned (.int .i64 (rcN f k n)) ∧ ∃ d, w' = w.drewN d := by
  have HP := hide h
  have HT := hide ht
  have HN := hide (rcN_bd ht k hk)
  have c2 := l13Two_any k (by omega)
  have hp0 := pow_pos2 k
  clear h ht
  go_enter Try.func26, Try.ntmps26
  go_wp2
  go_loopw [5, 6] (fun x i wr => ∃ j d : Nat, j ≤ n ∧ i = .int .i64 j ∧ x = .int .i64 (rcN f k j) ∧ wr = w.drewN d) (fun _ i _ => n - (intOf i).toNat)
  case atStart => exact ⟨0, 0, by omega, rfl, rfl, rfl⟩
  case round =>
    obtain ⟨j, d, hj, rfl, rfl, rfl⟩ := hrel
    have hN := HN.out j hj
    by_cases hlt : j < n
    · obtain ⟨b, off, rfl, hz⟩ := HP.out.at hlt
      have hfk := HT.out j hlt
      have hd0 : 0 ≤ f j / 2 ^ k := Int.ediv_nonneg hfk.1 (Int.le_of_lt (pow_pos2 k))
      have hd1 : f j / 2 ^ k ≤ 65535 := Int.le_trans (Int.ediv_le_self _ hfk.1) hfk.2
      have HX : Hid (((rcN f k (j + 1) : Nat) : Int) = (rcN f k j : Int) + f j / 2 ^ k + 1 + k) := by show _ = _; simp only [rcN]; omega
      have e1 : (f j).tdiv (2 ^ k) = f j / 2 ^ k := Int.tdiv_eq_ediv_of_nonneg hfk.1
      generalize rcN f k j = R at *
      generalize (2 : Int) ^ k = P at *
      generalize hF : f j = F at *
      generalize hD : F / P = D at *
      have hP1 : ¬ P = 0 := by omega
      clear HP HT HN hF hD
      have q0 : IntKind.i64.wrap D = D := by rw [IntKind.wrap_i64]; omega
      have q1 : IntKind.i64.wrap ((R : Int) + D) = (R : Int) + D := by rw [IntKind.wrap_i64]; omega
      have q2 : IntKind.i64.wrap ((R : Int) + D + 1) = (R : Int) + D + 1 := by rw [IntKind.wrap_i64]; omega
      have q3 : IntKind.i64.wrap ((R : Int) + D + 1 + k) = (R : Int) + D + 1 + k := by rw [IntKind.wrap_i64]; omega
      go_upto_region 5 with fail
      go_region_with (go_at_call 27; (with_reducible refine (c2 _).mono ?_); rintro e w1 ⟨rfl, rfl⟩)
      all_goals
        go_wp2_with fail
        go_roundw
        case rel => exact ⟨j + 1, d + 1, hlt, by go_num, by rw [HX.out], rfl⟩
        case measure => simp [intOf]; omega
    · obtain rfl : j = n := by omega
      go_wp2
      go_ret
      exact ⟨rfl, _, rfl⟩

end Go.Proofs.Ytebcclmilplfcaa

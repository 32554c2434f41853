/- The law FnBitsBack, walked: bits and floats go there and back. -/
import Derived.Test.YtepgelalkfgdlaaDrawOrd
import Derived.Test.YtepgelalkfgdlaaLawShortBits
import Derived.Test.YtepgelalkfgdlaaOrdC
import Derived.Test.YtepgelalkfgdlaaBig
namespace Go.Proofs.Ytepgelalkfgdlaa
open Ieee Go.RowKit Fl

theorem toBits_spec' (b : Nat) (h : isNaN b ∨ b < 2 ^ 64) (w : World) :
    Calls Try.prog 24 #[.float .f64 b] w fun e w' => e = .returned (.int .u64 (canon b)) ∧ w' = w := by
  by_cases hn : isNaN b
  · have ho := order_nan b b hn
    rw [canon_nan hn]
    go_enter Try.func24, Try.ntmps24
    go_wp2
    go_ret
    exact ⟨rfl, rfl⟩
  · exact toBits_spec b (h.resolve_left hn) w

theorem toBits_impl' (b : Nat) (h : isNaN b ∨ b < 2 ^ 64) (w : World) :
    Calls Try.prog 22 #[.float .f64 b] w fun e w' => e = .returned (.int .u64 (canon b)) ∧ w' = w := by
  by_cases hn : isNaN b
  · have ho := order_nan b b hn
    rw [canon_nan hn]
    have hi := isNaN_any b
    rw [ho] at hi
    clear ho
    go_enter Try.func22, Try.ntmps22
    go_wp2_with fail
    refine (hi _).mono ?_
    rintro e w' ⟨rfl, rfl⟩
    go_wp2_with fail
    go_ret
    exact ⟨rfl, rfl⟩
  · exact toBits_impl b (h.resolve_left hn) w

theorem SB_nan {b : Nat} (h : isNaN b) : SB b = 2143289345 := if_pos h

theorem short_spec' (b : Nat) (h : isNaN b ∨ b < 2 ^ 64) (w : World) :
    Calls Try.prog 27 #[.float .f64 b] w fun e w' => e = .returned (.int .u32 (SB b)) ∧ w' = w := by
  by_cases hn : isNaN b
  · have ho := order_nan b b hn
    rw [SB_nan hn]
    go_enter Try.func27, Try.ntmps27
    go_wp2_with fail
    go_ret
    exact ⟨rfl, rfl⟩
  · exact short_spec b (h.resolve_left hn) w

theorem short_impl' (b : Nat) (h : isNaN b ∨ b < 2 ^ 64) (w : World) :
    Calls Try.prog 29 #[.float .f64 b] w fun e w' => e = .returned (.int .u32 (SB b)) ∧ ∃ k, w' = w.drewN k := by
  by_cases hn : isNaN b
  · have hi := isNaN_any b
    rw [order_nan b b hn] at hi
    rw [SB_nan hn]
    go_enter Try.func29, Try.ntmps29
    go_wp2_with fail
    refine (hi _).mono ?_
    rintro e w' ⟨rfl, rfl⟩
    go_wp2_with fail
    go_ret
    exact ⟨rfl, 0, rfl⟩
  · exact short_impl b (h.resolve_left hn) w

theorem canon_same {a b : Nat} (h : same a b) : canon a = canon b := by
  rcases h with rfl | ⟨h1, h2⟩
  · rfl
  · rw [canon_nan h1, canon_nan h2]
theorem SB_same {a b : Nat} (h : same a b) : SB a = SB b := by
  rcases h with rfl | ⟨h1, h2⟩
  · rfl
  · rw [SB_nan h1, SB_nan h2]
theorem okey_same {a b : Nat} (h : same a b) : okey a = okey b := by
  rcases h with rfl | ⟨h1, h2⟩
  · rfl
  · rw [okey_nan h1, okey_nan h2]
theorem same_lt {a b : Nat} (h : same a b) (hb : b < 2 ^ 64) : isNaN a ∨ a < 2 ^ 64 := by
  rcases h with rfl | ⟨h1, h2⟩
  · exact .inr hb
  · exact .inl h1
theorem same_canon (b : Nat) : same (canon b) b := by
  by_cases hn : isNaN b
  · rw [canon_nan hn]; exact .inr ⟨nan_word, hn⟩
  · rw [canon_no hn]; exact .inl rfl
theorem canon_lt' (b : Nat) (h : b < 2 ^ 64) : canon b < 2 ^ 64 := by
  unfold canon; split <;> omega

theorem SVal.lt {b x : Nat} (h : SVal b x) : isNaN x ∨ x < 2 ^ 64 := by
  obtain ⟨y, h1, h2⟩ := h
  have hl := inf_lt
  have hy : isNaN y ∨ y < 2 ^ 63 := by
    rcases h1 with ⟨_, _, h3⟩ | ⟨_, _, h3⟩ | ⟨_, _, h3, _⟩ | ⟨_, _, h3, _⟩
    · exact .inl h3
    · exact .inr (by omega)
    · exact .inr (by omega)
    · exact .inr (by omega)
  rcases h2 with h2 | ⟨h2, _⟩
  · rcases hy with hy | hy
    · refine .inl ?_
      rw [h2]
      split
      · unfold isNaN; rw [rung_fneg]; exact hy
      · exact hy
    · refine .inr ?_
      rw [h2]
      split
      · rw [fneg_pos y hy]; omega
      · omega
  · exact .inl h2

theorem SB_lt (b : Nat) (hb : b < 2 ^ 64) : SB b < 2 ^ 32 := by
  unfold SB
  split
  · omega
  · have h1 := sh32_le (rung b / 2 ^ 52) (rung b % 2 ^ 52) (Nat.mod_lt _ (by decide))
    have h2 : sgn b ≤ 1 := by unfold sgn; omega
    generalize sh32 (rung b / 2 ^ 52) (rung b % 2 ^ 52) = x at *
    omega

theorem drawTo_any (a : Option Addr) (len cap : Nat) (w : World) (h : Bytes a len w) :
    Calls Try.prog 19 #[.slice a len cap] w fun e w' => (∃ x : Nat, x < 2 ^ 64 ∧ e = .returned (.float .f64 x)) ∧ Below w.heap.size w w' := by
  have hn := new_any a len cap w h
  have hcn := cur_new a len cap w h
  clear h
  go_enter Try.func19, Try.ntmps19
  go_wp2_with fail
  refine hn.mono ?_
  rintro e w1 ⟨x, rfl, hw1⟩
  have hc1 : Cur w.heap.size a len cap w1 := by rw [hw1]; exact hcn x
  have B1 : Below w.heap.size w w1 := by rw [hw1]; exact (Below.refl _ _).alloc (Nat.le_refl _) _
  clear hn hcn hw1
  have hf1 := float_any w.heap.size a len cap w1 hc1
  go_wp2_with fail
  refine hf1.mono ?_
  rintro e w2 ⟨f, hf, rfl, hc2, hk2⟩
  have HF : Hid (f < 2 ^ 64) := hf
  clear hf1 hf
  go_wp2_with fail
  go_ret
  exact ⟨⟨_, HF.out, rfl⟩, B1.trans (hk2.below (Nat.le_refl _) B1.size)⟩

theorem drawFrom_any (a : Option Addr) (len cap : Nat) (w : World) (h : Bytes a len w) :
    Calls Try.prog 23 #[.slice a len cap] w fun e w' => (∃ x : Nat, x < 2 ^ 64 ∧ e = .returned (.int .u64 (x : Int))) ∧ Below w.heap.size w w' := by
  have hn := new_any a len cap w h
  have hcn := cur_new a len cap w h
  clear h
  go_enter Try.func23, Try.ntmps23
  go_wp2_with fail
  refine hn.mono ?_
  rintro e w1 ⟨x, rfl, hw1⟩
  have hc1 : Cur w.heap.size a len cap w1 := by rw [hw1]; exact hcn x
  have B1 : Below w.heap.size w w1 := by rw [hw1]; exact (Below.refl _ _).alloc (Nat.le_refl _) _
  clear hn hcn hw1
  have ho1 := once_any w.heap.size a len cap w1 hc1 2 (by omega) (by omega)
  go_wp2_with fail
  refine ho1.mono ?_
  rintro e w2 ⟨q, rfl, hc2, hk2⟩
  have B2 := B1.trans (hk2.below (Nat.le_refl _) B1.size)
  clear ho1 B1 hk2 hc1
  cases q
  · have hu := u64_any w.heap.size a len cap w2 hc2
    go_wp2_with fail
    refine hu.mono ?_
    rintro e w3 ⟨n, hn, rfl, hc3, hk3⟩
    have HN : Hid (n < 2 ^ 64) := hn
    clear hu hn
    go_wp2_with fail
    go_ret
    exact ⟨⟨_, HN.out, rfl⟩, B2.trans (hk3.below (Nat.le_refl _) B2.size)⟩
  · have hf1 := float_any w.heap.size a len cap w2 hc2
    go_wp2_with fail
    refine hf1.mono ?_
    rintro e w3 ⟨f, hf, rfl, hc3, hk3⟩
    have ht := toBits_spec f hf
    have HF : Hid (canon f < 2 ^ 64) := canon_lt' f hf
    clear hf1 hf
    generalize canon f = c at *
    go_wp2_with fail
    refine (ht _).mono ?_
    rintro e w' ⟨rfl, rfl⟩
    go_wp2_with fail
    go_ret
    exact ⟨⟨_, HF.out, rfl⟩, B2.trans (hk3.below (Nat.le_refl _) B2.size)⟩

theorem drawShort_any (a : Option Addr) (len cap : Nat) (w : World) (h : Bytes a len w) :
    Calls Try.prog 26 #[.slice a len cap] w fun e w' => (∃ x : Nat, x < 2 ^ 32 ∧ e = .returned (.int .u32 (x : Int))) ∧ Below w.heap.size w w' := by
  have hn := new_any a len cap w h
  have hcn := cur_new a len cap w h
  clear h
  go_enter Try.func26, Try.ntmps26
  go_wp2_with fail
  refine hn.mono ?_
  rintro e w1 ⟨x, rfl, hw1⟩
  have hc1 : Cur w.heap.size a len cap w1 := by rw [hw1]; exact hcn x
  have B1 : Below w.heap.size w w1 := by rw [hw1]; exact (Below.refl _ _).alloc (Nat.le_refl _) _
  clear hn hcn hw1
  have ho1 := once_any w.heap.size a len cap w1 hc1 3 (by omega) (by omega)
  go_wp2_with fail
  refine ho1.mono ?_
  rintro e w2 ⟨q, rfl, hc2, hk2⟩
  have B2 := B1.trans (hk2.below (Nat.le_refl _) B1.size)
  clear ho1 B1 hk2 hc1
  cases q
  · have hu := u64_any w.heap.size a len cap w2 hc2
    go_wp2_with fail
    refine hu.mono ?_
    rintro e w3 ⟨n, hn, rfl, hc3, hk3⟩
    clear hu hn
    go_wp2_with fail
    go_ret
    refine ⟨⟨n % 2 ^ 32, Nat.mod_lt _ (by decide), ret_int ?_⟩, B2.trans (hk3.below (Nat.le_refl _) B2.size)⟩
    omega
  · have hf1 := float_any w.heap.size a len cap w2 hc2
    go_wp2_with fail
    refine hf1.mono ?_
    rintro e w3 ⟨f, hf, rfl, hc3, hk3⟩
    have ht := short_spec f hf
    have HF : Hid (SB f < 2 ^ 32) := SB_lt f hf
    clear hf1 hf
    generalize SB f = c at *
    go_wp2_with fail
    refine (ht _).mono ?_
    rintro e w' ⟨rfl, rfl⟩
    go_wp2_with fail
    go_ret
    exact ⟨⟨_, HF.out, rfl⟩, B2.trans (hk3.below (Nat.le_refl _) B2.size)⟩

set_option maxHeartbeats 2000000 in
theorem fnBitsBack_walk (a0 : Option Addr) (l0 c0 : Nat) (w : World) (h0 : Bytes a0 l0 w) :
    Calls Try.prog 3 #[.slice a0 l0 c0] w fun e w' => e = .returned (.bool true) ∧ Below w.heap.size w w' := by
  have g0 := big_any a0 l0 c0
  by_cases q0 : 1048576 < l0
  · rw [decide_eq_true q0] at g0
    clear q0
    go_enter Try.func3, Try.ntmps3
    go_wp2_with fail
    refine (g0 _).mono ?_
    rintro e w' ⟨rfl, rfl⟩
    go_wp2_with fail
    go_ret
    exact ⟨rfl, Below.refl _ _⟩
  · rw [decide_eq_false q0] at g0
    clear q0
    have d0 := drawTo_any a0 l0 c0 w h0
    go_enter Try.func3, Try.ntmps3
    go_wp2_with fail
    refine (g0 _).mono ?_
    rintro e w' ⟨rfl, rfl⟩
    go_wp2_with fail
    refine d0.mono ?_
    rintro e w1 ⟨⟨x, hx, rfl⟩, b1⟩
    clear d0 g0
    have t1 := toBits_impl x hx
    have t2 := fromBits_impl (canon x) (canon_lt' x hx)
    have k1 := same_canon x
    clear hx
    go_wp2_with fail
    refine (t1 _).mono ?_
    rintro e w' ⟨rfl, rfl⟩
    clear t1
    go_wp2_with fail
    refine (t2 _).mono ?_
    rintro e w2 ⟨y, n, rfl, hw2, hy⟩
    have b2 := below_drewN b1 n
    rw [← hw2] at b2
    clear t2 hw2 b1
    have o1 := order_spec y x
    rw [okey_same (same_trans hy k1)] at o1
    have oz : cmpI (okey x) (okey x) = 0 := by unfold cmpI; rw [if_neg (by omega), if_neg (by omega)]
    rw [oz] at o1
    clear hy k1 oz
    go_wp2_with fail
    refine (o1 _).mono ?_
    rintro e w' ⟨rfl, rfl⟩
    clear o1
    have d1 := drawFrom_any a0 l0 c0 _ (h0.below b2)
    go_wp2_with fail
    refine d1.mono ?_
    rintro e w3 ⟨⟨b, hb, rfl⟩, b3'⟩
    have b3 := b2.trans (b3'.mono b2.size)
    clear d1 b2 b3'
    have t1 := fromBits_spec b hb
    have t2 := fromBits_impl b hb
    have HB : Hid (b < 2 ^ 64) := hb
    clear hb
    go_wp2_with fail
    refine (t1 _).mono ?_
    rintro e w4 ⟨y, n, rfl, hw4, hy⟩
    have b4 := below_drewN b3 n
    rw [← hw4] at b4
    clear t1 hw4 b3
    have t3 := toBits_spec' y (same_lt hy HB.out)
    rw [canon_same hy] at t3
    clear hy
    go_wp2_with fail
    refine (t3 _).mono ?_
    rintro e w' ⟨rfl, rfl⟩
    clear t3
    by_cases hq : canon b = b
    · have hq1 : ((canon b : Int) == (b : Int)) = true := by rw [hq]; simp
      have hq2 : ((canon b : Int) != (b : Int)) = false := by rw [hq]; simp
      go_wp2_with fail
      refine (t2 _).mono ?_
      rintro e w5 ⟨y2, n, rfl, hw5, hy⟩
      have b5 := below_drewN b4 n
      rw [← hw5] at b5
      have t3 := toBits_impl' y2 (same_lt hy HB.out)
      rw [canon_same hy] at t3
      clear t2 hw5 b4 hy hq HB
      go_wp2_with fail
      refine (t3 _).mono ?_
      rintro e w' ⟨rfl, rfl⟩
      clear t3
      go_wp2_with fail
      have d2 := drawShort_any a0 l0 c0 _ (h0.below b5)
      refine d2.mono ?_
      rintro e w6 ⟨⟨s, hs, rfl⟩, b6'⟩
      have b6 := b5.trans (b6'.mono b5.size)
      clear d2 b5 b6' h0
      have t1 := fromShort_spec s hs
      have t2 := fromShort_impl s hs
      clear hs
      go_wp2_with fail
      refine (t1 _).mono ?_
      rintro e w7 ⟨x1, n, rfl, hw7, hx1⟩
      have b7 := below_drewN b6 n
      rw [← hw7] at b7
      have u1 := short_spec' x1 hx1.lt
      clear t1 hw7 b6
      go_wp2_with fail
      refine (u1 _).mono ?_
      rintro e w' ⟨rfl, rfl⟩
      clear u1
      by_cases hz : SB x1 = s
      · have hz1 : ((SB x1 : Int) != (s : Int)) = false := by rw [hz]; simp
        have hz2 : ((SB x1 : Int) == (s : Int)) = true := by rw [hz]; simp
        clear hz
        go_wp2_with fail
        refine (t2 _).mono ?_
        rintro e w8 ⟨x2, n2, rfl, hw8, hx2⟩
        have b8 := below_drewN b7 n2
        rw [← hw8] at b8
        have u2 := short_impl' x2 hx2.lt
        rw [SB_same (hx2.same hx1)] at u2
        clear t2 hw8 b7 hx1 hx2
        go_wp2_with fail
        refine (u2 _).mono ?_
        rintro e w9 ⟨rfl, m, hw9⟩
        have b9 := below_drewN b8 m
        rw [← hw9] at b9
        clear u2 hw9 b8
        go_wp2_with fail
        go_ret
        exact ⟨rfl, b9⟩
      · have hz1 : ((SB x1 : Int) != (s : Int)) = true := by rw [bne_iff_ne]; omega
        clear hz
        go_wp2_with fail
        go_ret
        exact ⟨rfl, b7⟩
    · have hq1 : ((canon b : Int) == (b : Int)) = false := by rw [beq_eq_false_iff_ne]; omega
      clear t2 hq HB
      go_wp2_with fail
      have d2 := drawShort_any a0 l0 c0 _ (h0.below b4)
      refine d2.mono ?_
      rintro e w6 ⟨⟨s, hs, rfl⟩, b6'⟩
      have b6 := b4.trans (b6'.mono b4.size)
      clear d2 b4 b6' h0
      have t1 := fromShort_spec s hs
      have t2 := fromShort_impl s hs
      clear hs
      go_wp2_with fail
      refine (t1 _).mono ?_
      rintro e w7 ⟨x1, n, rfl, hw7, hx1⟩
      have b7 := below_drewN b6 n
      rw [← hw7] at b7
      have u1 := short_spec' x1 hx1.lt
      clear t1 hw7 b6
      go_wp2_with fail
      refine (u1 _).mono ?_
      rintro e w' ⟨rfl, rfl⟩
      clear u1
      by_cases hz : SB x1 = s
      · have hz1 : ((SB x1 : Int) != (s : Int)) = false := by rw [hz]; simp
        have hz2 : ((SB x1 : Int) == (s : Int)) = true := by rw [hz]; simp
        clear hz
        go_wp2_with fail
        refine (t2 _).mono ?_
        rintro e w8 ⟨x2, n2, rfl, hw8, hx2⟩
        have b8 := below_drewN b7 n2
        rw [← hw8] at b8
        have u2 := short_impl' x2 hx2.lt
        rw [SB_same (hx2.same hx1)] at u2
        clear t2 hw8 b7 hx1 hx2
        go_wp2_with fail
        refine (u2 _).mono ?_
        rintro e w9 ⟨rfl, m, hw9⟩
        have b9 := below_drewN b8 m
        rw [← hw9] at b9
        clear u2 hw9 b8
        go_wp2_with fail
        go_ret
        exact ⟨rfl, b9⟩
      · have hz1 : ((SB x1 : Int) != (s : Int)) = true := by rw [bne_iff_ne]; omega
        clear hz
        go_wp2_with fail
        go_ret
        exact ⟨rfl, b7⟩

end Go.Proofs.Ytepgelalkfgdlaa

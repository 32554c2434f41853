/- The law on Move, walked. -/
import Derived.Test.YtedhaakjgnpehaaMvs
import Derived.Test.YtedhaakjgnpehaaMvj
import Derived.Test.YtedhaakjgnpehaaOw2
namespace Go.Proofs.Ytedhaakjgnpehaa
open Go.RowKit

abbrev pl4 (a b c d : Int) : Value := .agg #[.int .i64 a, .int .i64 b, .int .i64 c, .int .i64 d]
theorem movV_is (D : Int) (n0 : Nat) (M : Nat → Int) (n1 : Nat) (T : Nat → Int) (x y z : Int) : ∃ a b c d, movV D n0 M n1 T x y z = pl4 a b c d := by
  unfold movV
  split
  · exact ⟨_, _, _, _, rfl⟩
  · exact ⟨_, _, _, _, rfl⟩
set_option maxRecDepth 100000 in
theorem eqPlace_any (a b c d : Int) (w : World) : Calls Try.prog 17 #[pl4 a b c d, pl4 a b c d] w fun e w' => e = .returned (.bool true) ∧ Below w.heap.size w w' := by
  have qa : (a != a) = false := by simp
  have qb : (b != b) = false := by simp
  have qc : (c != c) = false := by simp
  have qd : (d != d) = false := by simp
  have HB := hide (((St.start w).box [.int .i64 a, .int .i64 b, .int .i64 c, .int .i64 d] 36).box' [.int .i64 a, .int .i64 b, .int .i64 c, .int .i64 d] 36 (b := w.heap.size + 1) (by simp)).below
  go_enter Try.func17, Try.ntmps17
  go_wp2_with fail
  go_ret
  exact ⟨rfl, HB.out⟩

set_option maxRecDepth 100000 in
set_option maxHeartbeats 4000000 in
theorem fnExactMove_walk (D0 : Int) (a0 : Option Addr) (n0 cap0 : Nat) (f0 : Nat → Int) (hl0 : n0 ≤ maxLen) (d0 : Option Addr) (m0 dap0 : Nat) (g0 : Nat → Int) (hm0 : m0 ≤ maxLen) (x y z : Int) (w : World) (h0 : Px a0 (n0) f0 w) (k0 : Px d0 m0 g0 w) :
    Calls Try.prog 5 #[vFrame D0 a0 n0 cap0 d0 m0 dap0, .int .i64 x, .int .i64 y, .int .i64 z] w fun e w' => e = .returned (.bool true) ∧ Below w.heap.size w w' := by
  unfold maxLen at hl0 hm0
  have HS0 := hide ((St.start w).box [.slice a0 n0 cap0, .slice d0 m0 dap0, .int .i64 D0] 24)
  have HP0 := hide h0
  have HK0 := hide k0
  clear h0 k0
  have hz0 := szFrame_any D0 a0 n0 cap0 d0 m0 dap0 (1048576) (by omega) (by omega) (by omega) (by omega)
  by_cases hb0 : (1048576 : Int) < ((n0 : Int) + (m0 : Int))
  · rw [if_pos hb0] at hz0
    clear hb0 hl0 hm0
    go_enter Try.func5, Try.ntmps5
    go_wp2_with fail
    refine (hz0 _).mono ?_
    rintro e wz0 ⟨rfl, hb⟩
    have HZ0 := hide (HS0.out.next hb)
    clear hb
    have HB := hide HZ0.out.below
    go_wp2_with fail
    go_ret
    exact ⟨rfl, HB.out⟩
  rw [if_neg hb0] at hz0
  have hn0 : ¬ (1048576 - ((n0 : Int) + (m0 : Int)) : Int) < 0 := by omega
  have hL0 : n0 ≤ 1048576 := by omega
  have hM0 : m0 ≤ 1048576 := by omega
  have hN : n0 + m0 ≤ 1048576 := by omega
  have cT0 := fun w' h k => toFrame_any D0 a0 n0 cap0 f0 hL0 d0 m0 dap0 g0 hM0 w' h k
  have cA0 := fun b b' d d' w' h h' k k' => eqFrame_any D0 (some ⟨b, 0, none⟩) (some ⟨b', 0, none⟩) n0 n0 n0 f0 hL0 (some ⟨d, 0, none⟩) (some ⟨d', 0, none⟩) m0 m0 m0 g0 hM0 w' h h' k k'
  have cS := fun b0 e0 w' h0 k0 => specMove_any D0 b0 n0 n0 f0 hL0 e0 m0 m0 g0 hM0 x y z w' h0 k0
  have cI := fun b0 e0 w' h0 k0 => implMove_any D0 b0 n0 n0 f0 hL0 e0 m0 m0 g0 hM0 x y z w' h0 k0
  obtain ⟨pa, pb, pc, pd, hpl⟩ := movV_is D0 n0 f0 m0 g0 x y z
  rw [hpl] at cS cI
  have cE := eqPlace_any pa pb pc pd
  clear hl0 hm0 hN hpl
  go_enter Try.func5, Try.ntmps5
  go_wp2_with fail
  refine (hz0 _).mono ?_
  rintro e v1 ⟨rfl, hb⟩
  have HS1 := hide (HS0.out.next hb)
  clear HS0 hb hz0
  obtain ⟨i0, i1, i2⟩ := HS1.out.im3 0 rfl
  go_wp2_with fail
  refine (cT0 _ (HP0.out.below HS1.out.below) (HK0.out.below HS1.out.below)).mono ?_
  rintro e v2 ⟨b1q, b1qe, rfl, h2, hr, h2', hr', hne, hb⟩
  have HS2 := hide (HS1.out.own2 hb hr.v (.inr h2) hr'.v (.inr h2') (.inr (.inr hne)))
  clear HS1 hb hr h2 hr' h2' hne i0 i1 i2
  have p0 := (HS2.out.nthO 1 rfl).px
  have pe0 := (HS2.out.nthO 0 rfl).px
  go_wp2_with fail
  refine (cS _ _ _ p0 pe0).mono ?_
  rintro e v3 ⟨rfl, hb⟩
  have HS3 := hide (HS2.out.next hb)
  clear HS2 hb p0 pe0 cS
  have HS3b := hide (HS3.out.box [.int .i64 pa, .int .i64 pb, .int .i64 pc, .int .i64 pd] 36)
  go_upto_region 6 with fail
  generalize hx : World.alloc v3 (.cells [.int .i64 pa, .int .i64 pb, .int .i64 pc, .int .i64 pd].toArray 36) = v3b at HS3b
  have hy3 : World.alloc v3 (.cells #[.int .i64 pa, .int .i64 pb, .int .i64 pc, .int .i64 pd] 36) = v3b := hx
  try rw [hy3]
  clear hx hy3 HS3
  generalize v3.heap.size = qs at *
  obtain ⟨i0, i1, i2⟩ := HS3b.out.im3 1 rfl
  go_wp2_with fail
  refine (cT0 _ (HP0.out.below HS3b.out.below) (HK0.out.below HS3b.out.below)).mono ?_
  rintro e v4 ⟨b3q, b3qe, rfl, h2, hr, h2', hr', hne, hb⟩
  have HS4 := hide (HS3b.out.own2 hb hr.v (.inr h2) hr'.v (.inr h2') (.inr (.inr hne)))
  clear HS3b hb hr h2 hr' h2' hne i0 i1 i2
  have HS5 := hide (HS4.out.box [.slice (some ⟨b3q, 0, none⟩) n0 n0, .slice (some ⟨b3qe, 0, none⟩) m0 m0, .int .i64 D0] 26)
  go_upto_region 7 with fail
  generalize hx : World.alloc v4 (.cells [.slice (some ⟨b3q, 0, none⟩) n0 n0, .slice (some ⟨b3qe, 0, none⟩) m0 m0, .int .i64 D0].toArray 26) = v5 at HS5
  have hy5 : World.alloc v4 (.cells #[.slice (some ⟨b3q, 0, none⟩) n0 n0, .slice (some ⟨b3qe, 0, none⟩) m0 m0, .int .i64 D0] 26) = v5 := hx
  try rw [hy5]
  clear hx hy5 HS4
  generalize v4.heap.size = qf at *
  obtain ⟨i0, i1, i2⟩ := HS5.out.im3 0 rfl
  have p0 := (HS5.out.nthO 1 rfl).px
  have pe0 := (HS5.out.nthO 0 rfl).px
  go_wp2_with fail
  refine (cI _ _ _ p0 pe0).mono ?_
  rintro e v6 ⟨rfl, hb⟩
  have HS6 := hide (HS5.out.next hb)
  clear HS5 hb p0 pe0 i0 i1 i2 cI
  have HS7 := hide (HS6.out.box [.int .i64 pa, .int .i64 pb, .int .i64 pc, .int .i64 pd] 36)
  go_upto_region 8 with fail
  generalize hx : World.alloc v6 (.cells [.int .i64 pa, .int .i64 pb, .int .i64 pc, .int .i64 pd].toArray 36) = v7 at HS7
  have hy7 : World.alloc v6 (.cells #[.int .i64 pa, .int .i64 pb, .int .i64 pc, .int .i64 pd] 36) = v7 := hx
  try rw [hy7]
  clear hx hy7 HS6
  generalize v6.heap.size = qi at *
  have u0 := HS7.out.cell 0 rfl 0 rfl
  have u1 := HS7.out.cell 0 rfl 1 rfl
  have u2 := HS7.out.cell 0 rfl 2 rfl
  have u3 := HS7.out.cell 0 rfl 3 rfl
  have s0 := HS7.out.cell 2 rfl 0 rfl
  have s1 := HS7.out.cell 2 rfl 1 rfl
  have s2 := HS7.out.cell 2 rfl 2 rfl
  have s3 := HS7.out.cell 2 rfl 3 rfl
  go_wp2_with fail
  refine (cE _).mono ?_
  rintro e v8 ⟨rfl, hb⟩
  have HS8 := hide (HS7.out.next hb)
  clear HS7 hb cE u0 u1 u2 u3 s0 s1 s2 s3
  obtain ⟨i0, i1, i2⟩ := HS8.out.im3 3 rfl
  obtain ⟨j0, j1, j2⟩ := HS8.out.im3 1 rfl
  go_upto_region 10 with fail
  go_region_with (first
    | (go_at_call 8; (with_reducible refine (cT0 _ (HP0.out.below HS8.out.drew.below) (HK0.out.below HS8.out.drew.below)).mono ?_); rintro e wq ⟨b3, b3e, rfl, -, hr, -, hr', -, hb⟩; have HQ := hide (HS8.out.drew.next hb); obtain ⟨k0, k1, k2⟩ := HQ.out.im3 1 rfl)
    | (go_at_call 10; (with_reducible refine (cA0 _ _ _ _ _ (HQ.out.nthO 1 rfl).px hr.px (HQ.out.nthO 0 rfl).px hr'.px).mono ?_); rintro e wp ⟨rfl, hb11⟩))
  all_goals
    have HS9 := hide (HQ.out.next hb11)
    clear hb hr hb11 HQ HS8 k0 k1 k2 i0 i1 i2 j0 j1 j2 hr'
    have HB := hide HS9.out.below
    clear HS9
    go_wp2_with fail
    go_ret
    exact ⟨rfl, HB.out⟩

end Go.Proofs.Ytedhaakjgnpehaa

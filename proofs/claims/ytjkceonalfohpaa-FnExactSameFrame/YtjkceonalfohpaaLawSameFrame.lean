/- The law on SameFrame, walked. -/
import Derived.Test.YtjkceonalfohpaaSs7
import Derived.Test.YtjkceonalfohpaaOw2
import Derived.Deep.RegionHeld3
import Derived.Deep.DrawnRows
namespace Go.Proofs.Ytjkceonalfohpaa
open Go.RowKit

set_option maxRecDepth 100000 in
set_option maxHeartbeats 4000000 in
theorem fnExactSameFrame_walk (D0 : Int) (a0 : Option Addr) (n0 cap0 : Nat) (f0 : Nat → Int) (hl0 : n0 ≤ maxLen) (d0 : Option Addr) (m0 dap0 : Nat) (g0 : Nat → Int) (hm0 : m0 ≤ maxLen) (D1 : Int) (a1 : Option Addr) (n1 cap1 : Nat) (f1 : Nat → Int) (hl1 : n1 ≤ maxLen) (d1 : Option Addr) (m1 dap1 : Nat) (g1 : Nat → Int) (hm1 : m1 ≤ maxLen) (w : World) (h0 : Px a0 (n0) f0 w) (k0 : Px d0 m0 g0 w) (h1 : Px a1 (n1) f1 w) (k1 : Px d1 m1 g1 w) :
    Calls Try.prog 6 #[vFrame D0 a0 n0 cap0 d0 m0 dap0, vFrame D1 a1 n1 cap1 d1 m1 dap1] w fun e w' => e = .returned (.bool true) ∧ Below w.heap.size w w' := by
  unfold maxLen at hl0 hm0 hl1 hm1
  have HS0 := hide (((St.start w).box [.slice a0 n0 cap0, .slice d0 m0 dap0, .int .i64 D0] 48).box' [.slice a1 n1 cap1, .slice d1 m1 dap1, .int .i64 D1] 48 (b := w.heap.size + 1) (by simp))
  have HP0 := hide h0
  have HK0 := hide k0
  have HP1 := hide h1
  have HK1 := hide k1
  clear h0 k0 h1 k1
  have hz0 := szFrame_any D0 a0 n0 cap0 d0 m0 dap0 (1048576) (by omega) (by omega) (by omega) (by omega)
  by_cases hb0 : (1048576 : Int) < ((n0 : Int) + (m0 : Int))
  · rw [if_pos hb0] at hz0
    clear hb0 hl0 hm0 hl1 hm1
    go_enter Try.func6, Try.ntmps6
    go_wp2_with fail
    refine (hz0 _).mono ?_
    rintro e wz0 ⟨rfl, hb⟩
    have HZ0 := hide (HS0.out.next hb)
    clear hb
    have HB := hide HZ0.out.below
    go_wp2_with fail
    go_ret
    exact ⟨rfl, HB.out⟩
  rw [if_neg hb0] at hz0
  have hn0 : ¬ (1048576 - ((n0 : Int) + (m0 : Int)) : Int) < 0 := by omega
  have hz1 := szFrame_any D1 a1 n1 cap1 d1 m1 dap1 (1048576 - ((n0 : Int) + (m0 : Int))) (by omega) (by omega) (by omega) (by omega)
  by_cases hb1 : (1048576 - ((n0 : Int) + (m0 : Int)) : Int) < ((n1 : Int) + (m1 : Int))
  · rw [if_pos hb1] at hz1
    clear hb1 hl0 hm0 hl1 hm1
    go_enter Try.func6, Try.ntmps6
    go_wp2_with fail
    refine (hz0 _).mono ?_
    rintro e wz0 ⟨rfl, hb⟩
    have HZ0 := hide (HS0.out.next hb)
    clear hb
    obtain ⟨i0, i1, i2⟩ := HZ0.out.im3 0 rfl
    go_wp2_with fail
    refine (hz1 _).mono ?_
    rintro e wz1 ⟨rfl, hb⟩
    have HZ1 := hide (HZ0.out.next hb)
    clear hb
    have HB := hide HZ1.out.below
    go_wp2_with fail
    go_ret
    exact ⟨rfl, HB.out⟩
  rw [if_neg hb1] at hz1
  have hn1 : ¬ (1048576 - ((n0 : Int) + (m0 : Int)) - ((n1 : Int) + (m1 : Int)) : Int) < 0 := by omega
  have hL0 : n0 ≤ 1048576 := by omega
  have hM0 : m0 ≤ 1048576 := by omega
  have hL1 : n1 ≤ 1048576 := by omega
  have hM1 : m1 ≤ 1048576 := by omega
  have hN : n0 + m0 + n1 + m1 ≤ 1048576 := by omega
  have cT0 := fun w' h k => toFrame_any D0 a0 n0 cap0 f0 hL0 d0 m0 dap0 g0 hM0 w' h k
  have cA0 := fun b b' d d' w' h h' k k' => eqFrame_any D0 (some ⟨b, 0, none⟩) (some ⟨b', 0, none⟩) n0 n0 n0 f0 hL0 (some ⟨d, 0, none⟩) (some ⟨d', 0, none⟩) m0 m0 m0 g0 hM0 w' h h' k k'
  have cT1 := fun w' h k => toFrame_any D1 a1 n1 cap1 f1 hL1 d1 m1 dap1 g1 hM1 w' h k
  have cA1 := fun b b' d d' w' h h' k k' => eqFrame_any D1 (some ⟨b, 0, none⟩) (some ⟨b', 0, none⟩) n1 n1 n1 f1 hL1 (some ⟨d, 0, none⟩) (some ⟨d', 0, none⟩) m1 m1 m1 g1 hM1 w' h h' k k'
  have cS := fun b0 e0 b1 e1 w' h0 k0 h1 k1 => specSameFrame_any D0 b0 n0 n0 f0 hL0 e0 m0 m0 g0 hM0 D1 b1 n1 n1 f1 hL1 e1 m1 m1 g1 hM1 w' h0 k0 h1 k1
  have cI := fun b0 e0 b1 e1 w' h0 k0 h1 k1 => implSameFrame_any D0 b0 n0 n0 f0 hL0 e0 m0 m0 g0 hM0 D1 b1 n1 n1 f1 hL1 e1 m1 m1 g1 hM1 w' h0 k0 h1 k1
  generalize samB D0 n0 f0 m0 g0 D1 n1 f1 m1 g1 = rB at *
  clear hl0 hm0 hl1 hm1 hN
  have qb : (rB != rB) = false := by simp
  go_enter Try.func6, Try.ntmps6
  go_wp2_with fail
  refine (hz0 _).mono ?_
  rintro e v1 ⟨rfl, hb⟩
  have HS1 := hide (HS0.out.next hb)
  clear HS0 hb hz0
  obtain ⟨i0, i1, i2⟩ := HS1.out.im3 0 rfl
  go_wp2_with fail
  refine (hz1 _).mono ?_
  rintro e v2 ⟨rfl, hb⟩
  have HS2 := hide (HS1.out.next hb)
  clear HS1 hb hz1 i0 i1 i2
  obtain ⟨i0, i1, i2⟩ := HS2.out.im3 1 rfl
  obtain ⟨j0, j1, j2⟩ := HS2.out.im3 0 rfl
  have SKa := hide (And.intro i0 (And.intro i1 (And.intro i2 (And.intro j0 (And.intro j1 (j2))))))
  go_upto_region 8 with fail
  go_region_held3 (fun (w' : World) => w'.cell? ⟨w.heap.size, 0, none⟩ = some (.slice a0 n0 cap0) ∧ w'.cell? ⟨w.heap.size, 1, none⟩ = some (.slice d0 m0 dap0) ∧ w'.cell? ⟨w.heap.size, 2, none⟩ = some (.int .i64 D0) ∧ w'.cell? ⟨w.heap.size + 1, 0, none⟩ = some (.slice a1 n1 cap1) ∧ w'.cell? ⟨w.heap.size + 1, 1, none⟩ = some (.slice d1 m1 dap1) ∧ w'.cell? ⟨w.heap.size + 1, 2, none⟩ = some (.int .i64 D1))
    (first | exact SKa.out | exact SK0 | exact SK1 | exact SK2)
    (first
      | (go_at_call 38; (with_reducible refine (cT0 _ (HP0.out.below HS2.out.drew.below) (HK0.out.below HS2.out.drew.below)).mono ?_); rintro e wq0 ⟨b1q, b1qe, rfl, h2_0, hr_0, h3_0, hs_0, hne_0, hb_0⟩; have HQ0 := hide (HS2.out.drew.own2 hb_0 hr_0.v (.inr h2_0) hs_0.v (.inr h3_0) (.inr (.inr hne_0))); obtain ⟨y0_0_0, y0_0_1, y0_0_2⟩ := HQ0.out.im3 1 rfl; obtain ⟨y0_1_0, y0_1_1, y0_1_2⟩ := HQ0.out.im3 0 rfl; have SK0 := And.intro y0_0_0 (And.intro y0_0_1 (And.intro y0_0_2 (And.intro y0_1_0 (And.intro y0_1_1 (y0_1_2))))))
      | (go_at_call 38; (with_reducible refine (cT1 _ (HP1.out.below HQ0.out.below) (HK1.out.below HQ0.out.below)).mono ?_); rintro e wq1 ⟨b2q, b2qe, rfl, h2_1, hr_1, h3_1, hs_1, hne_1, hb_1⟩; have HQ1 := hide (HQ0.out.own2 hb_1 hr_1.v (.inr h2_1) hs_1.v (.inr h3_1) (.inr (.inr hne_1))); obtain ⟨y1_0_0, y1_0_1, y1_0_2⟩ := HQ1.out.im3 1 rfl; obtain ⟨y1_1_0, y1_1_1, y1_1_2⟩ := HQ1.out.im3 0 rfl; have SK1 := And.intro y1_0_0 (And.intro y1_0_1 (And.intro y1_0_2 (And.intro y1_1_0 (And.intro y1_1_1 (y1_1_2))))))
      | (go_at_call 41; (with_reducible refine (cS _ _ _ _ _ (HQ1.out.nthO 3 rfl).px (HQ1.out.nthO 2 rfl).px (HQ1.out.nthO 1 rfl).px (HQ1.out.nthO 0 rfl).px).mono ?_); rintro e wq2 ⟨rfl, hb⟩; have HQ2 := hide (HQ1.out.next hb); obtain ⟨y2_0_0, y2_0_1, y2_0_2⟩ := HQ2.out.im3 1 rfl; obtain ⟨y2_1_0, y2_1_1, y2_1_2⟩ := HQ2.out.im3 0 rfl; have SK2 := And.intro y2_0_0 (And.intro y2_0_1 (And.intro y2_0_2 (And.intro y2_1_0 (And.intro y2_1_1 (y2_1_2)))))))
  have HS3 := hide HQ2.out
  clear SKa h2_0 hr_0 h3_0 hs_0 hne_0 hb_0 y0_0_0 y0_0_1 y0_0_2 y0_1_0 y0_1_1 y0_1_2 SK0 h2_1 hr_1 h3_1 hs_1 hne_1 hb_1 y1_0_0 y1_0_1 y1_0_2 y1_1_0 y1_1_1 y1_1_2 SK1 y2_0_0 y2_0_1 y2_0_2 y2_1_0 y2_1_1 y2_1_2 SK2 hb HQ0 HQ1 HQ2 HS2 cS i0 i1 i2 j0 j1 j2
  obtain ⟨i0, i1, i2⟩ := HS3.out.im3 1 rfl
  go_wp2_with fail
  refine (cT0 _ (HP0.out.below HS3.out.below) (HK0.out.below HS3.out.below)).mono ?_
  rintro e v3 ⟨b4q, b4qe, rfl, h2, hr, h2', hr', hne, hb⟩
  have HS4 := hide (HS3.out.own2 hb hr.v (.inr h2) hr'.v (.inr h2') (.inr (.inr hne)))
  clear HS3 hb hr h2 hr' h2' hne i0 i1 i2
  have HS5 := hide (HS4.out.box [.slice (some ⟨b4q, 0, none⟩) n0 n0, .slice (some ⟨b4qe, 0, none⟩) m0 m0, .int .i64 D0] 26)
  generalize hx : World.alloc _ (.cells [.slice (some ⟨b4q, 0, none⟩) n0 n0, .slice (some ⟨b4qe, 0, none⟩) m0 m0, .int .i64 D0].toArray 26) = v4 at HS5
  have hy : World.alloc _ (.cells #[.slice (some ⟨b4q, 0, none⟩) n0 n0, .slice (some ⟨b4qe, 0, none⟩) m0 m0, .int .i64 D0] 26) = v4 := hx
  clear hx HS4
  obtain ⟨i0, i1, i2⟩ := HS5.out.im3 1 rfl
  go_wp2_with fail
  refine (cT1 _ (HP1.out.below HS5.out.below) (HK1.out.below HS5.out.below)).mono ?_
  rintro e v5 ⟨b5q, b5qe, rfl, h2, hr, h2', hr', hne, hb⟩
  have HS6 := hide (HS5.out.own2 hb hr.v (.inr h2) hr'.v (.inr h2') (.inr (.inr hne)))
  clear HS5 hb hr h2 hr' h2' hne i0 i1 i2
  have HS7 := hide (HS6.out.box [.slice (some ⟨b5q, 0, none⟩) n1 n1, .slice (some ⟨b5qe, 0, none⟩) m1 m1, .int .i64 D1] 26)
  generalize hx : World.alloc _ (.cells [.slice (some ⟨b5q, 0, none⟩) n1 n1, .slice (some ⟨b5qe, 0, none⟩) m1 m1, .int .i64 D1].toArray 26) = v6 at HS7
  have hy : World.alloc _ (.cells #[.slice (some ⟨b5q, 0, none⟩) n1 n1, .slice (some ⟨b5qe, 0, none⟩) m1 m1, .int .i64 D1] 26) = v6 := hx
  clear hx HS6
  obtain ⟨i0, i1, i2⟩ := HS7.out.im3 1 rfl
  obtain ⟨j0, j1, j2⟩ := HS7.out.im3 0 rfl
  have p0 := (HS7.out.nthO 3 rfl).px
  have pe0 := (HS7.out.nthO 2 rfl).px
  have p1 := (HS7.out.nthO 1 rfl).px
  have pe1 := (HS7.out.nthO 0 rfl).px
  go_wp2_with fail
  refine (cI _ _ _ _ _ p0 pe0 p1 pe1).mono ?_
  rintro e v7 ⟨rfl, hb⟩
  have HS8 := hide (HS7.out.next hb)
  clear HS7 hb p0 pe0 p1 pe1 i0 i1 i2 j0 j1 j2
  obtain ⟨i0, i1, i2⟩ := HS8.out.im3 3 rfl
  obtain ⟨j0, j1, j2⟩ := HS8.out.im3 1 rfl
  go_upto_region 14 with fail
  go_region_with (first
    | (go_at_call 38; (with_reducible refine (cT0 _ (HP0.out.below HS8.out.drew.below) (HK0.out.below HS8.out.drew.below)).mono ?_); rintro e wq ⟨b3, b3e, rfl, -, hr, -, hr', -, hb⟩; have HQ := hide (HS8.out.drew.next hb); obtain ⟨k0, k1, k2⟩ := HQ.out.im3 1 rfl)
    | (go_at_call 40; (with_reducible refine (cA0 _ _ _ _ _ (HQ.out.nthO 3 rfl).px hr.px (HQ.out.nthO 2 rfl).px hr'.px).mono ?_); rintro e wp ⟨rfl, hb11⟩))
  all_goals
    have HS9 := hide (HQ.out.next hb11)
    clear hb hr hb11 HQ HS8 k0 k1 k2 i0 i1 i2 j0 j1 j2 hr'
    obtain ⟨i0, i1, i2⟩ := HS9.out.im3 2 rfl
    obtain ⟨j0, j1, j2⟩ := HS9.out.im3 0 rfl
    go_upto_region 16 with fail
    go_region_with (first
      | (go_at_call 38; (with_reducible refine (cT1 _ (HP1.out.below HS9.out.drew.below) (HK1.out.below HS9.out.drew.below)).mono ?_); rintro e wq ⟨b3, b3e, rfl, -, hr, -, hr', -, hb⟩; have HQ := hide (HS9.out.drew.next hb); obtain ⟨k0, k1, k2⟩ := HQ.out.im3 0 rfl)
      | (go_at_call 40; (with_reducible refine (cA1 _ _ _ _ _ (HQ.out.nthO 1 rfl).px hr.px (HQ.out.nthO 0 rfl).px hr'.px).mono ?_); rintro e wp ⟨rfl, hb11⟩))
    all_goals
      have HS10 := hide (HQ.out.next hb11)
      clear hb hr hb11 HQ HS9 k0 k1 k2 i0 i1 i2 j0 j1 j2 hr'
      have HB := hide HS10.out.below
      clear HS10
      go_wp2_with fail
      go_ret
      exact ⟨rfl, HB.out⟩

end Go.Proofs.Ytjkceonalfohpaa

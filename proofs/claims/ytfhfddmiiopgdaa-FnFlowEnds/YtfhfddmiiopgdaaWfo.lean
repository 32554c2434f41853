/- Flows: when an order, a flow is right: the program's way. -/
import Derived.Test.YtfhfddmiiopgdaaFln
import Derived.Test.YtfhfddmiiopgdaaFlo
import Derived.Lib.MinMax
import Derived.BigRegion
import Derived.Test.YtfhfddmiiopgdaaQup
namespace Go.Proofs.Ytfhfddmiiopgdaa
open Go.RowKit

theorem below_drewN {B : Nat} {w w' : World} (h : Below B w w') (d : Nat) : Below B w (w'.drewN d) := ⟨h.os, h.tape, h.output, h.size, h.block⟩

set_option maxRecDepth 100000 in
theorem isId_any (x : Int) (w : World) :
    Calls Try.prog 33 #[.int .i64 x] w fun e w' => e = .returned (.bool (inB x 0 1000000)) ∧ w' = w := by
  have c := within_any x 0 1000000
  generalize inB x 0 1000000 = B at *
  go_enter Try.func33, Try.ntmps33
  go_wp2_with fail
  refine (c _).mono ?_
  rintro e w1 ⟨rfl, rfl⟩
  go_wp2_with fail
  go_ret
  exact ⟨rfl, rfl⟩

set_option maxRecDepth 100000 in
set_option maxHeartbeats 1000000 in
theorem isOrder_any (i s d e c : Int) (w : World) :
    Calls Try.prog 22 #[vOrder i s d e, .int .i64 c] w fun r w' => r = .returned (.bool (orB c i s d e)) ∧ Below w.heap.size w w' := by
  have HB := hide (bnew w (cOrder i s d e 41))
  have c0 := isId_any i
  have c1 := within_any d 1 1000000000
  have HD : Hid (inB d 1 1000000000 = true → 1 ≤ d ∧ d ≤ 1000000000) := fun h => (inB_iff _ _ _).1 h
  unfold orB
  generalize inB i 0 1000000 = B0 at *
  generalize inB d 1 1000000000 = B1 at *
  go_enter Try.func22, Try.ntmps22
  go_wp2_with fail
  refine (c0 _).mono ?_
  rintro r w1 ⟨rfl, rfl⟩
  clear c0
  cases B0
  · go_wp2_with fail
    go_ret
    exact ⟨rfl, HB.out⟩
  go_wp2_with fail
  refine (c1 _).mono ?_
  rintro r w1 ⟨rfl, rfl⟩
  clear c1
  cases B1
  · go_wp2_with fail
    go_ret
    exact ⟨rfl, HB.out⟩
  have hd := HD.out rfl
  clear HD
  by_cases h1 : s = 1
  · subst h1
    have HV : Hid (stB c 1 d e = (decide (e = 0) && decide (c ≤ d))) := rfl
    by_cases he : e = 0
    · subst he
      go_wp2_with fail
      go_ret
      exact ⟨by rw [HV.out]; simp, HB.out⟩
    · have he2 : (e == 0) = false := by simpa using he
      go_wp2_with fail
      go_ret
      exact ⟨by rw [HV.out]; simp [he], HB.out⟩
  by_cases h2 : s = 2
  · subst h2
    have HV : Hid (stB c 2 d e = (decide (e = 0) && decide (c ≤ d))) := rfl
    by_cases he : e = 0
    · subst he
      go_wp2_with fail
      go_ret
      exact ⟨by rw [HV.out]; simp, HB.out⟩
    · have he2 : (e == 0) = false := by simpa using he
      go_wp2_with fail
      go_ret
      exact ⟨by rw [HV.out]; simp [he], HB.out⟩
  have cm := within_any e 0 (min d c)
  by_cases h3 : s = 3
  · subst h3
    have HV : Hid (stB c 3 d e = inB e 0 (min d c)) := rfl
    go_wp2_with fail
    refine (cm _).mono ?_
    rintro r w1 ⟨rfl, rfl⟩
    go_wp2_with fail
    go_ret
    exact ⟨by rw [HV.out]; simp, HB.out⟩
  by_cases h4 : s = 4
  · subst h4
    have HV : Hid (stB c 4 d e = inB e 0 (min d c)) := rfl
    go_wp2_with fail
    refine (cm _).mono ?_
    rintro r w1 ⟨rfl, rfl⟩
    go_wp2_with fail
    go_ret
    exact ⟨by rw [HV.out]; simp, HB.out⟩
  clear cm
  by_cases h5 : s = 5
  · subst h5
    have HV : Hid (stB c 5 d e = (decide (e = d + 1) && decide (e ≤ c))) := rfl
    by_cases he : e = d + 1
    · subst he
      go_wp2_with fail
      go_ret
      exact ⟨by rw [HV.out]; simp, HB.out⟩
    · have he2 : (e == d + 1) = false := by simpa using he
      go_wp2_with fail
      go_ret
      exact ⟨by rw [HV.out]; simp [he], HB.out⟩
  have HV : Hid (stB c s d e = false) := by show _ = _; unfold stB; rw [if_neg (by omega), if_neg (by omega), if_neg h5]
  go_wp2_with fail
  go_ret
  exact ⟨by rw [HV.out]; rfl, HB.out⟩

theorem flAt_no {c : Int} {g : Nat → Int} {k : Nat} (hk : k ≠ 0) (h : g (k * 4) ≤ g ((k - 1) * 4)) : flAt c g k = false := by
  unfold flAt
  rw [decide_eq_false hk, decide_eq_false (by omega : ¬ g ((k - 1) * 4) < g (k * 4))]; rfl
theorem flAt_or {c : Int} {g : Nat → Int} {k : Nat} (h : k = 0 ∨ g ((k - 1) * 4) < g (k * 4)) : flAt c g k = orB c (g (k * 4)) (g (k * 4 + 1)) (g (k * 4 + 2)) (g (k * 4 + 3)) := by
  unfold flAt
  rcases h with h | h
  · rw [decide_eq_true h]; rfl
  · rw [decide_eq_true h]; simp

theorem cell_up {w w' : World} (hb : Below w.heap.size w w') {p : Addr} {v : Value} (h : w.cell? p = some v) : w'.cell? p = some v := (hb.cell (World.block_lt_of_cell? _ _ h)).trans h

set_option maxRecDepth 100000 in
set_option maxHeartbeats 2000000 in
theorem implFlowOk_any (x : Int) (a : Option Addr) (n cap : Nat) (g : Nat → Int) (hl : n ≤ 1048576) (w : World) (h : Px a (n * 4) g w) :
    Calls Try.prog 9 #[vFlow x a n cap] w fun e w' => e = .returned (.bool (flB x g n)) ∧ Below w.heap.size w w' := by
  obtain ⟨W, hW⟩ : ∃ W, W = w.alloc (.cells #[.int .i64 x, .slice a n cap] 28) := ⟨_, rfl⟩
  have hWB : Below w.heap.size w W := by rw [hW]; exact bnew _ _
  have hWs : w.heap.size < W.heap.size := by rw [hW]; simp
  have i0 : W.cell? ⟨w.heap.size, 0, none⟩ = some (.int .i64 x) := by rw [hW]; simp [go_sem]
  have i1 : W.cell? ⟨w.heap.size, 1, none⟩ = some (.slice a n cap) := by rw [hW]; simp [go_sem]
  have HI : Hid (∀ wz, Below W.heap.size W wz → wz.cell? ⟨w.heap.size, 0, none⟩ = some (.int .i64 x) ∧ wz.cell? ⟨w.heap.size, 1, none⟩ = some (.slice a n cap)) := fun wz hb => ⟨(hb.cell (p := ⟨w.heap.size, 0, none⟩) hWs).trans i0, (hb.cell (p := ⟨w.heap.size, 1, none⟩) hWs).trans i1⟩
  have hW' := hW.symm
  have HWB := hide hWB
  have HP := hide (h.below hWB)
  have c0 := within_any x 0 1000000000
  clear h hW hWB hWs
  cases hc : inB x 0 1000000000
  · rw [hc] at c0
    have HV := hide (flB_clock (g := g) (n := n) hc)
    clear hc HP HI
    go_enter Try.func9, Try.ntmps9
    go_wp2_with fail
    refine (c0 _).mono ?_
    rintro r w1 ⟨rfl, rfl⟩
    go_wp2_with fail
    go_ret
    exact ⟨by rw [HV.out]; rfl, HWB.out⟩
  rw [hc] at c0
  by_cases hn : n ≤ 500
  · have hn2 : ¬ (500 : Int) < n := by omega
    have HC := hide hc
    clear hc
    go_enter Try.func9, Try.ntmps9
    go_wp2_with fail
    refine (c0 _).mono ?_
    rintro r w1 ⟨rfl, rfl⟩
    clear c0
    go_wp2_with fail
    clear hW' i0 i1
    go_loopw [18] (fun i wr => ∃ k : Nat, k ≤ n ∧ i = .int .i64 k ∧ (∀ j, j < k → flAt x g j = true) ∧ Below w1.heap.size w1 wr) (fun i _ => n - (intOf i).toNat)
    case atStart => exact ⟨0, by omega, rfl, fun j hj => by omega, Below.refl _ _⟩
    case round =>
      obtain ⟨k, hk, rfl, hA, hb⟩ := hrel
      have HA := hide hA
      have HB := hide hb
      clear hA hb
      by_cases hlt : k < n
      · obtain ⟨b, off, rfl, hbl, z0, z1, z2, z3⟩ := (HP.out.below HB.out).atOrder hlt
        have cO := isOrder_any (g (k * 4)) (g (k * 4 + 1)) (g (k * 4 + 2)) (g (k * 4 + 3)) x
        obtain ⟨wb, hwb⟩ : ∃ wb, wb = wr.alloc (cOrder (g (k * 4)) (g (k * 4 + 1)) (g (k * 4 + 2)) (g (k * 4 + 3)) 41) := ⟨_, rfl⟩
        have hbb : Below wr.heap.size wr wb := by rw [hwb]; exact bnew _ _
        obtain ⟨q0, q1, q2, q3⟩ : BOrder wr.heap.size (g (k * 4)) (g (k * 4 + 1)) (g (k * 4 + 2)) (g (k * 4 + 3)) wb := by rw [hwb]; exact BOrder.new _ _ _ _ _ _
        have HB4 : Hid (Below w1.heap.size w1 wb) := bnext HB.out (Nat.le_refl _) hbb
        obtain ⟨j0, j1⟩ := HI.out wb HB4.out
        have hwb' := hwb.symm
        have HBd : Hid (∀ d, Below w.heap.size w (wb.drewN d)) := fun d => below_drewN (bnext HWB.out (Nat.le_refl _) HB4.out) d
        have HF := hide (fun h => flB_bad (c := x) (g := g) (n := n) hlt h)
        have HBd0 : Hid (Below w1.heap.size w1 wb.drew) := HB4.out.drew
        by_cases hk0 : k = 0
        · subst hk0
          have HV : Hid (flAt x g 0 = orB x (g (0 * 4)) (g (0 * 4 + 1)) (g (0 * 4 + 2)) (g (0 * 4 + 3))) := flAt_or (.inl rfl)
          simp only [Nat.zero_mul, Nat.zero_add, Nat.add_zero] at z0 z1 z2 z3 q0 q1 q2 q3 cO hwb' HV
          generalize orB x (g 0) (g 1) (g 2) (g 3) = OB at *
          generalize g 0 = y0 at *
          generalize g 1 = y1 at *
          generalize g 2 = y2 at *
          generalize g 3 = y3 at *
          clear hwb hbb HB hbl HP
          have SK : Nonempty (Up wb) := up_ne wb
          go_upto_region 6 with fail
          have u_j0 := fun p : Up wb => p.cell j0
          have u_j1 := fun p : Up wb => p.cell j1
          have u_q0 := fun p : Up wb => p.cell q0
          have u_q1 := fun p : Up wb => p.cell q1
          have u_q2 := fun p : Up wb => p.cell q2
          have u_q3 := fun p : Up wb => p.cell q3
          refine region_up (by kernel_rfl) (by kernel_rfl) ?_
          repeat (go_big_quiet_step ((go_at_call 22; exact calls_up (cO _))))
          refine wpQuiet_nil ?_
          intro _ hw2
          obtain ⟨pq, hw3⟩ := hw2
          subst hw3
          have hb2 := pq.below
          generalize pq.w = w2 at *
          all_goals
            have HB5 := hide (bnext HB4.out (Nat.le_refl _) hb2)
            clear SK u_j0 u_j1 u_q0 u_q1 u_q2 u_q3 hb2 hwb' z0 z1 z2 z3 q0 q1 q2 q3 j0 j1 cO HBd0 HB4 HBd
            cases OB
            · have HFF : Hid (Below w.heap.size w w2) := bnext HWB.out (Nat.le_refl _) HB5.out
              go_wp2_with fail
              go_ret
              exact ⟨by rw [HF.out HV.out]; rfl, HFF.out⟩
            · go_wp2_with fail
              refine ⟨⟨1, by omega, rfl, fun j hj => ?_, HB5.out⟩, by simp [intOf]; omega⟩
              by_cases e : j = 0
              · rw [e]; exact HV.out
              · exact HA.out j (by omega)
        · obtain ⟨J, hJ⟩ : ∃ J, J = k - 1 := ⟨_, rfl⟩
          have hkz : decide (0 < k) = true := decide_eq_true (by omega)
          have hJ1 : (k : Int) - 1 = (J : Int) := by omega
          have hJ2 : J < n := by omega
          obtain ⟨b', off', hbe, -, p0, -, -, -⟩ := (HP.out.below HB4.out).atOrder (k := J) hJ2
          cases hbe
          by_cases hle : g (k * 4) ≤ g ((k - 1) * 4)
          · have HV := hide (HF.out (flAt_no hk0 hle))
            rw [← hJ] at hle
            clear hJ
            generalize g (k * 4) = y0 at *
            generalize g (k * 4 + 1) = y1 at *
            generalize g (k * 4 + 2) = y2 at *
            generalize g (k * 4 + 3) = y3 at *
            generalize g (J * 4) = y4 at *
            clear hwb hbb HB hbl HP hk0 HF HA cO HBd0 HB4
            have HB6 := hide (HBd.out 1)
            go_upto_region 6 with fail
            go_region
            all_goals
              go_wp2_with fail
              go_ret
              exact ⟨by rw [HV.out]; rfl, HB6.out⟩
          · have HV : Hid (flAt x g k = orB x (g (k * 4)) (g (k * 4 + 1)) (g (k * 4 + 2)) (g (k * 4 + 3))) := flAt_or (.inr (by omega))
            rw [← hJ] at hle
            clear hJ
            generalize orB x (g (k * 4)) (g (k * 4 + 1)) (g (k * 4 + 2)) (g (k * 4 + 3)) = OB at *
            generalize g (k * 4) = y0 at *
            generalize g (k * 4 + 1) = y1 at *
            generalize g (k * 4 + 2) = y2 at *
            generalize g (k * 4 + 3) = y3 at *
            generalize g (J * 4) = y4 at *
            clear hwb hbb HB hbl HP hk0
            have SK : Nonempty (Up wb) := up_ne wb
            go_upto_region 6 with fail
            have u_j0 := fun p : Up wb => p.cell j0
            have u_j1 := fun p : Up wb => p.cell j1
            have u_q0 := fun p : Up wb => p.cell q0
            have u_q1 := fun p : Up wb => p.cell q1
            have u_q2 := fun p : Up wb => p.cell q2
            have u_q3 := fun p : Up wb => p.cell q3
            have u_p0 := fun p : Up wb => p.cell p0
            refine region_up (by kernel_rfl) (by kernel_rfl) ?_
            repeat (go_big_quiet_step ((go_at_call 22; exact calls_up (cO _))))
            refine wpQuiet_nil ?_
            intro _ hw2
            obtain ⟨pq, hw3⟩ := hw2
            subst hw3
            have hb2 := pq.below
            generalize pq.w = w2 at *
            all_goals
              have HB5 := hide (bnext HB4.out (Nat.le_refl _) hb2)
              clear SK u_j0 u_j1 u_q0 u_q1 u_q2 u_q3 u_p0 hb2 p0 hwb' z0 z1 z2 z3 q0 q1 q2 q3 j0 j1 cO HBd0 HB4 HBd
              cases OB
              · have HFF : Hid (Below w.heap.size w w2) := bnext HWB.out (Nat.le_refl _) HB5.out
                go_wp2_with fail
                go_ret
                exact ⟨by rw [HF.out HV.out]; rfl, HFF.out⟩
              · go_wp2_with fail
                refine ⟨⟨k + 1, by omega, rfl, fun j hj => ?_, HB5.out⟩, by simp [intOf]; omega⟩
                by_cases e : j = k
                · rw [e]; exact HV.out
                · exact HA.out j (by omega)
      · obtain rfl : k = n := by omega
        have HR : Hid (flB x g k = true) := flB_ok HC.out hn HA.out
        have HFF : Hid (Below w.heap.size w wr) := bnext HWB.out (Nat.le_refl _) HB.out
        clear HA HB HP
        go_wp2_with fail
        go_ret
        exact ⟨by rw [HR.out]; rfl, HFF.out⟩
  · rw [flB_big hn]
    have hn2 : (500 : Int) < n := by omega
    clear hc HP HI
    go_enter Try.func9, Try.ntmps9
    go_wp2_with fail
    refine (c0 _).mono ?_
    rintro r w1 ⟨rfl, rfl⟩
    go_wp2_with fail
    go_ret
    exact ⟨rfl, HWB.out⟩

end Go.Proofs.Ytfhfddmiiopgdaa

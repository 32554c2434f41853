/- The law FnMulTurns, walked. -/
import Derived.Test.YtbhomfgponhemaaMulC
import Derived.Test.YtbhomfgponhemaaZBig
import Derived.Test.YtbhomfgponhemaaZDrawCx3
import Derived.Deep.RegionHeld
namespace Go.Proofs.Ytbhomfgponhemaa.Z
open Ieee Go.RowKit Fl
attribute [local go_sem] run_store_float alloc_drewN setCell_drewN shape?_drewN eqM eq00

/-- two floats that lie in a block -/
def H2 (p x y : Nat) (w : World) : Prop := w.cell? ⟨p, 0, none⟩ = some (.float .f64 x) ∧ w.cell? ⟨p, 1, none⟩ = some (.float .f64 y)
theorem H2.below {p x y : Nat} {w w' : World} (h : H2 p x y w) (hb : Below w.heap.size w w') : H2 p x y w' :=
  have hl : p < w.heap.size := World.block_lt_of_cell? w _ h.1
  ⟨(hb.cell (p := ⟨p, 0, none⟩) hl).trans h.1, (hb.cell (p := ⟨p, 1, none⟩) hl).trans h.2⟩
theorem H2.drew {p x y : Nat} {w : World} (h : H2 p x y w) : H2 p x y w.drew := h
theorem Box.drew {p x y : Nat} {w : World} (h : Box p x y w) : Box p x y w.drew := ⟨h.c0, h.c1, h.f0, h.f1⟩
theorem Box.h2 {p x y : Nat} {w : World} (h : Box p x y w) : H2 p x y w := ⟨h.c0, h.c1⟩

/-- three such blocks, one behind the other -/
def H6 (p x y z t u v : Nat) (w : World) : Prop := H2 p x y w ∧ H2 (p + 1) z t w ∧ H2 (p + 2) u v w
theorem H6.below {p x y z t u v : Nat} {w w' : World} (h : H6 p x y z t u v w) (hb : Below w.heap.size w w') : H6 p x y z t u v w' :=
  ⟨h.1.below hb, h.2.1.below hb, h.2.2.below hb⟩
theorem H6.drew {p x y z t u v : Nat} {w : World} (h : H6 p x y z t u v w) : H6 p x y z t u v w.drew := h

set_option maxRecDepth 20000 in
set_option maxHeartbeats 2000000 in
theorem fnMulTurns_walk (a0 : Option Addr) (l0 c0 : Nat) (w : World) (h0 : Bytes a0 l0 w) :
    Calls Try.prog 3 #[.slice a0 l0 c0] w fun e w' => e = .returned (.bool true) ∧ Below w.heap.size w w' := by
  have g0 := big_any a0 l0 c0
  by_cases q0 : 1048576 < l0
  · rw [decide_eq_true q0] at g0
    clear q0
    go_enter Try.func3, Try.ntmps3
    go_wp2_with fail
    refine (g0 _).mono ?_
    rintro e w' ⟨rfl, rfl⟩
    go_wp2_with fail
    go_ret
    exact ⟨rfl, Below.refl _ _⟩
  · rw [decide_eq_false q0] at g0
    have d0 := drawMul_any a0 l0 c0 w h0
    go_enter Try.func3, Try.ntmps3
    go_wp2_with fail
    refine (g0 _).mono ?_
    rintro e w' ⟨rfl, hw'⟩
    subst hw'
    clear g0
    go_wp2_with fail
    refine d0.mono ?_
    rintro e w1 ⟨⟨x, y, z, t, rfl⟩, b1⟩
    clear d0
    have h1 := h0.below b1
    have B1 : Below w1.heap.size w1 (((w1.alloc (cellI x y)).alloc (cellI z t)).alloc (cellI 0 4607182418800017408)) := by go_grown
    have r1 : Box w1.heap.size x y (((w1.alloc (cellI x y)).alloc (cellI z t)).alloc (cellI 0 4607182418800017408)) := ((Box.new w1 x y).below (below_one _ _)).below (below_one _ _)
    have r2 : Box (w1.heap.size + 1) z t (((w1.alloc (cellI x y)).alloc (cellI z t)).alloc (cellI 0 4607182418800017408)) := by
      have := (Box.new (w1.alloc (cellI x y)) z t).below (below_one _ (cellI 0 4607182418800017408))
      simpa using this
    have r3 : Box (w1.heap.size + 2) 0 4607182418800017408 (((w1.alloc (cellI x y)).alloc (cellI z t)).alloc (cellI 0 4607182418800017408)) := by
      have := Box.new ((w1.alloc (cellI x y)).alloc (cellI z t)) 0 4607182418800017408
      simpa using this
    have k1 : H6 w1.heap.size x y z t 0 4607182418800017408 (((w1.alloc (cellI x y)).alloc (cellI z t)).alloc (cellI 0 4607182418800017408)) := ⟨r1.h2, r2.h2, r3.h2⟩
    clear h0
    have m1 := mul_any x y z t
    have m2 := mul_any z t x y
    go_upto_region 5 with fail
    go_cut [31] (fun s31 wc => s31 = .bool false ∧ Below w1.heap.size w1 wc ∧ Box w1.heap.size x y wc)
    case first =>
      obtain ⟨⟨e1, e2⟩, ⟨e3, e4⟩, ⟨e5, e6⟩⟩ := k1
      have K1 : H6 w1.heap.size x y z t 0 4607182418800017408 (((w1.alloc (cellI x y)).alloc (cellI z t)).alloc (cellI 0 4607182418800017408)) := ⟨⟨e1, e2⟩, ⟨e3, e4⟩, ⟨e5, e6⟩⟩
      go_region_held (fun w' => (w'.cell? ⟨w1.heap.size, 0, none⟩ = some (.float .f64 x) ∧ w'.cell? ⟨w1.heap.size, 1, none⟩ = some (.float .f64 y)) ∧ (w'.cell? ⟨w1.heap.size + 1, 0, none⟩ = some (.float .f64 z) ∧ w'.cell? ⟨w1.heap.size + 1, 1, none⟩ = some (.float .f64 t)) ∧ (w'.cell? ⟨w1.heap.size + 2, 0, none⟩ = some (.float .f64 0) ∧ w'.cell? ⟨w1.heap.size + 2, 1, none⟩ = some (.float .f64 4607182418800017408)))
        ((show H6 w1.heap.size x y z t 0 4607182418800017408 _; repeat (first | with_reducible assumption | exact K1 | with_reducible apply H6.drew | (with_reducible refine H6.below ?_ hb4) | (with_reducible refine H6.below ?_ hb3) | (with_reducible refine H6.below ?_ hb2) | (with_reducible refine H6.below ?_ hb1))))
        (first | (go_at_call 7; with_reducible refine (ii_any _).mono ?_; rintro e w2 ⟨rfl, hb1⟩) | (go_at_call 7; with_reducible refine (m1 _).mono ?_; rintro e w3 ⟨r, s, rfl, hr, hs, hb2⟩) | (go_at_call 7; with_reducible refine (m2 _).mono ?_; rintro e w4 ⟨r', s', rfl, hr', hs', hb3⟩) | (go_at_call 8; refine (same_true _ _ _ _ (hr.same hr'.swap) (hs.same hs'.swap) _).mono ?_; rintro e w5 ⟨rfl, hb4⟩))
      all_goals
        go_wp2_with fail
        go_meet
        have c1 := (Below.drew B1).trans (hb1.mono (by simp; try omega))
        have c2 := c1.trans (hb2.mono c1.size)
        have c3 := c2.trans (hb3.mono c2.size)
        have c4 := c3.trans (hb4.mono c3.size)
        exact ⟨rfl, c4, (((r1.drew.below hb1).below hb2).below hb3).below hb4⟩
    case rest =>
      obtain ⟨rfl, B2, R1⟩ := hcut
      have d1 := drawTurn_any a0 l0 c0 wc (h1.below B2)
      have z0 : (0 : Int) ≤ (l0 : Int) := by omega
      have z1 : (l0 : Int) ≤ 1048576 := by omega
      have z2 : 0 ≤ (l0 : Int) % 37 := by omega
      have z3 : (l0 : Int) % 37 < 37 := by omega
      clear m1 m2 r1 r2 r3 k1 B1 h1 q0
      go_wp2_with fail
      refine d1.mono ?_
      rintro e w6 ⟨⟨x', y', n, rfl⟩, b6⟩
      clear d1
      have k0 : -18 ≤ (l0 : Int) % 37 - 18 := by omega
      have k9 : (l0 : Int) % 37 - 18 ≤ 18 := by omega
      generalize (l0 : Int) % 37 - 18 = k at *
      have R2 := (R1.below b6).below (below_one w6 (cellI x' y'))
      have B3 : Below w'.heap.size w' (w6.alloc (cellI x' y')) := (b1.trans (B2.mono b1.size)).trans ((b6.mono (Nat.le_trans b1.size B2.size)).trans ((below_one w6 (cellI x' y')).mono (Nat.le_trans (Nat.le_trans b1.size B2.size) b6.size)))
      clear R1 B2 b1 b6 z0 z1 z2 z3
      have K2 := R2.h2
      obtain ⟨f1, f2⟩ := K2
      have K2 : H2 w1.heap.size x y (w6.alloc (cellI x' y')) := ⟨f1, f2⟩
      have hn : n < -1000 ∨ (¬ n < -1000 ∧ 1000 < n) ∨ (¬ n < -1000 ∧ ¬ 1000 < n) := by omega
      rcases hn with n1 | ⟨n1, n2⟩ | ⟨n1, n2⟩
      · have n3 : n < -1000 := n1
        have hw : IntKind.i64.wrap (k + 1) = k + 1 := by rw [IntKind.wrap_i64]; omega
        obtain ⟨p1, q1, p2, q2, t1, t2, t3, s1⟩ := turns_any x y k 1
        have t4 := t3
        rw [← hw] at t4
        have HW : Hid (IntKind.i64.wrap (k + 1) = k + 1) := hw
        clear hw
        go_upto_region 11 with fail
        go_region_held (fun w' => w'.cell? ⟨w1.heap.size, 0, none⟩ = some (.float .f64 x) ∧ w'.cell? ⟨w1.heap.size, 1, none⟩ = some (.float .f64 y))
          ((show H2 w1.heap.size x y _; repeat (first | with_reducible assumption | exact K2 | with_reducible apply H2.drew | (with_reducible refine H2.below ?_ hb6) | (with_reducible refine H2.below ?_ hb5) | (with_reducible refine H2.below ?_ hb4) | (with_reducible refine H2.below ?_ hb3) | (with_reducible refine H2.below ?_ hb2) | (with_reducible refine H2.below ?_ hb1))))
          (first | (go_at_call 10; with_reducible refine (turn23 _).mono ?_; rintro e w11 ⟨rfl, hb5⟩) | (go_at_call 10; with_reducible refine (t1 _).mono ?_; rintro e w7 ⟨rfl, hb1⟩) | (go_at_call 10; with_reducible refine (t2 _).mono ?_; rintro e w8 ⟨rfl, hb2⟩) | (go_at_call 10; with_reducible refine (t3 _).mono ?_; rintro e w9 ⟨rfl, hb3⟩) | (go_at_call 10; with_reducible refine (t4 _).mono ?_; rintro e w9 ⟨rfl, hb3⟩) | (go_at_call 8; with_reducible refine (same23 _).mono ?_; rintro e w12 ⟨rfl, hb6⟩) | (go_at_call 8; with_reducible refine (s1 _).mono ?_; rintro e w10 ⟨rfl, hb4⟩))
        all_goals
          go_wp2_with fail
          go_ret
          have c1 := (Below.drew B3).trans (hb1.mono B3.size)
          have c2 := c1.trans (hb2.mono c1.size)
          have c3 := c2.trans (hb3.mono c2.size)
          have c4 := c3.trans (hb4.mono c3.size)
          have c5 := c4.trans (hb5.mono c4.size)
          exact ⟨rfl, c5.trans (hb6.mono c5.size)⟩
      · have n3 : 1000 < n := n2
        have hw : IntKind.i64.wrap (k + 1) = k + 1 := by rw [IntKind.wrap_i64]; omega
        obtain ⟨p1, q1, p2, q2, t1, t2, t3, s1⟩ := turns_any x y k 1
        have t4 := t3
        rw [← hw] at t4
        have HW : Hid (IntKind.i64.wrap (k + 1) = k + 1) := hw
        clear hw
        go_upto_region 11 with fail
        go_region_held (fun w' => w'.cell? ⟨w1.heap.size, 0, none⟩ = some (.float .f64 x) ∧ w'.cell? ⟨w1.heap.size, 1, none⟩ = some (.float .f64 y))
          ((show H2 w1.heap.size x y _; repeat (first | with_reducible assumption | exact K2 | with_reducible apply H2.drew | (with_reducible refine H2.below ?_ hb6) | (with_reducible refine H2.below ?_ hb5) | (with_reducible refine H2.below ?_ hb4) | (with_reducible refine H2.below ?_ hb3) | (with_reducible refine H2.below ?_ hb2) | (with_reducible refine H2.below ?_ hb1))))
          (first | (go_at_call 10; with_reducible refine (turn23 _).mono ?_; rintro e w11 ⟨rfl, hb5⟩) | (go_at_call 10; with_reducible refine (t1 _).mono ?_; rintro e w7 ⟨rfl, hb1⟩) | (go_at_call 10; with_reducible refine (t2 _).mono ?_; rintro e w8 ⟨rfl, hb2⟩) | (go_at_call 10; with_reducible refine (t3 _).mono ?_; rintro e w9 ⟨rfl, hb3⟩) | (go_at_call 10; with_reducible refine (t4 _).mono ?_; rintro e w9 ⟨rfl, hb3⟩) | (go_at_call 8; with_reducible refine (same23 _).mono ?_; rintro e w12 ⟨rfl, hb6⟩) | (go_at_call 8; with_reducible refine (s1 _).mono ?_; rintro e w10 ⟨rfl, hb4⟩))
        all_goals
          go_wp2_with fail
          go_ret
          have c1 := (Below.drew B3).trans (hb1.mono B3.size)
          have c2 := c1.trans (hb2.mono c1.size)
          have c3 := c2.trans (hb3.mono c2.size)
          have c4 := c3.trans (hb4.mono c3.size)
          have c5 := c4.trans (hb5.mono c4.size)
          exact ⟨rfl, c5.trans (hb6.mono c5.size)⟩
      · have n3 : -1000 ≤ n := by omega
        have n4 : n ≤ 1000 := by omega
        have hw : IntKind.i64.wrap (k + n) = k + n := by rw [IntKind.wrap_i64]; omega
        obtain ⟨p1, q1, p2, q2, t1, t2, t3, s1⟩ := turns_any x y k n
        have t4 := t3
        rw [← hw] at t4
        have HW : Hid (IntKind.i64.wrap (k + n) = k + n) := hw
        clear hw
        go_upto_region 11 with fail
        go_region_held (fun w' => w'.cell? ⟨w1.heap.size, 0, none⟩ = some (.float .f64 x) ∧ w'.cell? ⟨w1.heap.size, 1, none⟩ = some (.float .f64 y))
          ((show H2 w1.heap.size x y _; repeat (first | with_reducible assumption | exact K2 | with_reducible apply H2.drew | (with_reducible refine H2.below ?_ hb6) | (with_reducible refine H2.below ?_ hb5) | (with_reducible refine H2.below ?_ hb4) | (with_reducible refine H2.below ?_ hb3) | (with_reducible refine H2.below ?_ hb2) | (with_reducible refine H2.below ?_ hb1))))
          (first | (go_at_call 10; with_reducible refine (turn23 _).mono ?_; rintro e w11 ⟨rfl, hb5⟩) | (go_at_call 10; with_reducible refine (t1 _).mono ?_; rintro e w7 ⟨rfl, hb1⟩) | (go_at_call 10; with_reducible refine (t2 _).mono ?_; rintro e w8 ⟨rfl, hb2⟩) | (go_at_call 10; with_reducible refine (t3 _).mono ?_; rintro e w9 ⟨rfl, hb3⟩) | (go_at_call 10; with_reducible refine (t4 _).mono ?_; rintro e w9 ⟨rfl, hb3⟩) | (go_at_call 8; with_reducible refine (same23 _).mono ?_; rintro e w12 ⟨rfl, hb6⟩) | (go_at_call 8; with_reducible refine (s1 _).mono ?_; rintro e w10 ⟨rfl, hb4⟩))
        all_goals
          go_wp2_with fail
          go_ret
          have c1 := (Below.drew B3).trans (hb1.mono B3.size)
          have c2 := c1.trans (hb2.mono c1.size)
          have c3 := c2.trans (hb3.mono c2.size)
          have c4 := c3.trans (hb4.mono c3.size)
          have c5 := c4.trans (hb5.mono c4.size)
          exact ⟨rfl, c5.trans (hb6.mono c5.size)⟩

end Go.Proofs.Ytbhomfgponhemaa.Z

namespace Go.Proofs.Ytbhomfgponhemaa
open Go.RowKit
theorem fnMulTurns_walk (a0 : Option Addr) (l0 c0 : Nat) (w : World) (h0 : Z.Bytes a0 l0 w) :
    Calls Try.prog 3 #[.slice a0 l0 c0] w fun e w' => e = .returned (.bool true) ∧ Below w.heap.size w w' := Z.fnMulTurns_walk a0 l0 c0 w h0
end Go.Proofs.Ytbhomfgponhemaa

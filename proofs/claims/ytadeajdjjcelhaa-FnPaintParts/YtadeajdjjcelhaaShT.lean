/- Lists of shapes: when two are alike, whether all are right, the specification's density. -/
import Derived.Test.YtadeajdjjcelhaaShS
namespace Go.Proofs.Ytadeajdjjcelhaa
open Go.RowKit
set_option maxRecDepth 100000
set_option maxHeartbeats 2000000

theorem szShapeS_any (a : Option Addr) (len cap : Nat) (left : Int) (h0 : 0 ≤ left) (h1 : left ≤ 1048576) (hl : (len : Int) ≤ 9223372036854775807) (w : World) :
    Calls Try.prog 21 #[.slice a len cap, .int .i64 left] w fun e w' => e = .returned (.int .i64 (if left < (len : Int) then -1 else left - len)) ∧ w' = w := by
  by_cases h : left < (len : Int)
  · rw [if_pos h]
    have h1 : left - (len : Int) < 0 := by omega
    go_enter Try.func21, Try.ntmps21
    go_wp2
    go_ret
    exact ⟨rfl, rfl⟩
  · rw [if_neg h]
    have h1 : ¬ left - (len : Int) < 0 := by omega
    go_enter Try.func21, Try.ntmps21
    go_wp2
    go_ret
    exact ⟨rfl, rfl⟩

theorem eqShape_any (K X Y A B C V : Int) (w : World) :
    Calls Try.prog 53 #[sh K X Y A B C V, sh K X Y A B C V] w fun e w' => e = .returned (.bool true) ∧ Below w.heap.size w w' := by
  have HB0 : Hid (∀ o o', Below w.heap.size w ((w.alloc o).alloc o')) := fun o o' => (bnew _ _).alloc (by simp) _
  go_enter Try.func53, Try.ntmps53
  go_wp2_with fail
  go_ret
  exact ⟨rfl, HB0.out _ _⟩

set_option maxHeartbeats 8000000 in
theorem eqShapeS_any (a a' : Option Addr) (len cap cap' : Nat) (g : Nat → Int) (hl : len ≤ 1048576) (w : World) (h : Px a (len * 7) g w) (h' : Px a' (len * 7) g w) :
    Calls Try.prog 24 #[.slice a len cap, .slice a' len cap'] w fun e w' => e = .returned (.bool true) ∧ Below w.heap.size w w' := by
  have HP : Hid (Px a (len * 7) g w) := h
  have HP' : Hid (Px a' (len * 7) g w) := h'
  clear h h'
  go_enter Try.func24, Try.ntmps24
  go_wp2
  go_loopw [5] (fun i wr => ∃ k : Nat, k ≤ len ∧ i = .int .i64 k ∧ Below w.heap.size w wr) (fun i _ => len - (intOf i).toNat)
  case atStart => exact ⟨0, by omega, rfl, Below.refl _ _⟩
  case round =>
    obtain ⟨k, hk, rfl, hb⟩ := hrel
    by_cases hlt : k < len
    · obtain ⟨b, off, rfl, _, z0, z1, z2, z3, z4, z5, z6⟩ := (HP.out.below hb).seven hlt
      obtain ⟨b', off', rfl, _, y0, y1, y2, y3, y4, y5, y6⟩ := (HP'.out.below hb).seven hlt
      clear HP HP'
      have HB : Hid (Below w.heap.size w wr.drew) := hb.drew
      have hq := eqShape_any (g (k * 7)) (g (k * 7 + 1)) (g (k * 7 + 2)) (g (k * 7 + 3)) (g (k * 7 + 4)) (g (k * 7 + 5)) (g (k * 7 + 6))
      go_wp2_with fail
      go_region_with (go_at_call 53; refine (hq _).mono ?_; rintro e w1 ⟨rfl, hb1⟩)
      all_goals
        have HB1 : Hid (Below w.heap.size w w1) := bnext HB.out (Nat.le_refl _) hb1
        clear hb1 HB hb z0 z1 z2 z3 z4 z5 z6 y0 y1 y2 y3 y4 y5 y6
        go_wp2_with fail
        exact ⟨⟨k + 1, by omega, rfl, HB1.out⟩, by simp [intOf]; omega⟩
    · go_wp2
      go_ret
      exact ⟨rfl, hb⟩

/-- few enough, and all right -/
def okS (g : Nat → Int) (n : Nat) : Bool := decide (n ≤ 64) && allG (shG g) n

set_option maxHeartbeats 8000000 in
theorem l2Ok_any (a : Option Addr) (len cap : Nat) (g : Nat → Int) (hl : len ≤ 1048576) (w : World) (h : Px a (len * 7) g w) :
    Calls Try.prog 40 #[.slice a len cap] w fun e w' => e = .returned (.bool (okS g len)) ∧ Below w.heap.size w w' := by
  have HP : Hid (Px a (len * 7) g w) := h
  clear h
  by_cases hm : 64 < len
  · have hr : okS g len = false := by unfold okS; rw [decide_eq_false (by omega)]; rfl
    rw [hr]
    clear HP hr
    go_enter Try.func40, Try.ntmps40
    go_wp2_with fail
    go_ret
    exact ⟨rfl, Below.refl _ _⟩
  · have hm' : ¬ (64 : Int) < (len : Int) := by omega
    have hr : okS g len = allG (shG g) len := by unfold okS; rw [decide_eq_true (by omega)]; rfl
    go_enter Try.func40, Try.ntmps40
    go_wp2
    go_loopw [3] (fun i wr => ∃ k : Nat, k ≤ len ∧ i = .int .i64 k ∧ allG (shG g) k = true ∧ Below w.heap.size w wr) (fun i _ => len - (intOf i).toNat)
    case atStart => exact ⟨0, by omega, rfl, rfl, Below.refl _ _⟩
    case round =>
      obtain ⟨k, hk, rfl, hall, hb⟩ := hrel
      by_cases hlt : k < len
      · obtain ⟨b, off, rfl, _, z0, z1, z2, z3, z4, z5, z6⟩ := (HP.out.below hb).seven hlt
        have hq := specShape_any (g (k * 7)) (g (k * 7 + 1)) (g (k * 7 + 2)) (g (k * 7 + 3)) (g (k * 7 + 4)) (g (k * 7 + 5)) (g (k * 7 + 6))
        cases hS : shG g k
        · rw [show shapeB (g (k * 7)) (g (k * 7 + 1)) (g (k * 7 + 2)) (g (k * 7 + 3)) (g (k * 7 + 4)) (g (k * 7 + 5)) (g (k * 7 + 6)) = false from hS] at hq
          have hn : okS g len = false := by rw [hr]; exact allG_no k hlt hS
          clear HP hS
          go_wp2_with fail
          refine (hq _).mono ?_
          rintro e w1 ⟨rfl, hb1⟩
          have HB1 : Hid (Below w.heap.size w w1) := bnext hb (Nat.le_refl _) hb1
          clear hb1 hb z0 z1 z2 z3 z4 z5 z6 hq
          go_wp2_with fail
          go_ret
          exact ⟨by rw [hn]; rfl, HB1.out⟩
        · rw [show shapeB (g (k * 7)) (g (k * 7 + 1)) (g (k * 7 + 2)) (g (k * 7 + 3)) (g (k * 7 + 4)) (g (k * 7 + 5)) (g (k * 7 + 6)) = true from hS] at hq
          have hn : allG (shG g) (k + 1) = true := by simp [allG, hall, hS]
          clear HP hS
          go_wp2_with fail
          refine (hq _).mono ?_
          rintro e w1 ⟨rfl, hb1⟩
          have HB1 : Hid (Below w.heap.size w w1) := bnext hb (Nat.le_refl _) hb1
          clear hb1 hb z0 z1 z2 z3 z4 z5 z6 hq
          go_wp2_with fail
          exact ⟨⟨k + 1, by omega, rfl, hn, HB1.out⟩, by simp [intOf]; omega⟩
      · obtain rfl : k = len := by omega
        go_wp2
        go_ret
        exact ⟨by rw [hr, hall]; rfl, hb⟩

/-- what the first n shapes give at a point -/
def dens (g : Nat → Int) (x y : Int) : Nat → Int
  | 0 => 0
  | n + 1 => dens g x y n + if insG g x y n = true then g (n * 7 + 6) else 0

theorem val_bound {g : Nat → Int} {n k : Nat} (h : okS g n = true) (hk : k < n) : (g (k * 7 + 6)).natAbs ≤ 1000 := by
  unfold okS at h
  simp only [Bool.and_eq_true] at h
  exact (shape_bounds (allG_at h.2 k hk)).2.2.2.2.2.1

theorem dens_bound {g : Nat → Int} {x y : Int} {n : Nat} (h : okS g n = true) : ∀ k, k ≤ n → (dens g x y k).natAbs ≤ 1000 * k
  | 0, _ => by simp [dens]
  | k + 1, hk => by
    have h1 := dens_bound (x := x) (y := y) h k (by omega)
    have h2 := val_bound h (k := k) (by omega)
    simp only [dens]
    split <;> omega

theorem okS_le {g : Nat → Int} {n : Nat} (h : okS g n = true) : n ≤ 64 := by
  unfold okS at h
  simp only [Bool.and_eq_true, decide_eq_true_eq] at h
  exact h.1

/-- what Density answers -/
def densB (g : Nat → Int) (n : Nat) (x y : Int) : Int := if (okS g n && (inB x (-100000) 100000 && inB y (-100000) 100000)) = true then dens g x y n else 0

set_option maxHeartbeats 8000000 in
theorem specDens_any (a : Option Addr) (len cap : Nat) (g : Nat → Int) (hl : len ≤ 1048576) (x y : Int) (w : World) (h : Px a (len * 7) g w) :
    Calls Try.prog 22 #[.slice a len cap, .int .i64 x, .int .i64 y] w fun e w' => e = .returned (.int .i64 (densB g len x y)) ∧ Below w.heap.size w w' := by
  have cO := l2Ok_any a len cap g hl w h
  have cx := l1In_any x (-100000) 100000
  have cy := l1In_any y (-100000) 100000
  have HP : Hid (Px a (len * 7) g w) := h
  clear h
  cases hO : okS g len
  · rw [hO] at cO
    have hr : densB g len x y = 0 := by unfold densB; rw [hO]; rfl
    rw [hr]
    clear HP hr hO cx cy
    go_enter Try.func22, Try.ntmps22
    go_wp2_with fail
    refine cO.mono ?_
    rintro e w1 ⟨rfl, hb1⟩
    clear cO
    go_wp2_with fail
    go_ret
    exact ⟨rfl, hb1⟩
  rw [hO] at cO
  cases hx : inB x (-100000) 100000
  · rw [hx] at cx
    have hr : densB g len x y = 0 := by unfold densB; rw [hO, hx]; rfl
    rw [hr]
    clear HP hr hO cy hx
    go_enter Try.func22, Try.ntmps22
    go_wp2_with fail
    refine cO.mono ?_
    rintro e w1 ⟨rfl, hb1⟩
    clear cO
    go_wp2_with fail
    refine (cx _).mono ?_
    rintro e w2 ⟨rfl, rfl⟩
    go_wp2_with fail
    go_ret
    exact ⟨rfl, hb1⟩
  rw [hx] at cx
  cases hy : inB y (-100000) 100000
  · rw [hy] at cy
    have hr : densB g len x y = 0 := by unfold densB; rw [hO, hx, hy]; rfl
    rw [hr]
    clear HP hr hO hx hy
    go_enter Try.func22, Try.ntmps22
    go_wp2_with fail
    refine cO.mono ?_
    rintro e w1 ⟨rfl, hb1⟩
    clear cO
    go_wp2_with fail
    refine (cx _).mono ?_
    rintro e w2 ⟨rfl, rfl⟩
    go_wp2_with fail
    refine (cy _).mono ?_
    rintro e w3 ⟨rfl, rfl⟩
    go_wp2_with fail
    go_ret
    exact ⟨rfl, hb1⟩
  rw [hy] at cy
  have hr : densB g len x y = dens g x y len := by unfold densB; rw [hO, hx, hy]; rfl
  rw [hr]
  have h64 := okS_le hO
  clear hr hx hy
  go_enter Try.func22, Try.ntmps22
  go_wp2_with fail
  refine cO.mono ?_
  rintro e w1 ⟨rfl, hb1⟩
  clear cO
  go_wp2_with fail
  refine (cx _).mono ?_
  rintro e w2 ⟨rfl, rfl⟩
  go_wp2_with fail
  refine (cy _).mono ?_
  rintro e w3 ⟨rfl, rfl⟩
  have HB1 : Hid (Below w.heap.size w w3) := hb1
  clear cx cy hb1
  go_wp2_with fail
  go_loopw [7, 8] (fun s i wr => ∃ k : Nat, k ≤ len ∧ i = .int .i64 k ∧ s = .int .i64 (dens g x y k) ∧ Below w.heap.size w wr) (fun _ i _ => len - (intOf i).toNat)
  case atStart => exact ⟨0, by omega, rfl, rfl, HB1.out⟩
  case round =>
    obtain ⟨k, hk, rfl, rfl, hb⟩ := hrel
    by_cases hlt : k < len
    · obtain ⟨b, off, rfl, hbl, z0, z1, z2, z3, z4, z5, z6⟩ := (HP.out.below hb).seven hlt
      have hq := specIns_any (g (k * 7)) (g (k * 7 + 1)) (g (k * 7 + 2)) (g (k * 7 + 3)) (g (k * 7 + 4)) (g (k * 7 + 5)) (g (k * 7 + 6)) x y
      have hd := dens_bound (x := x) (y := y) hO k hk
      have hv := val_bound hO hlt
      have hS : dens g x y (k + 1) = dens g x y k + if insG g x y k = true then g (k * 7 + 6) else 0 := rfl
      cases hI : insG g x y k
      · rw [show insideB (g (k * 7)) (g (k * 7 + 1)) (g (k * 7 + 2)) (g (k * 7 + 3)) (g (k * 7 + 4)) (g (k * 7 + 5)) (g (k * 7 + 6)) x y = false from hI] at hq
        rw [hI] at hS
        simp only [Bool.false_eq_true, if_false, Int.add_zero] at hS
        clear HP hI hd hv hO
        go_wp2_with fail
        refine (hq _).mono ?_
        rintro e w4 ⟨rfl, hb4⟩
        have HB4 : Hid (Below w.heap.size w w4) := bnext hb (Nat.le_refl _) hb4
        clear hb4 hb z0 z1 z2 z3 z4 z5 z6 hq
        go_wp2_with fail
        exact ⟨⟨k + 1, by omega, rfl, by rw [hS], HB4.out⟩, by simp [intOf]; omega⟩
      · rw [show insideB (g (k * 7)) (g (k * 7 + 1)) (g (k * 7 + 2)) (g (k * 7 + 3)) (g (k * 7 + 4)) (g (k * 7 + 5)) (g (k * 7 + 6)) x y = true from hI] at hq
        rw [hI] at hS
        simp only [if_true] at hS
        have hw : IntKind.i64.wrap (dens g x y k + g (k * 7 + 6)) = dens g x y k + g (k * 7 + 6) := wrapn (P := 1000 * 64 + 1000) (by omega) (by omega)
        clear HP hI hd hv hO
        go_wp2_with fail
        refine (hq _).mono ?_
        rintro e w4 ⟨rfl, hb4⟩
        have HB4 : Hid (Below w.heap.size w w4) := bnext hb (Nat.le_refl _) hb4
        have z6' := (hb4.cell (p := ⟨b, off + k * 7 + 6, none⟩) hbl).trans z6
        clear hb4 hb z0 z1 z2 z3 z4 z5 z6 hq
        go_wp2_with fail
        exact ⟨⟨k + 1, by omega, rfl, by rw [hS], HB4.out⟩, by simp [intOf]; omega⟩
    · obtain rfl : k = len := by omega
      go_wp2
      go_ret
      exact ⟨rfl, hb⟩

end Go.Proofs.Ytadeajdjjcelhaa

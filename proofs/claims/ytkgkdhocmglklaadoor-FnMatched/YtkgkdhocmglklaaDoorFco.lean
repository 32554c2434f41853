/- Cubes that are alike: both sides; cubes that are turned, in plain form. -/
import Derived.Test.YtkgkdhocmglklaaDoorIls
import Derived.Deep.Quiet
import Derived.BigQuiet
import Derived.Test.YtkgkdhocmglklaaDoorFcn
import Derived.Test.YtkgkdhocmglklaaDoorTwi
import Derived.Test.YtkgkdhocmglklaaDoorVex
import Derived.Test.YtkgkdhocmglklaaDoorTsi
namespace Go.Proofs.YtkgkdhocmglklaaDoor
open Go.RowKit

/-- a world that came out of another one by making memory -/
def Up (wb : World) : Type := { w' : World // Below wb.heap.size wb w' }
def Up.w {wb : World} (p : Up wb) : World := p.1
theorem Up.below {wb : World} (p : Up wb) : Below wb.heap.size wb p.w := p.2
theorem Up.cell {wb : World} (p : Up wb) {x : Addr} {v : Value} (h : wb.cell? x = some v) : p.w.cell? x = some v := (p.below.cell (World.block_lt_of_cell? _ _ h)).trans h
theorem up_ne (wb : World) : Nonempty (Up wb) := ⟨⟨wb, Below.refl _ _⟩⟩
theorem region_up {P : Program} {id : Nat} {Q : Exit → Act → World → Prop} {a : Act} {wb : World} {l : List Oper} (hm : P.follows .mixedOrders = true) (hB : Region.lexB .any l.toArray = true)
    (h : wpQuiet P l.toArray (fun w' => ∃ p : Up wb, w' = p.w) (fun a' => ∀ w', (∃ p : Up wb, w' = p.w) → Q .normal a' w') l a) : (Code.region id l.toArray true).wp P Q a wb :=
  wp_region_quiet (C := fun w' => ∃ p : Up wb, w' = p.w) hm hB ⟨⟨wb.drew, (Below.refl _ _).drew⟩, rfl⟩ (by simpa using h)
/-- a callee that makes memory alone -/
theorem calls_up {P : Program} {f : FuncId} {args : Array Value} {wb : World} {p : Up wb} {v : Value}
    (h : Calls P f args p.w fun e w' => e = .returned v ∧ Below p.w.heap.size p.w w') : Calls P f args p.w fun e w'' => e = .returned v ∧ ∃ q : Up wb, w'' = q.w :=
  h.mono fun _ w' ⟨he, hb⟩ => ⟨he, ⟨w', bnext p.below (Nat.le_refl _) hb⟩, rfl⟩

end Go.Proofs.YtkgkdhocmglklaaDoor

namespace Go.Proofs.YtkgkdhocmglklaaDoor
open Go.RowKit

theorem cAt_out {t : Nat → Int} {X x y z : Int} (h : ¬ ((0 ≤ x ∧ x ≤ X - 1) ∧ (0 ≤ y ∧ y ≤ X - 1) ∧ (0 ≤ z ∧ z ≤ X - 1))) : cAt t X x y z = 0 := by
  unfold cAt
  rw [if_neg (fun e => h (inC_iff.1 e))]

set_option maxRecDepth 100000 in
set_option maxHeartbeats 2000000 in
theorem l7At_any (X : Int) (a : Option Addr) (n cap : Nat) (t : Nat → Int) (hX : 1 ≤ X ∧ X ≤ 32) (hn : (n : Int) = X * X * X) (x y z : Int) (w : World) (h : Px a n t w) :
    Calls Tryd.prog 55 #[vVolume X X X a n cap, .int .i64 x, .int .i64 y, .int .i64 z] w fun e w' => e = .returned (.int .i64 (cAt t X x y z)) ∧ Below w.heap.size w w' := by
  have HB : Hid (Below w.heap.size w (w.alloc (.cells #[.int .i64 X, .int .i64 X, .int .i64 X, .slice a n cap] 26))) := bnew _ _
  by_cases hx : x < 0
  · have HO := hide (cAt_out (t := t) (X := X) (x := x) (y := y) (z := z) (by omega))
    clear hn h
    go_enter Tryd.func55, Tryd.ntmps55
    go_wp2_with fail
    go_ret
    exact ⟨by rw [HO.out]; rfl, HB.out⟩
  by_cases hy : y < 0
  · have HO := hide (cAt_out (t := t) (X := X) (x := x) (y := y) (z := z) (by omega))
    clear hn h
    go_enter Tryd.func55, Tryd.ntmps55
    go_wp2_with fail
    go_ret
    exact ⟨by rw [HO.out]; rfl, HB.out⟩
  by_cases hz : z < 0
  · have HO := hide (cAt_out (t := t) (X := X) (x := x) (y := y) (z := z) (by omega))
    clear hn h
    go_enter Tryd.func55, Tryd.ntmps55
    go_wp2_with fail
    go_ret
    exact ⟨by rw [HO.out]; rfl, HB.out⟩
  by_cases hx' : X ≤ x
  · have HO := hide (cAt_out (t := t) (X := X) (x := x) (y := y) (z := z) (by omega))
    clear hn h
    go_enter Tryd.func55, Tryd.ntmps55
    go_wp2_with fail
    go_ret
    exact ⟨by rw [HO.out]; rfl, HB.out⟩
  by_cases hy' : X ≤ y
  · have HO := hide (cAt_out (t := t) (X := X) (x := x) (y := y) (z := z) (by omega))
    clear hn h
    go_enter Tryd.func55, Tryd.ntmps55
    go_wp2_with fail
    go_ret
    exact ⟨by rw [HO.out]; rfl, HB.out⟩
  by_cases hz' : X ≤ z
  · have HO := hide (cAt_out (t := t) (X := X) (x := x) (y := y) (z := z) (by omega))
    clear hn h
    go_enter Tryd.func55, Tryd.ntmps55
    go_wp2_with fail
    go_ret
    exact ⟨by rw [HO.out]; rfl, HB.out⟩
  have hin : inC X x y z = true := inC_iff.2 (by omega)
  obtain ⟨p0, p1, p2, p3, p4, p5⟩ := num_in hX hin hn
  obtain ⟨i, hi⟩ : ∃ i : Nat, (i : Int) = (z * X + y) * X + x := ⟨((z * X + y) * X + x).toNat, by omega⟩
  have HO : Hid (cAt t X x y z = t i) := by
    show _ = _
    unfold cAt
    rw [if_pos hin, ← hi]
    rfl
  have hin' : i < n := by omega
  obtain ⟨b, off, rfl, hc⟩ := (h.below HB.out).at hin'
  have e1 : IntKind.i64.wrap (z * X) = z * X := by rw [IntKind.wrap_i64]; omega
  have e2 : IntKind.i64.wrap (z * X + y) = z * X + y := by rw [IntKind.wrap_i64]; omega
  have e3 : IntKind.i64.wrap ((z * X + y) * X) = (z * X + y) * X := by rw [IntKind.wrap_i64]; omega
  have e4 : IntKind.i64.wrap ((z * X + y) * X + x) = (i : Int) := by rw [← hi, IntKind.wrap_i64]; omega
  clear hn h p0 p1 p2 p3 p4 p5 hi hin
  go_enter Tryd.func55, Tryd.ntmps55
  go_wp2_with fail
  go_ret
  exact ⟨by rw [HO.out]; rfl, HB.out⟩

theorem inB_f {x lo hi : Int} (h : ¬ (lo ≤ x ∧ x ≤ hi)) : inB x lo hi = false := by unfold inB; simp; omega
theorem inB_t {x lo hi : Int} (h : lo ≤ x ∧ x ≤ hi) : inB x lo hi = true := by unfold inB; simp; omega

set_option maxRecDepth 100000 in
set_option maxHeartbeats 2000000 in
theorem voxelAt_any (X : Int) (a : Option Addr) (n cap : Nat) (t : Nat → Int) (hX : 1 ≤ X ∧ X ≤ 32) (hn : (n : Int) = X * X * X) (x y z : Int) (w : World) (h : Px a n t w) :
    Calls Tryd.prog 57 #[vVolume X X X a n cap, v3v x y z] w fun e w' => e = .returned (.int .i64 (cAt t X x y z)) ∧ Below w.heap.size w w' := by
  have HS0 := hide (((St.start w).box [.int .i64 X, .int .i64 X, .int .i64 X, .slice a n cap] 26).box' [.int .i64 x, .int .i64 y, .int .i64 z] 57 (b := w.heap.size + 1) (by simp))
  have uX : IntKind.i64.wrap (X - 1) = X - 1 := by rw [IntKind.wrap_i64]; omega
  have c1 := fun w' => within_any x 0 (X - 1) w'
  have c2 := fun w' => within_any y 0 (X - 1) w'
  have c3 := fun w' => within_any z 0 (X - 1) w'
  have HP := hide (h.below HS0.out.below)
  have HX := hide hX
  have HN := hide hn
  clear h hn hX
  generalize hA : (w.alloc (.cells [.int .i64 X, .int .i64 X, .int .i64 X, .slice a n cap].toArray 26)).alloc (.cells [.int .i64 x, .int .i64 y, .int .i64 z].toArray 57) = wA at HS0 HP
  have hA' : (w.alloc (.cells #[.int .i64 X, .int .i64 X, .int .i64 X, .slice a n cap] 26)).alloc (.cells #[.int .i64 x, .int .i64 y, .int .i64 z] 57) = wA := hA
  clear hA
  obtain ⟨i0, i1, i2, i3⟩ := HS0.out.im4 1 rfl
  obtain ⟨j0, j1, j2⟩ := HS0.out.im3 0 rfl
  by_cases hx : 0 ≤ x ∧ x ≤ X - 1
  · rw [inB_t hx] at c1
    by_cases hy : 0 ≤ y ∧ y ≤ X - 1
    · rw [inB_t hy] at c2
      by_cases hz : 0 ≤ z ∧ z ≤ X - 1
      · rw [inB_t hz] at c3
        have hin : inC X x y z = true := inC_iff.2 ⟨hx, hy, hz⟩
        obtain ⟨p0, p1, p2, p3, p4, p5⟩ := num_in HX.out hin HN.out
        obtain ⟨i, hi⟩ : ∃ i : Nat, (i : Int) = (z * X + y) * X + x := ⟨((z * X + y) * X + x).toNat, by omega⟩
        have HO : Hid (cAt t X x y z = t i) := by
          show _ = _
          unfold cAt
          rw [if_pos hin, ← hi]
          rfl
        have hin' : i < n := by omega
        obtain ⟨b, off, rfl, hc⟩ := HP.out.at hin'
        have hX' := HX.out
        have e2 : IntKind.i64.wrap (z * X + y) = z * X + y := by rw [IntKind.wrap_i64]; omega
        have c4 := fun w' => numberIn_any X X X (some ⟨b, off, none⟩) n cap x y z (z * X) ((z * X + y) * X) (by rw [IntKind.wrap_i64]; omega) (by rw [e2, IntKind.wrap_i64]; omega) e2 (i : Int) (by rw [← hi, IntKind.wrap_i64]; omega) w'
        clear e2 p0 p1 p2 p3 p4 p5 hi hin hx hy hz HP HN HX hX'
        go_enter Tryd.func57, Tryd.ntmps57
        go_wp2_with fail
        refine (c1 _).mono ?_
        rintro e w1 ⟨rfl, h1⟩
        obtain rfl := h1.symm
        go_wp2_with fail
        refine (c2 _).mono ?_
        rintro e w1 ⟨rfl, h1⟩
        obtain rfl := h1.symm
        go_wp2_with fail
        refine (c3 _).mono ?_
        rintro e w1 ⟨rfl, h1⟩
        obtain rfl := h1.symm
        go_upto_region 3 with fail
        have u0 := fun pp : Up wA => pp.cell i0
        have u1 := fun pp : Up wA => pp.cell i1
        have u2 := fun pp : Up wA => pp.cell i2
        have u3 := fun pp : Up wA => pp.cell i3
        have v0 := fun pp : Up wA => pp.cell j0
        have v1 := fun pp : Up wA => pp.cell j1
        have v2 := fun pp : Up wA => pp.cell j2
        have vc := fun pp : Up wA => pp.cell hc
        refine region_up (by kernel_rfl) (by kernel_rfl) ?_
        repeat (go_big_quiet_step (first
          | exact rfl
          | (go_at_call 30; exact calls_up (c4 _))))
        refine wpQuiet_nil ?_
        intro _ hw2
        obtain ⟨pq, hw3⟩ := hw2
        subst hw3
        have HE := hide (HS0.out.next pq.below).below
        go_wp2_with fail
        go_ret
        exact ⟨by rw [HO.out]; rfl, HE.out⟩
      · rw [inB_f hz] at c3
        have HO := hide (cAt_out (t := t) (X := X) (x := x) (y := y) (z := z) (fun h => hz h.2.2))
        have HE := hide HS0.out.below
        clear hx hy hz HP HN HX
        go_enter Tryd.func57, Tryd.ntmps57
        go_wp2_with fail
        refine (c1 _).mono ?_
        rintro e w1 ⟨rfl, h1⟩
        obtain rfl := h1.symm
        go_wp2_with fail
        refine (c2 _).mono ?_
        rintro e w1 ⟨rfl, h1⟩
        obtain rfl := h1.symm
        go_wp2_with fail
        refine (c3 _).mono ?_
        rintro e w1 ⟨rfl, h1⟩
        obtain rfl := h1.symm
        go_wp2_with fail
        go_ret
        exact ⟨by rw [HO.out]; rfl, HE.out⟩
    · rw [inB_f hy] at c2
      have HO := hide (cAt_out (t := t) (X := X) (x := x) (y := y) (z := z) (fun h => hy h.2.1))
      have HE := hide HS0.out.below
      clear hx hy HP HN HX
      go_enter Tryd.func57, Tryd.ntmps57
      go_wp2_with fail
      refine (c1 _).mono ?_
      rintro e w1 ⟨rfl, h1⟩
      obtain rfl := h1.symm
      go_wp2_with fail
      refine (c2 _).mono ?_
      rintro e w1 ⟨rfl, h1⟩
      obtain rfl := h1.symm
      go_wp2_with fail
      go_ret
      exact ⟨by rw [HO.out]; rfl, HE.out⟩
  · rw [inB_f hx] at c1
    have HO := hide (cAt_out (t := t) (X := X) (x := x) (y := y) (z := z) (fun h => hx h.1))
    have HE := hide HS0.out.below
    clear hx HP HN HX
    go_enter Tryd.func57, Tryd.ntmps57
    go_wp2_with fail
    refine (c1 _).mono ?_
    rintro e w1 ⟨rfl, h1⟩
    obtain rfl := h1.symm
    go_wp2_with fail
    go_ret
    exact ⟨by rw [HO.out]; rfl, HE.out⟩

end Go.Proofs.YtkgkdhocmglklaaDoor

namespace Go.Proofs.YtkgkdhocmglklaaDoor
open Go.RowKit

set_option maxRecDepth 100000 in
set_option maxHeartbeats 4000000 in
theorem l10Cost_any (X : Int) (a : Option Addr) (n cap : Nat) (f : Nat → Int) (a' : Option Addr) (cap' : Nat) (t : Nat → Int) (hX : 1 ≤ X ∧ X ≤ 32) (hn : (n : Int) = X * X * X) (hn2 : n ≤ 32768) (hf : ∀ k, k < n → -4095 ≤ f k ∧ f k ≤ 4095) (ht : ∀ k, k < n → -4095 ≤ t k ∧ t k ≤ 4095)
    (x y z : Int) (hx : -2 ≤ x ∧ x ≤ 2) (hy : -2 ≤ y ∧ y ≤ 2) (hz : -2 ≤ z ∧ z ≤ 2) (w : World) (h : Px a n f w) (h' : Px a' n t w) :
    Calls Tryd.prog 41 #[vVolume X X X a n cap, vVolume X X X a' n cap', .int .i64 x, .int .i64 y, .int .i64 z] w fun e w' => e = .returned (.int .i64 (cst f t X x y z n)) ∧ Below w.heap.size w w' := by
  have HS0 := hide (((St.start w).box [.int .i64 X, .int .i64 X, .int .i64 X, .slice a n cap] 26).box' [.int .i64 X, .int .i64 X, .int .i64 X, .slice a' n cap'] 26 (b := w.heap.size + 1) (by simp))
  have HP := hide h
  have HP' := hide h'
  have HN := hide hn
  have HBD := hide (fun k (hk : k ≤ n) => cst_bd hX hn hf ht x y z k hk)
  have HDD := hide (fun k (hk : k < n) => dst_bd hX hn hf ht x y z (k := k) hk)
  have cA := fun xx yy zz w' hw => l7At_any X a' n cap' t hX hn xx yy zz w' hw
  have HF := hide hf
  clear h h' hn hf ht
  obtain ⟨i0, i1, i2, i3⟩ := HS0.out.im4 1 rfl
  go_enter Tryd.func41, Tryd.ntmps41
  go_wp2_with fail
  clear i0 i1 i2 i3
  go_loopw [12, 13] (fun s i wr => ∃ k : Nat, k ≤ n ∧ i = .int .i64 (k : Int) ∧ s = .int .i64 (cst f t X x y z k) ∧ St w [(w.heap.size + 1, [.int .i64 X, .int .i64 X, .int .i64 X, .slice a' n cap']), (w.heap.size, [.int .i64 X, .int .i64 X, .int .i64 X, .slice a n cap])] [] wr) (fun _ i _ => n - (intOf i).toNat)
  case atStart => exact ⟨0, by omega, rfl, rfl, HS0.out⟩
  case round =>
    obtain ⟨k, hk, rfl, rfl, hs⟩ := hrel
    clear HS0
    have HS := hide hs
    clear hs
    obtain ⟨i0, i1, i2, i3⟩ := HS.out.im4 1 rfl
    obtain ⟨j0, j1, j2, j3⟩ := HS.out.im4 0 rfl
    by_cases hlt : k < n
    · have hkX : (k : Int) < X * X * X := by have := HN.out; omega
      obtain ⟨x0, y0, z0⟩ := kxyz hX.1 hkX
      have e1 : (k : Int).tmod X = kx X k := Int.tmod_eq_emod_of_nonneg (by omega)
      have e2 : (k : Int).tdiv X = (k : Int) / X := Int.tdiv_eq_ediv_of_nonneg (by omega)
      have c0 : 0 ≤ (k : Int) / X := Int.ediv_nonneg (by omega) (by omega)
      have c1 : (k : Int) / X ≤ (k : Int) := Int.ediv_le_self X (by omega)
      have e3 : ((k : Int) / X).tmod X = ky X k := Int.tmod_eq_emod_of_nonneg c0
      have e4 : ((k : Int) / X).tdiv X = kz X k := Int.tdiv_eq_ediv_of_nonneg c0
      have hd := HDD.out k hlt
      have hb0 := HBD.out k hk
      have hst : Hid (cst f t X x y z (k + 1) = cst f t X x y z k + dst f t X x y z k * dst f t X x y z k) := rfl
      have hdd : Hid (dst f t X x y z k = f k - cAt t X (kx X k - x) (ky X k - y) (kz X k - z)) := rfl
      have hfk := HF.out k hlt
      obtain ⟨b9, o9, rfl, zk⟩ := (HP.out.below HS.out.below).at hlt
      have HP2 := hide (HP'.out.below HS.out.below)
      have cG := fun w' hw => cA (kx X k - x) (ky X k - y) (kz X k - z) w' hw
      clear hkX cA
      generalize kx X k = r at *
      generalize ky X k = s at *
      generalize kz X k = u at *
      generalize (k : Int) / X = q at *
      generalize cAt t X (r - x) (s - y) (u - z) = C at *
      generalize dst f t X x y z k = d at *
      generalize cst f t X x y z k = S at *
      obtain ⟨D2, hD2⟩ : ∃ D2, d * d = D2 := ⟨_, rfl⟩
      rw [hD2] at hd hst
      have hdd' := hdd.out
      have a0 : IntKind.i64.wrap (f k - C) = d := by rw [IntKind.wrap_i64]; omega
      have a1 : IntKind.i64.wrap q = q := by rw [IntKind.wrap_i64]; omega
      have a2 : IntKind.i64.wrap u = u := by rw [IntKind.wrap_i64]; omega
      have a3 : IntKind.i64.wrap (r - x) = r - x := by rw [IntKind.wrap_i64]; omega
      have a4 : IntKind.i64.wrap (s - y) = s - y := by rw [IntKind.wrap_i64]; omega
      have a5 : IntKind.i64.wrap (u - z) = u - z := by rw [IntKind.wrap_i64]; omega
      have a6 : IntKind.i64.wrap (d * d) = D2 := by rw [hD2, IntKind.wrap_i64]; omega
      have a7 : IntKind.i64.wrap (S + D2) = S + D2 := by rw [IntKind.wrap_i64]; omega
      have hX0 : X ≠ 0 := by omega
      have hltk : (k : Int) < (n : Int) := by omega
      clear hdd hdd' hD2 hd hb0 hfk c0 c1
      generalize f k = F at *
      have u0 := fun pp : Up wr => pp.cell i0
      have u1 := fun pp : Up wr => pp.cell i1
      have u2 := fun pp : Up wr => pp.cell i2
      have u3 := fun pp : Up wr => pp.cell i3
      have v0 := fun pp : Up wr => pp.cell j0
      have v1 := fun pp : Up wr => pp.cell j1
      have v2 := fun pp : Up wr => pp.cell j2
      have v3 := fun pp : Up wr => pp.cell j3
      have vk := fun pp : Up wr => pp.cell zk
      have cU := fun pp : Up wr => cG pp.w (HP2.out.below pp.below)
      go_upto_region 6 with fail
      refine region_up (by kernel_rfl) (by kernel_rfl) ?_
      repeat (go_big_quiet_step (first
        | exact rfl
        | (go_at_call 55; exact calls_up (cU _))))
      refine wpQuiet_nil ?_
      intro _ hw2
      obtain ⟨pq, hw3⟩ := hw2
      subst hw3
      have HE := hide (HS.out.next pq.below)
      clear u0 u1 u2 u3 v0 v1 v2 v3 vk cU cG i0 i1 i2 i3 j0 j1 j2 j3 zk HS
      generalize pq.w = w2 at *
      go_wp2_with fail
      exact ⟨⟨k + 1, by omega, by simp, by rw [hst.out], HE.out⟩, by simp [intOf] <;> omega⟩
    · obtain rfl : k = n := by omega
      have HE := hide HS.out.below
      go_wp2_with fail
      go_ret
      exact ⟨rfl, HE.out⟩

end Go.Proofs.YtkgkdhocmglklaaDoor

namespace Go.Proofs.YtkgkdhocmglklaaDoor
open Go.RowKit

def q3F (x y z : Int) : Nat → Int
  | 0 => x | 1 => y | _ => z
theorem scal3_any (x y z : Int) (hx : -2 ≤ x ∧ x ≤ 2) (hy : -2 ≤ y ∧ y ≤ 2) (hz : -2 ≤ z ∧ z ≤ 2) (w : World) : Calls Tryd.prog 27 #[v3v x y z, .int .i64 (-1)] w fun e w' => e = .returned (v3v (-x) (-y) (-z)) ∧ Below w.heap.size w w' := by
  have h := vscaled_any (q3F x y z) (-1) (fun k hk => by
    match k, hk with
    | 0, _ => show _ ≤ x * -1 ∧ x * -1 ≤ _; omega
    | 1, _ => show _ ≤ y * -1 ∧ y * -1 ≤ _; omega
    | 2, _ => show _ ≤ z * -1 ∧ z * -1 ≤ _; omega) w
  have e : vec3 (fun k => q3F x y z k * -1) = v3v (-x) (-y) (-z) := by
    show v3v (x * -1) (y * -1) (z * -1) = _
    rw [show x * -1 = -x by omega, show y * -1 = -y by omega, show z * -1 = -z by omega]
  rw [e] at h
  exact h
theorem plus3_any (r s u x y z : Int) (h : ((-100000 ≤ r ∧ r ≤ 100000) ∧ (-100000 ≤ s ∧ s ≤ 100000) ∧ (-100000 ≤ u ∧ u ≤ 100000)) ∧ (-2 ≤ x ∧ x ≤ 2) ∧ (-2 ≤ y ∧ y ≤ 2) ∧ (-2 ≤ z ∧ z ≤ 2)) (w : World) :
    Calls Tryd.prog 28 #[v3v r s u, v3v (-x) (-y) (-z)] w fun e w' => e = .returned (v3v (r - x) (s - y) (u - z)) ∧ Below w.heap.size w w' := by
  have h := vplus_any (q3F r s u) (q3F (-x) (-y) (-z)) (fun k hk => by
    match k, hk with
    | 0, _ => show _ ≤ r + -x ∧ r + -x ≤ _; omega
    | 1, _ => show _ ≤ s + -y ∧ s + -y ≤ _; omega
    | 2, _ => show _ ≤ u + -z ∧ u + -z ≤ _; omega) w
  have e : vec3 (fun k => q3F r s u k + q3F (-x) (-y) (-z) k) = v3v (r - x) (s - y) (u - z) := by
    show v3v (r + -x) (s + -y) (u + -z) = _
    rw [show r + -x = r - x by omega, show s + -y = s - y by omega, show u + -z = u - z by omega]
  rw [e] at h
  exact h

set_option maxRecDepth 100000 in
set_option maxHeartbeats 4000000 in
theorem costOfShift_any (X : Int) (a : Option Addr) (n cap : Nat) (f : Nat → Int) (a' : Option Addr) (cap' : Nat) (t : Nat → Int) (hX : 1 ≤ X ∧ X ≤ 32) (hn : (n : Int) = X * X * X) (hn2 : n ≤ 32768) (hf : ∀ k, k < n → -4095 ≤ f k ∧ f k ≤ 4095) (ht : ∀ k, k < n → -4095 ≤ t k ∧ t k ≤ 4095)
    (x y z : Int) (hx : -2 ≤ x ∧ x ≤ 2) (hy : -2 ≤ y ∧ y ≤ 2) (hz : -2 ≤ z ∧ z ≤ 2) (w : World) (h : Px a n f w) (h' : Px a' n t w) :
    Calls Tryd.prog 44 #[vVolume X X X a n cap, vVolume X X X a' n cap', v3v x y z] w fun e w' => e = .returned (.int .i64 (cst f t X x y z n)) ∧ Below w.heap.size w w' := by
  have HS0 := hide ((((St.start w).box [.int .i64 X, .int .i64 X, .int .i64 X, .slice a n cap] 26).box' [.int .i64 X, .int .i64 X, .int .i64 X, .slice a' n cap'] 26 (b := w.heap.size + 1) (by simp)).box' [.int .i64 x, .int .i64 y, .int .i64 z] 57 (b := w.heap.size + 2) (by simp))
  have HP := hide h
  have HP' := hide h'
  have HN := hide hn
  have HBD := hide (fun k (hk : k ≤ n) => cst_bd hX hn hf ht x y z k hk)
  have HDD := hide (fun k (hk : k < n) => dst_bd hX hn hf ht x y z (k := k) hk)
  have cA := fun xx yy zz w' hw => voxelAt_any X a' n cap' t hX hn xx yy zz w' hw
  have cS := fun w' => scal3_any x y z hx hy hz w'
  have HF := hide hf
  clear h h' hn hf ht
  obtain ⟨j0, j1, j2⟩ := HS0.out.im3 0 rfl
  go_enter Tryd.func44, Tryd.ntmps44
  go_wp2_with fail
  refine (cS _).mono ?_
  rintro e w1 ⟨rfl, hb⟩
  have HS1 := hide ((HS0.out.next hb).box [.int .i64 (-x), .int .i64 (-y), .int .i64 (-z)] 57)
  clear hb HS0 cS j0 j1 j2
  go_upto_region 2 with fail
  generalize hw2 : w1.alloc (.cells [.int .i64 (-x), .int .i64 (-y), .int .i64 (-z)].toArray 57) = w2 at HS1
  have hw2' : w1.alloc (.cells #[.int .i64 (-x), .int .i64 (-y), .int .i64 (-z)] 57) = w2 := hw2
  try rw [hw2']
  clear hw2 hw2'
  generalize w1.heap.size = M at *
  obtain ⟨i0, i1, i2, i3⟩ := HS1.out.im4 3 rfl
  go_wp2_with fail
  clear i0 i1 i2 i3
  go_loopw [8, 17] (fun s i wr => ∃ k : Nat, k ≤ n ∧ i = .int .i64 (k : Int) ∧ s = .int .i64 (cst f t X x y z k) ∧ St w [(M, [.int .i64 (-x), .int .i64 (-y), .int .i64 (-z)]), (w.heap.size + 2, [.int .i64 x, .int .i64 y, .int .i64 z]), (w.heap.size + 1, [.int .i64 X, .int .i64 X, .int .i64 X, .slice a' n cap']), (w.heap.size, [.int .i64 X, .int .i64 X, .int .i64 X, .slice a n cap])] [] wr) (fun _ i _ => n - (intOf i).toNat)
  case atStart => exact ⟨0, by omega, rfl, rfl, HS1.out⟩
  case round =>
    obtain ⟨k, hk, rfl, rfl, hs⟩ := hrel
    clear HS1
    have HS := hide hs
    clear hs
    by_cases hlt : k < n
    · have hkX : (k : Int) < X * X * X := by have := HN.out; omega
      obtain ⟨x0, y0, z0⟩ := kxyz hX.1 hkX
      have cW : ∀ w', Calls Tryd.prog 26 #[vVolume X X X a n cap, .int .i64 (k : Int)] w' fun e w'' => e = .returned (v3v (kx X k) (ky X k) (kz X k)) ∧ Below w'.heap.size w' w'' := fun w' => whereIn_any X X X a n cap hX hX k (by omega) w'
      have cP := fun w' => plus3_any (kx X k) (ky X k) (kz X k) x y z ⟨⟨by omega, by omega, by omega⟩, hx, hy, hz⟩ w'
      have hd := HDD.out k hlt
      have hb0 := HBD.out k hk
      have hst : Hid (cst f t X x y z (k + 1) = cst f t X x y z k + dst f t X x y z k * dst f t X x y z k) := rfl
      have hdd : Hid (dst f t X x y z k = f k - cAt t X (kx X k - x) (ky X k - y) (kz X k - z)) := rfl
      have hfk := HF.out k hlt
      obtain ⟨b9, o9, rfl, zk⟩ := (HP.out.below HS.out.below).at hlt
      have HP2 := hide (HP'.out.below HS.out.below)
      have cG := fun w' hw => cA (kx X k - x) (ky X k - y) (kz X k - z) w' hw
      obtain ⟨i0, i1, i2, i3⟩ := HS.out.im4 3 rfl
      obtain ⟨j0, j1, j2, j3⟩ := HS.out.im4 2 rfl
      obtain ⟨l0, l1, l2⟩ := HS.out.im3 0 rfl
      clear hkX cA
      generalize kx X k = r at *
      generalize ky X k = s at *
      generalize kz X k = u at *
      generalize cAt t X (r - x) (s - y) (u - z) = C at *
      generalize dst f t X x y z k = d at *
      generalize cst f t X x y z k = S at *
      obtain ⟨D2, hD2⟩ : ∃ D2, d * d = D2 := ⟨_, rfl⟩
      rw [hD2] at hd hst
      have hdd' := hdd.out
      have a0 : IntKind.i64.wrap (f k - C) = d := by rw [IntKind.wrap_i64]; omega
      have a6 : IntKind.i64.wrap (d * d) = D2 := by rw [hD2, IntKind.wrap_i64]; omega
      have a7 : IntKind.i64.wrap (S + D2) = S + D2 := by rw [IntKind.wrap_i64]; omega
      have hltk : (k : Int) < (n : Int) := by omega
      clear hdd hdd' hD2 hd hb0 hfk
      generalize f k = F at *
      have u0 := fun pp : Up wr => pp.cell i0
      have u1 := fun pp : Up wr => pp.cell i1
      have u2 := fun pp : Up wr => pp.cell i2
      have u3 := fun pp : Up wr => pp.cell i3
      have v0 := fun pp : Up wr => pp.cell j0
      have v1 := fun pp : Up wr => pp.cell j1
      have v2 := fun pp : Up wr => pp.cell j2
      have v3 := fun pp : Up wr => pp.cell j3
      have m0 := fun pp : Up wr => pp.cell l0
      have m1 := fun pp : Up wr => pp.cell l1
      have m2 := fun pp : Up wr => pp.cell l2
      have cU := fun pp : Up wr => cG pp.w (HP2.out.below pp.below)
      go_upto_region 5 with fail
      refine region_up (by kernel_rfl) (by kernel_rfl) ?_
      repeat (go_big_quiet_step (first
        | exact rfl
        | (go_at_call 26; exact calls_up (cW _))
        | (go_at_call 28; exact calls_up (cP _))
        | (go_at_call 57; exact calls_up (cU _))))
      refine wpQuiet_nil ?_
      intro _ hw2
      obtain ⟨pq, hw3⟩ := hw2
      subst hw3
      have HE := hide (HS.out.next pq.below)
      clear u0 u1 u2 u3 v0 v1 v2 v3 m0 m1 m2 cU cG i0 i1 i2 i3 j0 j1 j2 j3 l0 l1 l2 zk HS
      generalize pq.w = w3 at *
      go_wp2_with fail
      exact ⟨⟨k + 1, by omega, by simp, by rw [hst.out], HE.out⟩, by simp [intOf] <;> omega⟩
    · obtain rfl : k = n := by omega
      have HE := hide HS.out.below
      go_wp2_with fail
      go_ret
      exact ⟨rfl, HE.out⟩

end Go.Proofs.YtkgkdhocmglklaaDoor

namespace Go.Proofs.YtkgkdhocmglklaaDoor
open Go.RowKit

set_option maxRecDepth 100000 in
set_option maxHeartbeats 2000000 in
theorem l10FitOk_any (X Y Z : Int) (a : Option Addr) (n cap : Nat) (f : Nat → Int) (hl : n ≤ 1048576) (X' Y' Z' : Int) (a' : Option Addr) (n' cap' : Nat) (f' : Nat → Int) (hl' : n' ≤ 1048576) (w : World) (h : Px a n f w) (h' : Px a' n' f' w) :
    Calls Tryd.prog 39 #[vVolume X Y Z a n cap, vVolume X' Y' Z' a' n' cap'] w fun e w' => e = .returned (.bool (likB X Y Z n f X' Y' Z' n' f')) ∧ Below w.heap.size w w' := by
  have HS0 := hide (((St.start w).box [.int .i64 X, .int .i64 Y, .int .i64 Z, .slice a n cap] 26).box' [.int .i64 X', .int .i64 Y', .int .i64 Z', .slice a' n' cap'] 26 (b := w.heap.size + 1) (by simp))
  have HP := hide h
  have HP' := hide h'
  clear h h'
  have c1 := fun w' hw => l10Cube_any X Y Z a n cap f hl w' hw
  have c2 := fun w' hw => l10Cube_any X' Y' Z' a' n' cap' f' hl' w' hw
  unfold likB
  generalize cubB X Y Z n f = p at *
  generalize cubB X' Y' Z' n' f' = q at *
  obtain ⟨i0, i1, i2, i3⟩ := HS0.out.im4 1 rfl
  go_enter Tryd.func39, Tryd.ntmps39
  go_wp2_with fail
  refine (c1 _ (HP.out.below HS0.out.below)).mono ?_
  rintro e w1 ⟨rfl, hb⟩
  have HS1 := hide (HS0.out.next hb)
  clear hb HS0 c1 i0 i1 i2 i3
  obtain ⟨i0, i1, i2, i3⟩ := HS1.out.im4 1 rfl
  obtain ⟨j0, j1, j2, j3⟩ := HS1.out.im4 0 rfl
  cases p
  · have HE := hide HS1.out.below
    go_wp2_with fail
    go_ret
    exact ⟨rfl, HE.out⟩
  go_wp2_with fail
  refine (c2 _ (HP'.out.below HS1.out.below)).mono ?_
  rintro e w2 ⟨rfl, hb⟩
  have HS2 := hide (HS1.out.next hb)
  clear hb HS1 c2 i0 i1 i2 i3 j0 j1 j2 j3
  obtain ⟨i0, i1, i2, i3⟩ := HS2.out.im4 1 rfl
  obtain ⟨j0, j1, j2, j3⟩ := HS2.out.im4 0 rfl
  have HE := hide HS2.out.below
  cases q
  · go_wp2_with fail
    go_ret
    exact ⟨rfl, HE.out⟩
  by_cases hx : X = X'
  · have qx : (X == X') = true := by simp [hx]
    have dx : Hid (decide (X = X') = true) := decide_eq_true hx
    clear hx
    by_cases h6 : X ≤ 6
    · have d6 : Hid (decide (X ≤ 6) = true) := decide_eq_true h6
      go_wp2_with fail
      go_ret
      exact ⟨by rw [dx.out, d6.out]; rfl, HE.out⟩
    · have d6 : Hid (decide (X ≤ 6) = false) := decide_eq_false h6
      go_wp2_with fail
      go_ret
      exact ⟨by rw [dx.out, d6.out]; rfl, HE.out⟩
  · have qx : (X == X') = false := by simp [hx]
    have dx : Hid (decide (X = X') = false) := decide_eq_false hx
    clear hx
    go_wp2_with fail
    go_ret
    exact ⟨by rw [dx.out]; rfl, HE.out⟩

set_option maxRecDepth 100000 in
set_option maxHeartbeats 2000000 in
theorem areLikeCubes_any (X Y Z : Int) (a : Option Addr) (n cap : Nat) (f : Nat → Int) (hl : n ≤ 1048576) (X' Y' Z' : Int) (a' : Option Addr) (n' cap' : Nat) (f' : Nat → Int) (hl' : n' ≤ 1048576) (w : World) (h : Px a n f w) (h' : Px a' n' f' w) :
    Calls Tryd.prog 31 #[vVolume X Y Z a n cap, vVolume X' Y' Z' a' n' cap'] w fun e w' => e = .returned (.bool (likB X Y Z n f X' Y' Z' n' f')) ∧ Below w.heap.size w w' := by
  have HS0 := hide (((St.start w).box [.int .i64 X, .int .i64 Y, .int .i64 Z, .slice a n cap] 26).box' [.int .i64 X', .int .i64 Y', .int .i64 Z', .slice a' n' cap'] 26 (b := w.heap.size + 1) (by simp))
  have HP := hide h
  have HP' := hide h'
  clear h h'
  have c1 := fun w' hw => isCube_any X Y Z a n cap f hl w' hw
  have c2 := fun w' hw => isCube_any X' Y' Z' a' n' cap' f' hl' w' hw
  unfold likB
  generalize cubB X Y Z n f = p at *
  generalize cubB X' Y' Z' n' f' = q at *
  obtain ⟨i0, i1, i2, i3⟩ := HS0.out.im4 1 rfl
  go_enter Tryd.func31, Tryd.ntmps31
  go_wp2_with fail
  refine (c1 _ (HP.out.below HS0.out.below)).mono ?_
  rintro e w1 ⟨rfl, hb⟩
  have HS1 := hide (HS0.out.next hb)
  clear hb HS0 c1 i0 i1 i2 i3
  obtain ⟨i0, i1, i2, i3⟩ := HS1.out.im4 1 rfl
  obtain ⟨j0, j1, j2, j3⟩ := HS1.out.im4 0 rfl
  cases p
  · have HE := hide HS1.out.below
    go_wp2_with fail
    go_ret
    exact ⟨rfl, HE.out⟩
  go_wp2_with fail
  refine (c2 _ (HP'.out.below HS1.out.below)).mono ?_
  rintro e w2 ⟨rfl, hb⟩
  have HS2 := hide (HS1.out.next hb)
  clear hb HS1 c2 i0 i1 i2 i3 j0 j1 j2 j3
  obtain ⟨i0, i1, i2, i3⟩ := HS2.out.im4 1 rfl
  obtain ⟨j0, j1, j2, j3⟩ := HS2.out.im4 0 rfl
  have HE := hide HS2.out.below
  cases q
  · go_wp2_with fail
    go_ret
    exact ⟨rfl, HE.out⟩
  by_cases hx : X = X'
  · have qx : (X == X') = true := by simp [hx]
    have dx : Hid (decide (X = X') = true) := decide_eq_true hx
    clear hx
    by_cases h6 : X ≤ 6
    · have d6 : Hid (decide (X ≤ 6) = true) := decide_eq_true h6
      go_wp2_with fail
      go_ret
      exact ⟨by rw [dx.out, d6.out]; rfl, HE.out⟩
    · have d6 : Hid (decide (X ≤ 6) = false) := decide_eq_false h6
      go_wp2_with fail
      go_ret
      exact ⟨by rw [dx.out, d6.out]; rfl, HE.out⟩
  · have qx : (X == X') = false := by simp [hx]
    have dx : Hid (decide (X = X') = false) := decide_eq_false hx
    clear hx
    go_wp2_with fail
    go_ret
    exact ⟨by rw [dx.out]; rfl, HE.out⟩

theorem cub_posF {X Y Z : Int} {n : Nat} {f : Nat → Int} (h : cubB X Y Z n f = true) : 1 ≤ n := by
  obtain ⟨-, -, hX, hn, -⟩ := cubB_parts h
  have : 1 * 1 * 1 ≤ X * X * X := Int.mul_le_mul (Int.mul_le_mul hX.1 hX.1 (by omega) (by omega)) hX.1 (by omega) (Int.mul_nonneg (by omega) (by omega))
  omega
theorem turnI_any (X : Int) (n : Nat) (f : Nat → Int) (h : cubB X X X n f = true) (t0 t1 t2 t3 : Int) (ht : tkT (t0, t1, t2, t3) = true) (a : Option Addr) (cp : Nat) (w : World) (hr : Px a n f w) :
    Calls Tryd.prog 8 #[vVolume X X X a n cp, tv t0 t1 t2 t3] w fun e w' => ∃ b' cp', e = .returned (vVolume X X X (some ⟨b', 0, none⟩) n cp') ∧ Row b' n (tvs (tgT (t0, t1, t2, t3) X) f n) w' ∧ Below w.heap.size w w' := by
  obtain ⟨-, -, hX, hn, hn2⟩ := cubB_parts h
  have h1 := cub_posF h
  have hB : tvB X X X n f t0 t1 t2 t3 = true := by
    unfold tvB
    rw [h]
    exact ht
  have hN : tvN X X X n f t0 t1 t2 t3 = n := by unfold tvN; rw [if_pos hB]
  have hX' : tvX X X X n f t0 t1 t2 t3 = X := by unfold tvX; rw [if_pos hB]
  refine (implTurnVolume_any X X X a n cp f (by omega) t0 t1 t2 t3 w hr).mono ?_
  rw [hN, hX']
  rintro e w' ⟨a', cp', b', rfl, ho, hB', hb⟩
  rcases ho with ho | ⟨rfl, hr'⟩
  · omega
  · exact ⟨b', cp', rfl, hr', hb⟩
theorem turnS_any (X : Int) (n : Nat) (f : Nat → Int) (h : cubB X X X n f = true) (t0 t1 t2 t3 : Int) (i0 : I64 t0) (i1 : I64 t1) (i2 : I64 t2) (i3 : I64 t3) (ht : tkT (t0, t1, t2, t3) = true) (a : Option Addr) (cp : Nat) (w : World) (hr : Px a n f w) :
    Calls Tryd.prog 7 #[vVolume X X X a n cp, tv t0 t1 t2 t3] w fun e w' => ∃ b' cp', e = .returned (vVolume X X X (some ⟨b', 0, none⟩) n cp') ∧ Row b' n (tvs (tgT (t0, t1, t2, t3) X) f n) w' ∧ Below w.heap.size w w' := by
  obtain ⟨-, -, hX, hn, hn2⟩ := cubB_parts h
  have h1 := cub_posF h
  have hB : tvB X X X n f t0 t1 t2 t3 = true := by
    unfold tvB
    rw [h]
    exact ht
  have hN : tvN X X X n f t0 t1 t2 t3 = n := by unfold tvN; rw [if_pos hB]
  have hX' : tvX X X X n f t0 t1 t2 t3 = X := by unfold tvX; rw [if_pos hB]
  refine (specTurnVolume_any X X X a n cp f (by omega) t0 t1 t2 t3 i0 i1 i2 i3 w hr).mono ?_
  rw [hN, hX']
  rintro e w' ⟨a', cp', b', rfl, ho, hB', hb⟩
  rcases ho with ho | ⟨rfl, hr'⟩
  · omega
  · exact ⟨b', cp', rfl, hr', hb⟩
/-- what each operation leaves: values, and at one place a volume -/
def fzF (X : Int) (n : Nat) (G : Nat → Value → Prop) (jv : Nat) (f : Nat → Int) (j : Nat) (u : Nat → Value) (w : World) : Prop :=
  G j (u j) ∧ (j = jv → ∃ b cp, u jv = vVolume X X X (some ⟨b, 0, none⟩) n cp ∧ Row b n f w)
theorem Row.ltF {b n : Nat} {f : Nat → Int} {w : World} (h : Row b n f w) (hn : 1 ≤ n) : b < w.heap.size := World.block_lt_of_cell? w ⟨b, 0, none⟩ (h 0 (by omega)).1
theorem fzF_up {X : Int} {n : Nat} {G : Nat → Value → Prop} {jv : Nat} {f : Nat → Int} {u : Nat → Value} {w w' : World} (hn : 1 ≤ n) (hb : Below w.heap.size w w') (i : Nat) (v : Value) (j : Nat) (hj : j ≠ i) (h : fzF X n G jv f j u w) : fzF X n G jv f j (upU u i v) w' := by
  obtain ⟨h1, h2⟩ := h
  refine ⟨by rw [upU_other u v hj]; exact h1, fun e => ?_⟩
  obtain ⟨b, cp, e', hr⟩ := h2 e
  exact ⟨b, cp, by rw [upU_other u v (by omega)]; exact e', hr.below hb (hr.ltF hn)⟩
theorem fzF_val {X : Int} {n : Nat} {G : Nat → Value → Prop} {jv : Nat} {f : Nat → Int} {u : Nat → Value} {w : World} (j : Nat) (hf : j ≠ jv) {v : Value} (h : G j v) : fzF X n G jv f j (upU u j v) w :=
  ⟨by rw [upU_same]; exact h, fun e => absurd e hf⟩
theorem fzF_vol {X : Int} {n : Nat} {G : Nat → Value → Prop} {jv : Nat} {f : Nat → Int} {u : Nat → Value} {w : World} (hG : ∀ v, G jv v) {b cp : Nat} (hr : Row b n f w) : fzF X n G jv f jv (upU u jv (vVolume X X X (some ⟨b, 0, none⟩) n cp)) w :=
  ⟨hG _, fun _ => ⟨b, cp, upU_same _ _ _, hr⟩⟩
theorem Bx.ltF {b : Nat} {v : Value} {vs : List Value} {w : World} (h : Bx b (v :: vs) w) : b < w.heap.size := World.block_lt_of_cell? w ⟨b, 0, none⟩ (h 0 v rfl).1

end Go.Proofs.YtkgkdhocmglklaaDoor

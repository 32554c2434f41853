/- What a shift costs: the program. -/
import Derived.Test.YtncaekmjpfjneaaDoorFcs
import Derived.Test.YtncaekmjpfjneaaDoorVex
namespace Go.Proofs.YtncaekmjpfjneaaDoor
open Go.RowKit

def q3F (x y z : Int) : Nat → Int
  | 0 => x | 1 => y | _ => z
theorem scal3_any (x y z : Int) (hx : -2 ≤ x ∧ x ≤ 2) (hy : -2 ≤ y ∧ y ≤ 2) (hz : -2 ≤ z ∧ z ≤ 2) (w : World) : Calls Tryd.prog 32 #[v3v x y z, .int .i64 (-1)] w fun e w' => e = .returned (v3v (-x) (-y) (-z)) ∧ Below w.heap.size w w' := by
  have h := vscaled_any (q3F x y z) (-1) (fun k hk => by
    match k, hk with
    | 0, _ => show _ ≤ x * -1 ∧ x * -1 ≤ _; omega
    | 1, _ => show _ ≤ y * -1 ∧ y * -1 ≤ _; omega
    | 2, _ => show _ ≤ z * -1 ∧ z * -1 ≤ _; omega) w
  have e : vec3 (fun k => q3F x y z k * -1) = v3v (-x) (-y) (-z) := by
    show v3v (x * -1) (y * -1) (z * -1) = _
    rw [show x * -1 = -x by omega, show y * -1 = -y by omega, show z * -1 = -z by omega]
  rw [e] at h
  exact h
theorem plus3_any (r s u x y z : Int) (h : ((-100000 ≤ r ∧ r ≤ 100000) ∧ (-100000 ≤ s ∧ s ≤ 100000) ∧ (-100000 ≤ u ∧ u ≤ 100000)) ∧ (-2 ≤ x ∧ x ≤ 2) ∧ (-2 ≤ y ∧ y ≤ 2) ∧ (-2 ≤ z ∧ z ≤ 2)) (w : World) :
    Calls Tryd.prog 35 #[v3v r s u, v3v (-x) (-y) (-z)] w fun e w' => e = .returned (v3v (r - x) (s - y) (u - z)) ∧ Below w.heap.size w w' := by
  have h := vplus_any (q3F r s u) (q3F (-x) (-y) (-z)) (fun k hk => by
    match k, hk with
    | 0, _ => show _ ≤ r + -x ∧ r + -x ≤ _; omega
    | 1, _ => show _ ≤ s + -y ∧ s + -y ≤ _; omega
    | 2, _ => show _ ≤ u + -z ∧ u + -z ≤ _; omega) w
  have e : vec3 (fun k => q3F r s u k + q3F (-x) (-y) (-z) k) = v3v (r - x) (s - y) (u - z) := by
    show v3v (r + -x) (s + -y) (u + -z) = _
    rw [show r + -x = r - x by omega, show s + -y = s - y by omega, show u + -z = u - z by omega]
  rw [e] at h
  exact h

set_option maxRecDepth 100000 in
set_option maxHeartbeats 4000000 in
theorem costOfShift_any (X : Int) (a : Option Addr) (n cap : Nat) (f : Nat → Int) (a' : Option Addr) (cap' : Nat) (t : Nat → Int) (hX : 1 ≤ X ∧ X ≤ 32) (hn : (n : Int) = X * X * X) (hn2 : n ≤ 32768) (hf : ∀ k, k < n → -4095 ≤ f k ∧ f k ≤ 4095) (ht : ∀ k, k < n → -4095 ≤ t k ∧ t k ≤ 4095)
    (x y z : Int) (hx : -2 ≤ x ∧ x ≤ 2) (hy : -2 ≤ y ∧ y ≤ 2) (hz : -2 ≤ z ∧ z ≤ 2) (w : World) (h : Px a n f w) (h' : Px a' n t w) :
    Calls Tryd.prog 23 #[vVolume X X X a n cap, vVolume X X X a' n cap', v3v x y z] w fun e w' => e = .returned (.int .i64 (cst f t X x y z n)) ∧ Below w.heap.size w w' := by
  have HS0 := hide ((((St.start w).box [.int .i64 X, .int .i64 X, .int .i64 X, .slice a n cap] 27).box' [.int .i64 X, .int .i64 X, .int .i64 X, .slice a' n cap'] 27 (b := w.heap.size + 1) (by simp)).box' [.int .i64 x, .int .i64 y, .int .i64 z] 46 (b := w.heap.size + 2) (by simp))
  have HP := hide h
  have HP' := hide h'
  have HN := hide hn
  have HBD := hide (fun k (hk : k ≤ n) => cst_bd hX hn hf ht x y z k hk)
  have HDD := hide (fun k (hk : k < n) => dst_bd hX hn hf ht x y z (k := k) hk)
  have cA := fun xx yy zz w' hw => voxelAt_any X a' n cap' t hX hn xx yy zz w' hw
  have cS := fun w' => scal3_any x y z hx hy hz w'
  have HF := hide hf
  clear h h' hn hf ht
  obtain ⟨j0, j1, j2⟩ := HS0.out.im3 0 rfl
  go_enter Tryd.func23, Tryd.ntmps23
  go_wp2_with fail
  refine (cS _).mono ?_
  rintro e w1 ⟨rfl, hb⟩
  have HS1 := hide ((HS0.out.next hb).box [.int .i64 (-x), .int .i64 (-y), .int .i64 (-z)] 46)
  clear hb HS0 cS j0 j1 j2
  go_upto_region 2 with fail
  generalize hw2 : w1.alloc (.cells [.int .i64 (-x), .int .i64 (-y), .int .i64 (-z)].toArray 46) = w2 at HS1
  have hw2' : w1.alloc (.cells #[.int .i64 (-x), .int .i64 (-y), .int .i64 (-z)] 46) = w2 := hw2
  try rw [hw2']
  clear hw2 hw2'
  generalize w1.heap.size = M at *
  obtain ⟨i0, i1, i2, i3⟩ := HS1.out.im4 3 rfl
  go_wp2_with fail
  clear i0 i1 i2 i3
  go_loopw [8, 17] (fun s i wr => ∃ k : Nat, k ≤ n ∧ i = .int .i64 (k : Int) ∧ s = .int .i64 (cst f t X x y z k) ∧ St w [(M, [.int .i64 (-x), .int .i64 (-y), .int .i64 (-z)]), (w.heap.size + 2, [.int .i64 x, .int .i64 y, .int .i64 z]), (w.heap.size + 1, [.int .i64 X, .int .i64 X, .int .i64 X, .slice a' n cap']), (w.heap.size, [.int .i64 X, .int .i64 X, .int .i64 X, .slice a n cap])] [] wr) (fun _ i _ => n - (intOf i).toNat)
  case atStart => exact ⟨0, by omega, rfl, rfl, HS1.out⟩
  case round =>
    obtain ⟨k, hk, rfl, rfl, hs⟩ := hrel
    clear HS1
    have HS := hide hs
    clear hs
    by_cases hlt : k < n
    · have hkX : (k : Int) < X * X * X := by have := HN.out; omega
      obtain ⟨x0, y0, z0⟩ := kxyz hX.1 hkX
      have cW : ∀ w', Calls Tryd.prog 34 #[vVolume X X X a n cap, .int .i64 (k : Int)] w' fun e w'' => e = .returned (v3v (kx X k) (ky X k) (kz X k)) ∧ Below w'.heap.size w' w'' := fun w' => whereIn_any X X X a n cap hX hX k (by omega) w'
      have cP := fun w' => plus3_any (kx X k) (ky X k) (kz X k) x y z ⟨⟨by omega, by omega, by omega⟩, hx, hy, hz⟩ w'
      have hd := HDD.out k hlt
      have hb0 := HBD.out k hk
      have hst : Hid (cst f t X x y z (k + 1) = cst f t X x y z k + dst f t X x y z k * dst f t X x y z k) := rfl
      have hdd : Hid (dst f t X x y z k = f k - cAt t X (kx X k - x) (ky X k - y) (kz X k - z)) := rfl
      have hfk := HF.out k hlt
      obtain ⟨b9, o9, rfl, zk⟩ := (HP.out.below HS.out.below).at hlt
      have HP2 := hide (HP'.out.below HS.out.below)
      have cG := fun w' hw => cA (kx X k - x) (ky X k - y) (kz X k - z) w' hw
      obtain ⟨i0, i1, i2, i3⟩ := HS.out.im4 3 rfl
      obtain ⟨j0, j1, j2, j3⟩ := HS.out.im4 2 rfl
      obtain ⟨l0, l1, l2⟩ := HS.out.im3 0 rfl
      clear hkX cA
      generalize kx X k = r at *
      generalize ky X k = s at *
      generalize kz X k = u at *
      generalize cAt t X (r - x) (s - y) (u - z) = C at *
      generalize dst f t X x y z k = d at *
      generalize cst f t X x y z k = S at *
      obtain ⟨D2, hD2⟩ : ∃ D2, d * d = D2 := ⟨_, rfl⟩
      rw [hD2] at hd hst
      have hdd' := hdd.out
      have a0 : IntKind.i64.wrap (f k - C) = d := by rw [IntKind.wrap_i64]; omega
      have a6 : IntKind.i64.wrap (d * d) = D2 := by rw [hD2, IntKind.wrap_i64]; omega
      have a7 : IntKind.i64.wrap (S + D2) = S + D2 := by rw [IntKind.wrap_i64]; omega
      have hltk : (k : Int) < (n : Int) := by omega
      clear hdd hdd' hD2 hd hb0 hfk
      generalize f k = F at *
      have u0 := fun pp : Up wr => pp.cell i0
      have u1 := fun pp : Up wr => pp.cell i1
      have u2 := fun pp : Up wr => pp.cell i2
      have u3 := fun pp : Up wr => pp.cell i3
      have v0 := fun pp : Up wr => pp.cell j0
      have v1 := fun pp : Up wr => pp.cell j1
      have v2 := fun pp : Up wr => pp.cell j2
      have v3 := fun pp : Up wr => pp.cell j3
      have m0 := fun pp : Up wr => pp.cell l0
      have m1 := fun pp : Up wr => pp.cell l1
      have m2 := fun pp : Up wr => pp.cell l2
      have cU := fun pp : Up wr => cG pp.w (HP2.out.below pp.below)
      go_upto_region 5 with fail
      refine region_up (by kernel_rfl) (by kernel_rfl) ?_
      repeat (go_big_quiet_step (first
        | exact rfl
        | (go_at_call 34; exact calls_up (cW _))
        | (go_at_call 35; exact calls_up (cP _))
        | (go_at_call 33; exact calls_up (cU _))))
      refine wpQuiet_nil ?_
      intro _ hw2
      obtain ⟨pq, hw3⟩ := hw2
      subst hw3
      have HE := hide (HS.out.next pq.below)
      clear u0 u1 u2 u3 v0 v1 v2 v3 m0 m1 m2 cU cG i0 i1 i2 i3 j0 j1 j2 j3 l0 l1 l2 zk HS
      generalize pq.w = w3 at *
      go_wp2_with fail
      exact ⟨⟨k + 1, by omega, by simp, by rw [hst.out], HE.out⟩, by simp [intOf] <;> omega⟩
    · obtain rfl : k = n := by omega
      have HE := hide HS.out.below
      go_wp2_with fail
      go_ret
      exact ⟨rfl, HE.out⟩

end Go.Proofs.YtncaekmjpfjneaaDoor

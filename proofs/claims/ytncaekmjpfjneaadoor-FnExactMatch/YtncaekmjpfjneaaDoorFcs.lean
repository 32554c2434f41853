/- What a shift costs: both sides. -/
import Derived.Test.YtncaekmjpfjneaaDoorFci
namespace Go.Proofs.YtncaekmjpfjneaaDoor
open Go.RowKit

set_option maxRecDepth 100000 in
set_option maxHeartbeats 4000000 in
theorem l10Cost_any (X : Int) (a : Option Addr) (n cap : Nat) (f : Nat → Int) (a' : Option Addr) (cap' : Nat) (t : Nat → Int) (hX : 1 ≤ X ∧ X ≤ 32) (hn : (n : Int) = X * X * X) (hn2 : n ≤ 32768) (hf : ∀ k, k < n → -4095 ≤ f k ∧ f k ≤ 4095) (ht : ∀ k, k < n → -4095 ≤ t k ∧ t k ≤ 4095)
    (x y z : Int) (hx : -2 ≤ x ∧ x ≤ 2) (hy : -2 ≤ y ∧ y ≤ 2) (hz : -2 ≤ z ∧ z ≤ 2) (w : World) (h : Px a n f w) (h' : Px a' n t w) :
    Calls Tryd.prog 16 #[vVolume X X X a n cap, vVolume X X X a' n cap', .int .i64 x, .int .i64 y, .int .i64 z] w fun e w' => e = .returned (.int .i64 (cst f t X x y z n)) ∧ Below w.heap.size w w' := by
  have HS0 := hide (((St.start w).box [.int .i64 X, .int .i64 X, .int .i64 X, .slice a n cap] 27).box' [.int .i64 X, .int .i64 X, .int .i64 X, .slice a' n cap'] 27 (b := w.heap.size + 1) (by simp))
  have HP := hide h
  have HP' := hide h'
  have HN := hide hn
  have HBD := hide (fun k (hk : k ≤ n) => cst_bd hX hn hf ht x y z k hk)
  have HDD := hide (fun k (hk : k < n) => dst_bd hX hn hf ht x y z (k := k) hk)
  have cA := fun xx yy zz w' hw => l7At_any X a' n cap' t hX hn xx yy zz w' hw
  have HF := hide hf
  clear h h' hn hf ht
  obtain ⟨i0, i1, i2, i3⟩ := HS0.out.im4 1 rfl
  go_enter Tryd.func16, Tryd.ntmps16
  go_wp2_with fail
  clear i0 i1 i2 i3
  go_loopw [12, 13] (fun s i wr => ∃ k : Nat, k ≤ n ∧ i = .int .i64 (k : Int) ∧ s = .int .i64 (cst f t X x y z k) ∧ St w [(w.heap.size + 1, [.int .i64 X, .int .i64 X, .int .i64 X, .slice a' n cap']), (w.heap.size, [.int .i64 X, .int .i64 X, .int .i64 X, .slice a n cap])] [] wr) (fun _ i _ => n - (intOf i).toNat)
  case atStart => exact ⟨0, by omega, rfl, rfl, HS0.out⟩
  case round =>
    obtain ⟨k, hk, rfl, rfl, hs⟩ := hrel
    clear HS0
    have HS := hide hs
    clear hs
    obtain ⟨i0, i1, i2, i3⟩ := HS.out.im4 1 rfl
    obtain ⟨j0, j1, j2, j3⟩ := HS.out.im4 0 rfl
    by_cases hlt : k < n
    · have hkX : (k : Int) < X * X * X := by have := HN.out; omega
      obtain ⟨x0, y0, z0⟩ := kxyz hX.1 hkX
      have e1 : (k : Int).tmod X = kx X k := Int.tmod_eq_emod_of_nonneg (by omega)
      have e2 : (k : Int).tdiv X = (k : Int) / X := Int.tdiv_eq_ediv_of_nonneg (by omega)
      have c0 : 0 ≤ (k : Int) / X := Int.ediv_nonneg (by omega) (by omega)
      have c1 : (k : Int) / X ≤ (k : Int) := Int.ediv_le_self X (by omega)
      have e3 : ((k : Int) / X).tmod X = ky X k := Int.tmod_eq_emod_of_nonneg c0
      have e4 : ((k : Int) / X).tdiv X = kz X k := Int.tdiv_eq_ediv_of_nonneg c0
      have hd := HDD.out k hlt
      have hb0 := HBD.out k hk
      have hst : Hid (cst f t X x y z (k + 1) = cst f t X x y z k + dst f t X x y z k * dst f t X x y z k) := rfl
      have hdd : Hid (dst f t X x y z k = f k - cAt t X (kx X k - x) (ky X k - y) (kz X k - z)) := rfl
      have hfk := HF.out k hlt
      obtain ⟨b9, o9, rfl, zk⟩ := (HP.out.below HS.out.below).at hlt
      have HP2 := hide (HP'.out.below HS.out.below)
      have cG := fun w' hw => cA (kx X k - x) (ky X k - y) (kz X k - z) w' hw
      clear hkX cA
      generalize kx X k = r at *
      generalize ky X k = s at *
      generalize kz X k = u at *
      generalize (k : Int) / X = q at *
      generalize cAt t X (r - x) (s - y) (u - z) = C at *
      generalize dst f t X x y z k = d at *
      generalize cst f t X x y z k = S at *
      obtain ⟨D2, hD2⟩ : ∃ D2, d * d = D2 := ⟨_, rfl⟩
      rw [hD2] at hd hst
      have hdd' := hdd.out
      have a0 : IntKind.i64.wrap (f k - C) = d := by rw [IntKind.wrap_i64]; omega
      have a1 : IntKind.i64.wrap q = q := by rw [IntKind.wrap_i64]; omega
      have a2 : IntKind.i64.wrap u = u := by rw [IntKind.wrap_i64]; omega
      have a3 : IntKind.i64.wrap (r - x) = r - x := by rw [IntKind.wrap_i64]; omega
      have a4 : IntKind.i64.wrap (s - y) = s - y := by rw [IntKind.wrap_i64]; omega
      have a5 : IntKind.i64.wrap (u - z) = u - z := by rw [IntKind.wrap_i64]; omega
      have a6 : IntKind.i64.wrap (d * d) = D2 := by rw [hD2, IntKind.wrap_i64]; omega
      have a7 : IntKind.i64.wrap (S + D2) = S + D2 := by rw [IntKind.wrap_i64]; omega
      have hX0 : X ≠ 0 := by omega
      have hltk : (k : Int) < (n : Int) := by omega
      clear hdd hdd' hD2 hd hb0 hfk c0 c1
      generalize f k = F at *
      have u0 := fun pp : Up wr => pp.cell i0
      have u1 := fun pp : Up wr => pp.cell i1
      have u2 := fun pp : Up wr => pp.cell i2
      have u3 := fun pp : Up wr => pp.cell i3
      have v0 := fun pp : Up wr => pp.cell j0
      have v1 := fun pp : Up wr => pp.cell j1
      have v2 := fun pp : Up wr => pp.cell j2
      have v3 := fun pp : Up wr => pp.cell j3
      have vk := fun pp : Up wr => pp.cell zk
      have cU := fun pp : Up wr => cG pp.w (HP2.out.below pp.below)
      go_upto_region 6 with fail
      refine region_up (by kernel_rfl) (by kernel_rfl) ?_
      repeat (go_big_quiet_step (first
        | exact rfl
        | (go_at_call 28; exact calls_up (cU _))))
      refine wpQuiet_nil ?_
      intro _ hw2
      obtain ⟨pq, hw3⟩ := hw2
      subst hw3
      have HE := hide (HS.out.next pq.below)
      clear u0 u1 u2 u3 v0 v1 v2 v3 vk cU cG i0 i1 i2 i3 j0 j1 j2 j3 zk HS
      generalize pq.w = w2 at *
      go_wp2_with fail
      exact ⟨⟨k + 1, by omega, by simp, by rw [hst.out], HE.out⟩, by simp [intOf] <;> omega⟩
    · obtain rfl : k = n := by omega
      have HE := hide HS.out.below
      go_wp2_with fail
      go_ret
      exact ⟨rfl, HE.out⟩

end Go.Proofs.YtncaekmjpfjneaaDoor

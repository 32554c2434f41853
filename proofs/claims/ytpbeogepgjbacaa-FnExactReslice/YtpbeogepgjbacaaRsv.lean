/- Reslice, the program: the voxel that is nearest to a place. -/
import Derived.Test.YtpbeogepgjbacaaRsc
namespace Go.Proofs.Ytpbeogepgjbacaa
open Go.RowKit

abbrev pl4 (a b c d : Int) : Value := .agg #[.int .i64 a, .int .i64 b, .int .i64 c, .int .i64 d]
/-- the voxel that is nearest to a place -/
def vxN (t : Nat → Int) (X Y Z x y z d : Int) : Int := vxV t X Y Z (nrS x d) (nrS y d) (nrS z d)

set_option maxRecDepth 100000 in
set_option maxHeartbeats 4000000 in
theorem voxelNear_any (X Y Z : Int) (a : Option Addr) (n cap : Nat) (t : Nat → Int) (hX : 1 ≤ X ∧ X ≤ 32) (hY : 1 ≤ Y ∧ Y ≤ 32) (hZ : 1 ≤ Z ∧ Z ≤ 32) (hn : (n : Int) = X * Y * Z) (x y z : Int) (d : Nat) (hd : 1 ≤ d) (hd2 : d ≤ 1000000)
    (hx : -1000000000 ≤ x ∧ x ≤ 1000000000) (hy : -1000000000 ≤ y ∧ y ≤ 1000000000) (hz : -1000000000 ≤ z ∧ z ≤ 1000000000) (w : World) (h : Px a n t w) :
    Calls Try.prog 32 #[vVolume X Y Z a n cap, pl4 x y z (d : Int)] w fun e w' => e = .returned (.int .i64 (vxN t X Y Z x y z d)) ∧ Below w.heap.size w w' := by
  have HS0 := hide (((St.start w).box [.int .i64 X, .int .i64 Y, .int .i64 Z, .slice a n cap] 29).box' [.int .i64 x, .int .i64 y, .int .i64 z, .int .i64 (d : Int)] 50 (b := w.heap.size + 1) (by simp))
  have up := fun (s : Int) (hs : -1000000000 ≤ s ∧ s ≤ 1000000000) w' => (nearest_any s d hd hd2 hs w').mono (R' := fun e w'' => e = .returned (.int .i64 (nrS s d)) ∧ Below w'.heap.size w' w'') (fun e w'' h => ⟨h.1, by rw [h.2]; exact Below.refl _ _⟩)
  have c1 := up x hx
  have c2 := up y hy
  have c3 := up z hz
  have c4 := fun w' h => voxelAt_any X Y Z a n cap t hX hY hZ hn (nrS x d) (nrS y d) (nrS z d) w' h
  have HO : Hid (vxV t X Y Z (nrS x d) (nrS y d) (nrS z d) = vxN t X Y Z x y z d) := rfl
  rw [HO.out] at c4
  have HP := hide (h.below HS0.out.below)
  clear h up HO hX hY hZ hn hd hd2 hx hy hz
  generalize nrS x d = NX at *
  generalize nrS y d = NY at *
  generalize nrS z d = NZ at *
  generalize vxN t X Y Z x y z d = V at *
  generalize hA : (w.alloc (.cells [.int .i64 X, .int .i64 Y, .int .i64 Z, .slice a n cap].toArray 29)).alloc (.cells [.int .i64 x, .int .i64 y, .int .i64 z, .int .i64 (d : Int)].toArray 50) = wA at HS0 HP
  have hA' : (w.alloc (.cells #[.int .i64 X, .int .i64 Y, .int .i64 Z, .slice a n cap] 29)).alloc (.cells #[.int .i64 x, .int .i64 y, .int .i64 z, .int .i64 (d : Int)] 50) = wA := hA
  clear hA
  obtain ⟨i0, i1, i2, i3⟩ := HS0.out.im4 1 rfl
  obtain ⟨j0, j1, j2, j3⟩ := HS0.out.im4 0 rfl
  go_enter Try.func32, Try.ntmps32
  go_upto_region 1 with fail
  have u0 := fun pp : Up wA => pp.cell i0
  have u1 := fun pp : Up wA => pp.cell i1
  have u2 := fun pp : Up wA => pp.cell i2
  have u3 := fun pp : Up wA => pp.cell i3
  have v0 := fun pp : Up wA => pp.cell j0
  have v1 := fun pp : Up wA => pp.cell j1
  have v2 := fun pp : Up wA => pp.cell j2
  have v3 := fun pp : Up wA => pp.cell j3
  refine region_up (by kernel_rfl) (by kernel_rfl) ?_
  repeat (go_big_quiet_step (first
    | exact rfl
    | (go_at_call 47; first | with_reducible exact calls_up (c1 _) | with_reducible exact calls_up (c2 _) | with_reducible exact calls_up (c3 _))
    | (go_at_call 46; exact calls_up (c4 _ (HP.out.below (Up.below _))))))
  refine wpQuiet_nil ?_
  intro _ hw2
  obtain ⟨pq, hw3⟩ := hw2
  subst hw3
  have HE := hide (HS0.out.next pq.below).below
  go_wp2_with fail
  go_ret
  exact ⟨rfl, HE.out⟩

end Go.Proofs.Ytpbeogepgjbacaa

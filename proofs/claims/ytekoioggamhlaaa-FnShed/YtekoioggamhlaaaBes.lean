/- What lies beside a place: the specification's list. -/
import Derived.Test.YtekoioggamhlaaaHom
import Derived.Test.YtekoioggamhlaaaMn9
namespace Go.Proofs.Ytekoioggamhlaaa
open Go.RowKit

/-- up, left, right, down -/
def besA (W k : Int) : List Int := if W ≤ k then [k - W] else []
def besB (W k : Int) : List Int := if 0 < k % W then [k - 1] else []
def besC (W k : Int) : List Int := if k % W < W - 1 then [k + 1] else []
def besD (W H k : Int) : List Int := if k / W < H - 1 then [k + W] else []
def besL (W H k : Int) : List Int := besA W k ++ besB W k ++ besC W k ++ besD W H k
theorem besL_len (W H k : Int) : (besL W H k).length ≤ 4 := by
  unfold besL besA besB besC besD
  simp only [List.length_append]
  split <;> split <;> split <;> split <;> simp
theorem mem_if {p : Prop} [Decidable p] {x q : Int} (h : q ∈ (if p then [x] else [])) : p ∧ q = x := by
  by_cases hp : p
  · rw [if_pos hp] at h; exact ⟨hp, by simpa using h⟩
  · rw [if_neg hp] at h; simp at h
theorem besL_in {W H : Int} {n k : Nat} (hn : (n : Int) = W * H) (hW : 1 ≤ W) (hk : k < n) : ∀ q ∈ besL W H k, 0 ≤ q ∧ q < n := by
  intro q hq
  have e := Int.mul_ediv_add_emod (k : Int) W
  have r0 : 0 ≤ (k : Int) % W := Int.emod_nonneg _ (by omega)
  have r1 : (k : Int) % W < W := Int.emod_lt_of_pos _ (by omega)
  have hd0 : 0 ≤ (k : Int) / W := Int.ediv_nonneg (by omega) (by omega)
  have hd : (k : Int) / W < H := by
    apply Int.ediv_lt_of_lt_mul (by omega)
    rw [Int.mul_comm, ← hn]; omega
  unfold besL besA besB besC besD at hq
  simp only [List.mem_append] at hq
  generalize (k : Int) % W = x at *
  generalize (k : Int) / W = y at *
  have h2 : W * y ≤ W * (H - 1) := Int.mul_le_mul_of_nonneg_left (by omega) (by omega)
  rw [Int.mul_sub, ← hn] at h2
  rcases hq with ((hq | hq) | hq) | hq
  · obtain ⟨h1, rfl⟩ := mem_if hq; omega
  · obtain ⟨h1, rfl⟩ := mem_if hq
    have : 0 ≤ W * y := Int.mul_nonneg (by omega) hd0
    omega
  · obtain ⟨h1, rfl⟩ := mem_if hq; omega
  · obtain ⟨h1, rfl⟩ := mem_if hq
    have h3 : W * y ≤ W * (H - 2) := Int.mul_le_mul_of_nonneg_left (by omega) (by omega)
    rw [Int.mul_sub, ← hn] at h3
    omega

set_option maxRecDepth 100000 in
set_option maxHeartbeats 8000000 in
theorem l8Beside_any (W H : Int) (k : Nat) (hW : 1 ≤ W) (hW' : W ≤ 64) (hH : 1 ≤ H) (hH' : H ≤ 64) (hk : k < 4096) (w : World) :
    Calls Try.prog 21 #[.int .i64 W, .int .i64 H, .int .i64 k] w fun e w' => ∃ v, e = .returned v ∧ w'.ownsRow w.heap.size 2 1 v (besL W H k).length (ints (besL W H k)) ∧ Below w.heap.size w w' := by
  have e1 : (k : Int).tmod W = k % W := Int.tmod_eq_emod_of_nonneg (by omega)
  have e2 : (k : Int).tdiv W = k / W := Int.tdiv_eq_ediv_of_nonneg (by omega)
  have hne : W ≠ 0 := by omega
  have h3 : 0 ≤ (k : Int) / W := Int.ediv_nonneg (by omega) (by omega)
  have h4 : (k : Int) / W ≤ k := Int.ediv_le_self W (by omega)
  have h5 : 0 ≤ (k : Int) % W := Int.emod_nonneg _ (by omega)
  have h6 : (k : Int) % W < W := Int.emod_lt_of_pos _ (by omega)
  have w2 : IntKind.i64.wrap ((k : Int) / W) = k / W := by rw [IntKind.wrap_i64]; omega
  unfold besL besA besB besC besD
  obtain ⟨X, hX⟩ : ∃ X, (k : Int) % W = X := ⟨_, rfl⟩
  obtain ⟨Y, hY⟩ : ∃ Y, (k : Int) / W = Y := ⟨_, rfl⟩
  rw [hX, hY]
  rw [hX] at e1 h5 h6
  rw [hY] at e2 h3 h4 w2
  clear hX hY
  obtain ⟨wa, hwa⟩ : ∃ wa, w.alloc (.cells #[] 2) = wa := ⟨_, rfl⟩
  have HO0 : Hid (wa.ownsRow w.heap.size 2 1 (.slice (some ⟨w.heap.size, 0, none⟩) 0 0) 0 (ints [])) := by rw [← hwa]; exact World.ownsRow_lit w #[] 0 (Nat.le_refl _) (by unfold maxLen; omega) rfl
  have HB0 : Hid (Below w.heap.size w wa) := by rw [← hwa]; exact bnew _ _
  have HZ : Hid (w.heap.size ≤ wa.heap.size) := HB0.out.size
  have HWA := hide hwa
  clear hwa

  by_cases c0 : W ≤ (k : Int)
  · rw [if_pos c0]
    by_cases c1 : 0 < X
    · rw [if_pos c1]
      by_cases c2 : X < W - 1
      · rw [if_pos c2]
        by_cases c3 : Y < H - 1
        · rw [if_pos c3]
          go_enter Try.func21, Try.ntmps21
          go_upto_region 2 with fail
          rw [HWA.out]
          generalize (Value.slice (some ⟨w.heap.size, 0, none⟩) 0 0) = v0 at HO0 ⊢
          go_wp2_with (refine growL wa rfl _ _ rfl w.heap.size v0 0 ([]) rfl w HO0.out HB0.out HZ.out ((k : Int) - W) rfl (by omega) ?_)
          intro v1 x1 ho hb hs
          have HO1 : Hid (x1.ownsRow w.heap.size 2 1 v1 1 (ints ([(k : Int) - W]))) := ho
          have HB1 := hide hb
          have HZ1 : Hid (w.heap.size ≤ x1.heap.size) := hb.size
          clear ho hb hs
          go_wp2_with (refine growL x1 rfl _ _ rfl w.heap.size v1 1 ([(k : Int) - W]) rfl w HO1.out HB1.out HZ1.out ((k : Int) - 1) rfl (by omega) ?_)
          intro v2 x2 ho hb hs
          have HO2 : Hid (x2.ownsRow w.heap.size 2 1 v2 2 (ints ([(k : Int) - W, (k : Int) - 1]))) := ho
          have HB2 := hide hb
          have HZ2 : Hid (w.heap.size ≤ x2.heap.size) := hb.size
          clear ho hb hs
          go_wp2_with (refine growL x2 rfl _ _ rfl w.heap.size v2 2 ([(k : Int) - W, (k : Int) - 1]) rfl w HO2.out HB2.out HZ2.out ((k : Int) + 1) rfl (by omega) ?_)
          intro v3 x3 ho hb hs
          have HO3 : Hid (x3.ownsRow w.heap.size 2 1 v3 3 (ints ([(k : Int) - W, (k : Int) - 1, (k : Int) + 1]))) := ho
          have HB3 := hide hb
          have HZ3 : Hid (w.heap.size ≤ x3.heap.size) := hb.size
          clear ho hb hs
          go_wp2_with (refine growL x3 rfl _ _ rfl w.heap.size v3 3 ([(k : Int) - W, (k : Int) - 1, (k : Int) + 1]) rfl w HO3.out HB3.out HZ3.out ((k : Int) + W) rfl (by omega) ?_)
          intro v4 x4 ho hb hs
          have HO4 : Hid (x4.ownsRow w.heap.size 2 1 v4 4 (ints ([(k : Int) - W, (k : Int) - 1, (k : Int) + 1, (k : Int) + W]))) := ho
          have HB4 := hide hb
          have HZ4 : Hid (w.heap.size ≤ x4.heap.size) := hb.size
          clear ho hb hs
          go_wp2_with fail
          go_ret
          exact ⟨_, rfl, HO4.out, HB4.out⟩
        · rw [if_neg c3]
          go_enter Try.func21, Try.ntmps21
          go_upto_region 2 with fail
          rw [HWA.out]
          generalize (Value.slice (some ⟨w.heap.size, 0, none⟩) 0 0) = v0 at HO0 ⊢
          go_wp2_with (refine growL wa rfl _ _ rfl w.heap.size v0 0 ([]) rfl w HO0.out HB0.out HZ.out ((k : Int) - W) rfl (by omega) ?_)
          intro v1 x1 ho hb hs
          have HO1 : Hid (x1.ownsRow w.heap.size 2 1 v1 1 (ints ([(k : Int) - W]))) := ho
          have HB1 := hide hb
          have HZ1 : Hid (w.heap.size ≤ x1.heap.size) := hb.size
          clear ho hb hs
          go_wp2_with (refine growL x1 rfl _ _ rfl w.heap.size v1 1 ([(k : Int) - W]) rfl w HO1.out HB1.out HZ1.out ((k : Int) - 1) rfl (by omega) ?_)
          intro v2 x2 ho hb hs
          have HO2 : Hid (x2.ownsRow w.heap.size 2 1 v2 2 (ints ([(k : Int) - W, (k : Int) - 1]))) := ho
          have HB2 := hide hb
          have HZ2 : Hid (w.heap.size ≤ x2.heap.size) := hb.size
          clear ho hb hs
          go_wp2_with (refine growL x2 rfl _ _ rfl w.heap.size v2 2 ([(k : Int) - W, (k : Int) - 1]) rfl w HO2.out HB2.out HZ2.out ((k : Int) + 1) rfl (by omega) ?_)
          intro v3 x3 ho hb hs
          have HO3 : Hid (x3.ownsRow w.heap.size 2 1 v3 3 (ints ([(k : Int) - W, (k : Int) - 1, (k : Int) + 1]))) := ho
          have HB3 := hide hb
          have HZ3 : Hid (w.heap.size ≤ x3.heap.size) := hb.size
          clear ho hb hs
          go_wp2_with fail
          go_ret
          exact ⟨_, rfl, HO3.out, HB3.out⟩
      · rw [if_neg c2]
        by_cases c3 : Y < H - 1
        · rw [if_pos c3]
          go_enter Try.func21, Try.ntmps21
          go_upto_region 2 with fail
          rw [HWA.out]
          generalize (Value.slice (some ⟨w.heap.size, 0, none⟩) 0 0) = v0 at HO0 ⊢
          go_wp2_with (refine growL wa rfl _ _ rfl w.heap.size v0 0 ([]) rfl w HO0.out HB0.out HZ.out ((k : Int) - W) rfl (by omega) ?_)
          intro v1 x1 ho hb hs
          have HO1 : Hid (x1.ownsRow w.heap.size 2 1 v1 1 (ints ([(k : Int) - W]))) := ho
          have HB1 := hide hb
          have HZ1 : Hid (w.heap.size ≤ x1.heap.size) := hb.size
          clear ho hb hs
          go_wp2_with (refine growL x1 rfl _ _ rfl w.heap.size v1 1 ([(k : Int) - W]) rfl w HO1.out HB1.out HZ1.out ((k : Int) - 1) rfl (by omega) ?_)
          intro v2 x2 ho hb hs
          have HO2 : Hid (x2.ownsRow w.heap.size 2 1 v2 2 (ints ([(k : Int) - W, (k : Int) - 1]))) := ho
          have HB2 := hide hb
          have HZ2 : Hid (w.heap.size ≤ x2.heap.size) := hb.size
          clear ho hb hs
          go_wp2_with (refine growL x2 rfl _ _ rfl w.heap.size v2 2 ([(k : Int) - W, (k : Int) - 1]) rfl w HO2.out HB2.out HZ2.out ((k : Int) + W) rfl (by omega) ?_)
          intro v3 x3 ho hb hs
          have HO3 : Hid (x3.ownsRow w.heap.size 2 1 v3 3 (ints ([(k : Int) - W, (k : Int) - 1, (k : Int) + W]))) := ho
          have HB3 := hide hb
          have HZ3 : Hid (w.heap.size ≤ x3.heap.size) := hb.size
          clear ho hb hs
          go_wp2_with fail
          go_ret
          exact ⟨_, rfl, HO3.out, HB3.out⟩
        · rw [if_neg c3]
          go_enter Try.func21, Try.ntmps21
          go_upto_region 2 with fail
          rw [HWA.out]
          generalize (Value.slice (some ⟨w.heap.size, 0, none⟩) 0 0) = v0 at HO0 ⊢
          go_wp2_with (refine growL wa rfl _ _ rfl w.heap.size v0 0 ([]) rfl w HO0.out HB0.out HZ.out ((k : Int) - W) rfl (by omega) ?_)
          intro v1 x1 ho hb hs
          have HO1 : Hid (x1.ownsRow w.heap.size 2 1 v1 1 (ints ([(k : Int) - W]))) := ho
          have HB1 := hide hb
          have HZ1 : Hid (w.heap.size ≤ x1.heap.size) := hb.size
          clear ho hb hs
          go_wp2_with (refine growL x1 rfl _ _ rfl w.heap.size v1 1 ([(k : Int) - W]) rfl w HO1.out HB1.out HZ1.out ((k : Int) - 1) rfl (by omega) ?_)
          intro v2 x2 ho hb hs
          have HO2 : Hid (x2.ownsRow w.heap.size 2 1 v2 2 (ints ([(k : Int) - W, (k : Int) - 1]))) := ho
          have HB2 := hide hb
          have HZ2 : Hid (w.heap.size ≤ x2.heap.size) := hb.size
          clear ho hb hs
          go_wp2_with fail
          go_ret
          exact ⟨_, rfl, HO2.out, HB2.out⟩
    · rw [if_neg c1]
      by_cases c2 : X < W - 1
      · rw [if_pos c2]
        by_cases c3 : Y < H - 1
        · rw [if_pos c3]
          go_enter Try.func21, Try.ntmps21
          go_upto_region 2 with fail
          rw [HWA.out]
          generalize (Value.slice (some ⟨w.heap.size, 0, none⟩) 0 0) = v0 at HO0 ⊢
          go_wp2_with (refine growL wa rfl _ _ rfl w.heap.size v0 0 ([]) rfl w HO0.out HB0.out HZ.out ((k : Int) - W) rfl (by omega) ?_)
          intro v1 x1 ho hb hs
          have HO1 : Hid (x1.ownsRow w.heap.size 2 1 v1 1 (ints ([(k : Int) - W]))) := ho
          have HB1 := hide hb
          have HZ1 : Hid (w.heap.size ≤ x1.heap.size) := hb.size
          clear ho hb hs
          go_wp2_with (refine growL x1 rfl _ _ rfl w.heap.size v1 1 ([(k : Int) - W]) rfl w HO1.out HB1.out HZ1.out ((k : Int) + 1) rfl (by omega) ?_)
          intro v2 x2 ho hb hs
          have HO2 : Hid (x2.ownsRow w.heap.size 2 1 v2 2 (ints ([(k : Int) - W, (k : Int) + 1]))) := ho
          have HB2 := hide hb
          have HZ2 : Hid (w.heap.size ≤ x2.heap.size) := hb.size
          clear ho hb hs
          go_wp2_with (refine growL x2 rfl _ _ rfl w.heap.size v2 2 ([(k : Int) - W, (k : Int) + 1]) rfl w HO2.out HB2.out HZ2.out ((k : Int) + W) rfl (by omega) ?_)
          intro v3 x3 ho hb hs
          have HO3 : Hid (x3.ownsRow w.heap.size 2 1 v3 3 (ints ([(k : Int) - W, (k : Int) + 1, (k : Int) + W]))) := ho
          have HB3 := hide hb
          have HZ3 : Hid (w.heap.size ≤ x3.heap.size) := hb.size
          clear ho hb hs
          go_wp2_with fail
          go_ret
          exact ⟨_, rfl, HO3.out, HB3.out⟩
        · rw [if_neg c3]
          go_enter Try.func21, Try.ntmps21
          go_upto_region 2 with fail
          rw [HWA.out]
          generalize (Value.slice (some ⟨w.heap.size, 0, none⟩) 0 0) = v0 at HO0 ⊢
          go_wp2_with (refine growL wa rfl _ _ rfl w.heap.size v0 0 ([]) rfl w HO0.out HB0.out HZ.out ((k : Int) - W) rfl (by omega) ?_)
          intro v1 x1 ho hb hs
          have HO1 : Hid (x1.ownsRow w.heap.size 2 1 v1 1 (ints ([(k : Int) - W]))) := ho
          have HB1 := hide hb
          have HZ1 : Hid (w.heap.size ≤ x1.heap.size) := hb.size
          clear ho hb hs
          go_wp2_with (refine growL x1 rfl _ _ rfl w.heap.size v1 1 ([(k : Int) - W]) rfl w HO1.out HB1.out HZ1.out ((k : Int) + 1) rfl (by omega) ?_)
          intro v2 x2 ho hb hs
          have HO2 : Hid (x2.ownsRow w.heap.size 2 1 v2 2 (ints ([(k : Int) - W, (k : Int) + 1]))) := ho
          have HB2 := hide hb
          have HZ2 : Hid (w.heap.size ≤ x2.heap.size) := hb.size
          clear ho hb hs
          go_wp2_with fail
          go_ret
          exact ⟨_, rfl, HO2.out, HB2.out⟩
      · rw [if_neg c2]
        by_cases c3 : Y < H - 1
        · rw [if_pos c3]
          go_enter Try.func21, Try.ntmps21
          go_upto_region 2 with fail
          rw [HWA.out]
          generalize (Value.slice (some ⟨w.heap.size, 0, none⟩) 0 0) = v0 at HO0 ⊢
          go_wp2_with (refine growL wa rfl _ _ rfl w.heap.size v0 0 ([]) rfl w HO0.out HB0.out HZ.out ((k : Int) - W) rfl (by omega) ?_)
          intro v1 x1 ho hb hs
          have HO1 : Hid (x1.ownsRow w.heap.size 2 1 v1 1 (ints ([(k : Int) - W]))) := ho
          have HB1 := hide hb
          have HZ1 : Hid (w.heap.size ≤ x1.heap.size) := hb.size
          clear ho hb hs
          go_wp2_with (refine growL x1 rfl _ _ rfl w.heap.size v1 1 ([(k : Int) - W]) rfl w HO1.out HB1.out HZ1.out ((k : Int) + W) rfl (by omega) ?_)
          intro v2 x2 ho hb hs
          have HO2 : Hid (x2.ownsRow w.heap.size 2 1 v2 2 (ints ([(k : Int) - W, (k : Int) + W]))) := ho
          have HB2 := hide hb
          have HZ2 : Hid (w.heap.size ≤ x2.heap.size) := hb.size
          clear ho hb hs
          go_wp2_with fail
          go_ret
          exact ⟨_, rfl, HO2.out, HB2.out⟩
        · rw [if_neg c3]
          go_enter Try.func21, Try.ntmps21
          go_upto_region 2 with fail
          rw [HWA.out]
          generalize (Value.slice (some ⟨w.heap.size, 0, none⟩) 0 0) = v0 at HO0 ⊢
          go_wp2_with (refine growL wa rfl _ _ rfl w.heap.size v0 0 ([]) rfl w HO0.out HB0.out HZ.out ((k : Int) - W) rfl (by omega) ?_)
          intro v1 x1 ho hb hs
          have HO1 : Hid (x1.ownsRow w.heap.size 2 1 v1 1 (ints ([(k : Int) - W]))) := ho
          have HB1 := hide hb
          have HZ1 : Hid (w.heap.size ≤ x1.heap.size) := hb.size
          clear ho hb hs
          go_wp2_with fail
          go_ret
          exact ⟨_, rfl, HO1.out, HB1.out⟩
  · rw [if_neg c0]
    by_cases c1 : 0 < X
    · rw [if_pos c1]
      by_cases c2 : X < W - 1
      · rw [if_pos c2]
        by_cases c3 : Y < H - 1
        · rw [if_pos c3]
          go_enter Try.func21, Try.ntmps21
          go_upto_region 2 with fail
          rw [HWA.out]
          generalize (Value.slice (some ⟨w.heap.size, 0, none⟩) 0 0) = v0 at HO0 ⊢
          go_wp2_with (refine growL wa rfl _ _ rfl w.heap.size v0 0 ([]) rfl w HO0.out HB0.out HZ.out ((k : Int) - 1) rfl (by omega) ?_)
          intro v1 x1 ho hb hs
          have HO1 : Hid (x1.ownsRow w.heap.size 2 1 v1 1 (ints ([(k : Int) - 1]))) := ho
          have HB1 := hide hb
          have HZ1 : Hid (w.heap.size ≤ x1.heap.size) := hb.size
          clear ho hb hs
          go_wp2_with (refine growL x1 rfl _ _ rfl w.heap.size v1 1 ([(k : Int) - 1]) rfl w HO1.out HB1.out HZ1.out ((k : Int) + 1) rfl (by omega) ?_)
          intro v2 x2 ho hb hs
          have HO2 : Hid (x2.ownsRow w.heap.size 2 1 v2 2 (ints ([(k : Int) - 1, (k : Int) + 1]))) := ho
          have HB2 := hide hb
          have HZ2 : Hid (w.heap.size ≤ x2.heap.size) := hb.size
          clear ho hb hs
          go_wp2_with (refine growL x2 rfl _ _ rfl w.heap.size v2 2 ([(k : Int) - 1, (k : Int) + 1]) rfl w HO2.out HB2.out HZ2.out ((k : Int) + W) rfl (by omega) ?_)
          intro v3 x3 ho hb hs
          have HO3 : Hid (x3.ownsRow w.heap.size 2 1 v3 3 (ints ([(k : Int) - 1, (k : Int) + 1, (k : Int) + W]))) := ho
          have HB3 := hide hb
          have HZ3 : Hid (w.heap.size ≤ x3.heap.size) := hb.size
          clear ho hb hs
          go_wp2_with fail
          go_ret
          exact ⟨_, rfl, HO3.out, HB3.out⟩
        · rw [if_neg c3]
          go_enter Try.func21, Try.ntmps21
          go_upto_region 2 with fail
          rw [HWA.out]
          generalize (Value.slice (some ⟨w.heap.size, 0, none⟩) 0 0) = v0 at HO0 ⊢
          go_wp2_with (refine growL wa rfl _ _ rfl w.heap.size v0 0 ([]) rfl w HO0.out HB0.out HZ.out ((k : Int) - 1) rfl (by omega) ?_)
          intro v1 x1 ho hb hs
          have HO1 : Hid (x1.ownsRow w.heap.size 2 1 v1 1 (ints ([(k : Int) - 1]))) := ho
          have HB1 := hide hb
          have HZ1 : Hid (w.heap.size ≤ x1.heap.size) := hb.size
          clear ho hb hs
          go_wp2_with (refine growL x1 rfl _ _ rfl w.heap.size v1 1 ([(k : Int) - 1]) rfl w HO1.out HB1.out HZ1.out ((k : Int) + 1) rfl (by omega) ?_)
          intro v2 x2 ho hb hs
          have HO2 : Hid (x2.ownsRow w.heap.size 2 1 v2 2 (ints ([(k : Int) - 1, (k : Int) + 1]))) := ho
          have HB2 := hide hb
          have HZ2 : Hid (w.heap.size ≤ x2.heap.size) := hb.size
          clear ho hb hs
          go_wp2_with fail
          go_ret
          exact ⟨_, rfl, HO2.out, HB2.out⟩
      · rw [if_neg c2]
        by_cases c3 : Y < H - 1
        · rw [if_pos c3]
          go_enter Try.func21, Try.ntmps21
          go_upto_region 2 with fail
          rw [HWA.out]
          generalize (Value.slice (some ⟨w.heap.size, 0, none⟩) 0 0) = v0 at HO0 ⊢
          go_wp2_with (refine growL wa rfl _ _ rfl w.heap.size v0 0 ([]) rfl w HO0.out HB0.out HZ.out ((k : Int) - 1) rfl (by omega) ?_)
          intro v1 x1 ho hb hs
          have HO1 : Hid (x1.ownsRow w.heap.size 2 1 v1 1 (ints ([(k : Int) - 1]))) := ho
          have HB1 := hide hb
          have HZ1 : Hid (w.heap.size ≤ x1.heap.size) := hb.size
          clear ho hb hs
          go_wp2_with (refine growL x1 rfl _ _ rfl w.heap.size v1 1 ([(k : Int) - 1]) rfl w HO1.out HB1.out HZ1.out ((k : Int) + W) rfl (by omega) ?_)
          intro v2 x2 ho hb hs
          have HO2 : Hid (x2.ownsRow w.heap.size 2 1 v2 2 (ints ([(k : Int) - 1, (k : Int) + W]))) := ho
          have HB2 := hide hb
          have HZ2 : Hid (w.heap.size ≤ x2.heap.size) := hb.size
          clear ho hb hs
          go_wp2_with fail
          go_ret
          exact ⟨_, rfl, HO2.out, HB2.out⟩
        · rw [if_neg c3]
          go_enter Try.func21, Try.ntmps21
          go_upto_region 2 with fail
          rw [HWA.out]
          generalize (Value.slice (some ⟨w.heap.size, 0, none⟩) 0 0) = v0 at HO0 ⊢
          go_wp2_with (refine growL wa rfl _ _ rfl w.heap.size v0 0 ([]) rfl w HO0.out HB0.out HZ.out ((k : Int) - 1) rfl (by omega) ?_)
          intro v1 x1 ho hb hs
          have HO1 : Hid (x1.ownsRow w.heap.size 2 1 v1 1 (ints ([(k : Int) - 1]))) := ho
          have HB1 := hide hb
          have HZ1 : Hid (w.heap.size ≤ x1.heap.size) := hb.size
          clear ho hb hs
          go_wp2_with fail
          go_ret
          exact ⟨_, rfl, HO1.out, HB1.out⟩
    · rw [if_neg c1]
      by_cases c2 : X < W - 1
      · rw [if_pos c2]
        by_cases c3 : Y < H - 1
        · rw [if_pos c3]
          go_enter Try.func21, Try.ntmps21
          go_upto_region 2 with fail
          rw [HWA.out]
          generalize (Value.slice (some ⟨w.heap.size, 0, none⟩) 0 0) = v0 at HO0 ⊢
          go_wp2_with (refine growL wa rfl _ _ rfl w.heap.size v0 0 ([]) rfl w HO0.out HB0.out HZ.out ((k : Int) + 1) rfl (by omega) ?_)
          intro v1 x1 ho hb hs
          have HO1 : Hid (x1.ownsRow w.heap.size 2 1 v1 1 (ints ([(k : Int) + 1]))) := ho
          have HB1 := hide hb
          have HZ1 : Hid (w.heap.size ≤ x1.heap.size) := hb.size
          clear ho hb hs
          go_wp2_with (refine growL x1 rfl _ _ rfl w.heap.size v1 1 ([(k : Int) + 1]) rfl w HO1.out HB1.out HZ1.out ((k : Int) + W) rfl (by omega) ?_)
          intro v2 x2 ho hb hs
          have HO2 : Hid (x2.ownsRow w.heap.size 2 1 v2 2 (ints ([(k : Int) + 1, (k : Int) + W]))) := ho
          have HB2 := hide hb
          have HZ2 : Hid (w.heap.size ≤ x2.heap.size) := hb.size
          clear ho hb hs
          go_wp2_with fail
          go_ret
          exact ⟨_, rfl, HO2.out, HB2.out⟩
        · rw [if_neg c3]
          go_enter Try.func21, Try.ntmps21
          go_upto_region 2 with fail
          rw [HWA.out]
          generalize (Value.slice (some ⟨w.heap.size, 0, none⟩) 0 0) = v0 at HO0 ⊢
          go_wp2_with (refine growL wa rfl _ _ rfl w.heap.size v0 0 ([]) rfl w HO0.out HB0.out HZ.out ((k : Int) + 1) rfl (by omega) ?_)
          intro v1 x1 ho hb hs
          have HO1 : Hid (x1.ownsRow w.heap.size 2 1 v1 1 (ints ([(k : Int) + 1]))) := ho
          have HB1 := hide hb
          have HZ1 : Hid (w.heap.size ≤ x1.heap.size) := hb.size
          clear ho hb hs
          go_wp2_with fail
          go_ret
          exact ⟨_, rfl, HO1.out, HB1.out⟩
      · rw [if_neg c2]
        by_cases c3 : Y < H - 1
        · rw [if_pos c3]
          go_enter Try.func21, Try.ntmps21
          go_upto_region 2 with fail
          rw [HWA.out]
          generalize (Value.slice (some ⟨w.heap.size, 0, none⟩) 0 0) = v0 at HO0 ⊢
          go_wp2_with (refine growL wa rfl _ _ rfl w.heap.size v0 0 ([]) rfl w HO0.out HB0.out HZ.out ((k : Int) + W) rfl (by omega) ?_)
          intro v1 x1 ho hb hs
          have HO1 : Hid (x1.ownsRow w.heap.size 2 1 v1 1 (ints ([(k : Int) + W]))) := ho
          have HB1 := hide hb
          have HZ1 : Hid (w.heap.size ≤ x1.heap.size) := hb.size
          clear ho hb hs
          go_wp2_with fail
          go_ret
          exact ⟨_, rfl, HO1.out, HB1.out⟩
        · rw [if_neg c3]
          go_enter Try.func21, Try.ntmps21
          go_upto_region 2 with fail
          rw [HWA.out]
          generalize (Value.slice (some ⟨w.heap.size, 0, none⟩) 0 0) = v0 at HO0 ⊢
          go_wp2_with fail
          go_ret
          exact ⟨_, rfl, HO0.out, HB0.out⟩

end Go.Proofs.Ytekoioggamhlaaa

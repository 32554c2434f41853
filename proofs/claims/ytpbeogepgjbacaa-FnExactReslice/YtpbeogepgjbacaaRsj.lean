/- Reslice, the program: all cases. -/
import Derived.Test.YtpbeogepgjbacaaRsi
namespace Go.Proofs.Ytpbeogepgjbacaa
open Go.RowKit Go.Lib

/-- is there a new volume -/
def rsB (X Y Z : Int) (n : Nat) (t : Nat → Int) (D : Int) (n0 : Nat) (M : Nat → Int) (n1 : Nat) (T : Nat → Int) (x y z : Int) : Bool := frmB D n0 M n1 T && (volB X Y Z n t && (inB x 1 32 && (inB y 1 32 && inB z 1 32)))
def rsW (b : Bool) (x : Int) : Int := if b then x else 0
def rsC (b : Bool) (x y z : Int) : Nat := if b then z.toNat * y.toNat * x.toNat else 0
theorem volB_parts {X Y Z : Int} {n : Nat} {f : Nat → Int} (h : volB X Y Z n f = true) : (1 ≤ X ∧ X ≤ 32) ∧ (1 ≤ Y ∧ Y ≤ 32) ∧ (1 ≤ Z ∧ Z ≤ 32) ∧ (n : Int) = X * Y * Z ∧ n ≤ 32768 := by
  unfold volB inB at h
  simp only [Bool.and_eq_true, decide_eq_true_eq] at h
  obtain ⟨hX, hY, hZ, hn, _⟩ := h
  refine ⟨hX, hY, hZ, hn, ?_⟩
  have h1 : X * Y ≤ 32 * 32 := Int.mul_le_mul hX.2 hY.2 (by omega) (by omega)
  have h0 : 0 ≤ X * Y := Int.mul_nonneg (by omega) (by omega)
  have h2 : X * Y * Z ≤ 1024 * 32 := Int.mul_le_mul h1 hZ.2 (by omega) (by omega)
  omega
theorem rsB_parts {X Y Z : Int} {n : Nat} {t : Nat → Int} {D : Int} {n0 : Nat} {M : Nat → Int} {n1 : Nat} {T : Nat → Int} {x y z : Int} (h : rsB X Y Z n t D n0 M n1 T x y z = true) : frmB D n0 M n1 T = true ∧ volB X Y Z n t = true ∧ (1 ≤ x ∧ x ≤ 32) ∧ (1 ≤ y ∧ y ≤ 32) ∧ (1 ≤ z ∧ z ≤ 32) := by
  unfold rsB at h
  simp only [Bool.and_eq_true] at h
  obtain ⟨h1, h2, h3, h4, h5⟩ := h
  unfold inB at h3 h4 h5
  simp only [Bool.and_eq_true, decide_eq_true_eq] at h3 h4 h5
  exact ⟨h1, h2, h3, h4, h5⟩
theorem rsC_le (X Y Z : Int) (n : Nat) (t : Nat → Int) (D : Int) (n0 : Nat) (M : Nat → Int) (n1 : Nat) (T : Nat → Int) (x y z : Int) : rsC (rsB X Y Z n t D n0 M n1 T x y z) x y z ≤ 32768 := by
  unfold rsC
  by_cases hb : rsB X Y Z n t D n0 M n1 T x y z = true
  · rw [if_pos hb]
    obtain ⟨-, -, hx, hy, hz⟩ := rsB_parts hb
    exact Nat.le_trans (Nat.mul_le_mul (Nat.mul_le_mul (show z.toNat ≤ 32 by omega) (show y.toNat ≤ 32 by omega)) (show x.toNat ≤ 32 by omega)) (by decide)
  · rw [if_neg hb]; omega

set_option maxRecDepth 100000 in
set_option maxHeartbeats 8000000 in
theorem ireslice_f (X Y Z : Int) (a : Option Addr) (n cap : Nat) (t : Nat → Int) (_hl : n ≤ 1048576) (D : Int) (a0 : Option Addr) (n0 c0 : Nat) (M : Nat → Int) (_hl0 : n0 ≤ 1048576) (a1 : Option Addr) (n1 c1 : Nat) (T : Nat → Int) (_hl1 : n1 ≤ 1048576) (x y z : Int) (hf : frI D n0 M n1 T = false) (w : World) (h : Px a n t w) (h0 : Px a0 n0 M w) (h1 : Px a1 n1 T w) (s : Nat → Int) :
    Calls Try.prog 10 #[vVolume X Y Z a n cap, vFrame D a0 n0 c0 a1 n1 c1, .int .i64 x, .int .i64 y, .int .i64 z] w (VoR 0 0 0 0 s w) := by
  have HS0 := hide ((((St.start w).box [.int .i64 X, .int .i64 Y, .int .i64 Z, .slice a n cap] 29).box' [.slice a0 n0 c0, .slice a1 n1 c1, .int .i64 D] 32 (b := w.heap.size + 1) (by simp)).box' [.int .i64 0, .int .i64 0, .int .i64 0, .slice none 0 0] 29 (b := w.heap.size + 2) (by simp))
  have c := mappingOf_any D a0 n0 c0 M a1 n1 c1 T _ (h0.below HS0.out.below) (h1.below HS0.out.below)
  unfold MpR at c
  rw [hf] at c
  have HP := hide h
  generalize sel (len93 n0 n1) M = M' at *
  generalize sel (len93 n0 n1) T = T' at *
  generalize selD (len93 n0 n1) D = D' at *
  clear h h0 h1 hf _hl _hl0 _hl1
  obtain ⟨i0, i1, i2⟩ := HS0.out.im3 1 rfl
  unfold mapV at c
  go_enter Try.func10, Try.ntmps10
  go_wp2_with fail
  refine c.mono ?_
  rintro e w1 ⟨rfl, hb⟩
  have HS1 := hide ((HS0.out.next hb).box (c13 M' T' D') 60)
  clear c hb HS0 i0 i1 i2
  obtain ⟨i0, i1, i2, i3⟩ := HS1.out.im4 3 rfl
  go_upto_region 2 with fail
  generalize hw2 : w1.alloc (.cells (c13 M' T' D').toArray 60) = w2 at HS1 i0 i1 i2 i3
  have hw2' : w1.alloc (.cells #[.int .i64 (M' 0), .int .i64 (M' 1), .int .i64 (M' 2), .int .i64 (M' 3), .int .i64 (M' 4), .int .i64 (M' 5), .int .i64 (M' 6), .int .i64 (M' 7), .int .i64 (M' 8), .int .i64 (T' 0), .int .i64 (T' 1), .int .i64 (T' 2), .int .i64 D'] 60) = w2 := hw2
  try rw [hw2']
  clear hw2 hw2'
  generalize w1.heap.size = Q at *
  clear i0 i1 i2 i3
  obtain ⟨o0, o1, o2, o3⟩ := HS1.out.im4 1 rfl
  have f0 := HS1.out.free 1 rfl 0 rfl
  have f1 := HS1.out.free 1 rfl 1 rfl
  have f2 := HS1.out.free 1 rfl 2 rfl
  have f3 := HS1.out.free 1 rfl 3 rfl
  have HZ := hide ((((HS1.out.fill (L1 := [_]) 0 (.int .i64 0)).fill (L1 := [_]) 1 (.int .i64 0)).fill (L1 := [_]) 2 (.int .i64 0)).fill (L1 := [_]) 3 (.slice none 0 0))
  obtain ⟨wy, hy⟩ : ∃ wy, ((((w2.setCell ⟨w.heap.size + 2, 0, none⟩ (.int .i64 0)).setCell ⟨w.heap.size + 2, 1, none⟩ (.int .i64 0)).setCell ⟨w.heap.size + 2, 2, none⟩ (.int .i64 0)).setCell ⟨w.heap.size + 2, 3, none⟩ (.slice none 0 0)) = wy := ⟨_, rfl⟩
  rw [hy] at HZ
  have y0 := HZ.out.cell 1 rfl 0 rfl
  have y1 := HZ.out.cell 1 rfl 1 rfl
  have y2 := HZ.out.cell 1 rfl 2 rfl
  have y3 := HZ.out.cell 1 rfl 3 rfl
  have HB3 := hide HZ.out.below
  clear HZ HS1
  go_wp2_with fail
  exact bodyPost_ret (v := vVolume 0 0 0 none 0 0) (by simp [results, Try.results10, go_sem, y0, y1, y2, y3]) rfl ⟨none, 0, 0, rfl, .inl rfl, .inl rfl, HB3.out⟩

set_option maxRecDepth 100000 in
set_option maxHeartbeats 8000000 in
theorem ireslice_v (X Y Z : Int) (a : Option Addr) (n cap : Nat) (t : Nat → Int) (hl : n ≤ 1048576) (D : Int) (a0 : Option Addr) (n0 c0 : Nat) (M : Nat → Int) (_hl0 : n0 ≤ 1048576) (a1 : Option Addr) (n1 c1 : Nat) (T : Nat → Int) (_hl1 : n1 ≤ 1048576) (x y z : Int) (hf : frI D n0 M n1 T = true) (hv : volB X Y Z n t = false) (w : World) (h : Px a n t w) (h0 : Px a0 n0 M w) (h1 : Px a1 n1 T w) (s : Nat → Int) :
    Calls Try.prog 10 #[vVolume X Y Z a n cap, vFrame D a0 n0 c0 a1 n1 c1, .int .i64 x, .int .i64 y, .int .i64 z] w (VoR 0 0 0 0 s w) := by
  have HS0 := hide ((((St.start w).box [.int .i64 X, .int .i64 Y, .int .i64 Z, .slice a n cap] 29).box' [.slice a0 n0 c0, .slice a1 n1 c1, .int .i64 D] 32 (b := w.heap.size + 1) (by simp)).box' [.int .i64 0, .int .i64 0, .int .i64 0, .slice none 0 0] 29 (b := w.heap.size + 2) (by simp))
  have c := mappingOf_any D a0 n0 c0 M a1 n1 c1 T _ (h0.below HS0.out.below) (h1.below HS0.out.below)
  unfold MpR at c
  rw [hf] at c
  have cV := fun w' h => implVolumeOk_any X Y Z a n cap t hl w' h
  rw [hv] at cV
  have HP := hide h
  generalize sel (len93 n0 n1) M = M' at *
  generalize sel (len93 n0 n1) T = T' at *
  generalize selD (len93 n0 n1) D = D' at *
  clear h h0 h1 hf hl _hl0 _hl1 hv
  obtain ⟨i0, i1, i2⟩ := HS0.out.im3 1 rfl
  unfold mapV at c
  go_enter Try.func10, Try.ntmps10
  go_wp2_with fail
  refine c.mono ?_
  rintro e w1 ⟨rfl, hb⟩
  have HS1 := hide ((HS0.out.next hb).box (c13 M' T' D') 60)
  clear c hb HS0 i0 i1 i2
  obtain ⟨i0, i1, i2, i3⟩ := HS1.out.im4 3 rfl
  go_upto_region 2 with fail
  generalize hw2 : w1.alloc (.cells (c13 M' T' D').toArray 60) = w2 at HS1 i0 i1 i2 i3
  have hw2' : w1.alloc (.cells #[.int .i64 (M' 0), .int .i64 (M' 1), .int .i64 (M' 2), .int .i64 (M' 3), .int .i64 (M' 4), .int .i64 (M' 5), .int .i64 (M' 6), .int .i64 (M' 7), .int .i64 (M' 8), .int .i64 (T' 0), .int .i64 (T' 1), .int .i64 (T' 2), .int .i64 D'] 60) = w2 := hw2
  try rw [hw2']
  clear hw2 hw2'
  generalize w1.heap.size = Q at *
  go_wp2_with fail
  refine (cV _ (HP.out.below HS1.out.below)).mono ?_
  rintro e w3 ⟨rfl, hb⟩
  have HS3 := hide (HS1.out.next hb)
  clear cV hb HS1 i0 i1 i2 i3
  obtain ⟨o0, o1, o2, o3⟩ := HS3.out.im4 1 rfl
  have f0 := HS3.out.free 1 rfl 0 rfl
  have f1 := HS3.out.free 1 rfl 1 rfl
  have f2 := HS3.out.free 1 rfl 2 rfl
  have f3 := HS3.out.free 1 rfl 3 rfl
  have HZ := hide ((((HS3.out.fill (L1 := [_]) 0 (.int .i64 0)).fill (L1 := [_]) 1 (.int .i64 0)).fill (L1 := [_]) 2 (.int .i64 0)).fill (L1 := [_]) 3 (.slice none 0 0))
  obtain ⟨wy, hy⟩ : ∃ wy, ((((w3.setCell ⟨w.heap.size + 2, 0, none⟩ (.int .i64 0)).setCell ⟨w.heap.size + 2, 1, none⟩ (.int .i64 0)).setCell ⟨w.heap.size + 2, 2, none⟩ (.int .i64 0)).setCell ⟨w.heap.size + 2, 3, none⟩ (.slice none 0 0)) = wy := ⟨_, rfl⟩
  rw [hy] at HZ
  have y0 := HZ.out.cell 1 rfl 0 rfl
  have y1 := HZ.out.cell 1 rfl 1 rfl
  have y2 := HZ.out.cell 1 rfl 2 rfl
  have y3 := HZ.out.cell 1 rfl 3 rfl
  have HB3 := hide HZ.out.below
  clear HZ HS3
  go_wp2_with fail
  exact bodyPost_ret (v := vVolume 0 0 0 none 0 0) (by simp [results, Try.results10, go_sem, y0, y1, y2, y3]) rfl ⟨none, 0, 0, rfl, .inl rfl, .inl rfl, HB3.out⟩

set_option maxRecDepth 100000 in
set_option maxHeartbeats 8000000 in
theorem ireslice_e (X Y Z : Int) (a : Option Addr) (n cap : Nat) (t : Nat → Int) (hl : n ≤ 1048576) (D : Int) (a0 : Option Addr) (n0 c0 : Nat) (M : Nat → Int) (_hl0 : n0 ≤ 1048576) (a1 : Option Addr) (n1 c1 : Nat) (T : Nat → Int) (_hl1 : n1 ≤ 1048576) (x y z : Int) (hf : frI D n0 M n1 T = true) (hv : volB X Y Z n t = true) (he : edgB x y z = false) (w : World) (h : Px a n t w) (h0 : Px a0 n0 M w) (h1 : Px a1 n1 T w) (s : Nat → Int) :
    Calls Try.prog 10 #[vVolume X Y Z a n cap, vFrame D a0 n0 c0 a1 n1 c1, .int .i64 x, .int .i64 y, .int .i64 z] w (VoR 0 0 0 0 s w) := by
  have HS0 := hide ((((St.start w).box [.int .i64 X, .int .i64 Y, .int .i64 Z, .slice a n cap] 29).box' [.slice a0 n0 c0, .slice a1 n1 c1, .int .i64 D] 32 (b := w.heap.size + 1) (by simp)).box' [.int .i64 0, .int .i64 0, .int .i64 0, .slice none 0 0] 29 (b := w.heap.size + 2) (by simp))
  have c := mappingOf_any D a0 n0 c0 M a1 n1 c1 T _ (h0.below HS0.out.below) (h1.below HS0.out.below)
  unfold MpR at c
  rw [hf] at c
  have cV := fun w' h => implVolumeOk_any X Y Z a n cap t hl w' h
  rw [hv] at cV
  have cE := fun w' => areEdges_any x y z w'
  rw [he] at cE
  have HP := hide h
  generalize sel (len93 n0 n1) M = M' at *
  generalize sel (len93 n0 n1) T = T' at *
  generalize selD (len93 n0 n1) D = D' at *
  clear h h0 h1 hf hl _hl0 _hl1 hv he
  obtain ⟨i0, i1, i2⟩ := HS0.out.im3 1 rfl
  unfold mapV at c
  go_enter Try.func10, Try.ntmps10
  go_wp2_with fail
  refine c.mono ?_
  rintro e w1 ⟨rfl, hb⟩
  have HS1 := hide ((HS0.out.next hb).box (c13 M' T' D') 60)
  clear c hb HS0 i0 i1 i2
  obtain ⟨i0, i1, i2, i3⟩ := HS1.out.im4 3 rfl
  go_upto_region 2 with fail
  generalize hw2 : w1.alloc (.cells (c13 M' T' D').toArray 60) = w2 at HS1 i0 i1 i2 i3
  have hw2' : w1.alloc (.cells #[.int .i64 (M' 0), .int .i64 (M' 1), .int .i64 (M' 2), .int .i64 (M' 3), .int .i64 (M' 4), .int .i64 (M' 5), .int .i64 (M' 6), .int .i64 (M' 7), .int .i64 (M' 8), .int .i64 (T' 0), .int .i64 (T' 1), .int .i64 (T' 2), .int .i64 D'] 60) = w2 := hw2
  try rw [hw2']
  clear hw2 hw2'
  generalize w1.heap.size = Q at *
  go_wp2_with fail
  refine (cV _ (HP.out.below HS1.out.below)).mono ?_
  rintro e w3 ⟨rfl, hb⟩
  have HS3 := hide (HS1.out.next hb)
  clear cV hb HS1 i0 i1 i2 i3
  go_wp2_with fail
  refine (cE _).mono ?_
  rintro e w4 ⟨rfl, rfl⟩
  clear cE
  obtain ⟨o0, o1, o2, o3⟩ := HS3.out.im4 1 rfl
  have f0 := HS3.out.free 1 rfl 0 rfl
  have f1 := HS3.out.free 1 rfl 1 rfl
  have f2 := HS3.out.free 1 rfl 2 rfl
  have f3 := HS3.out.free 1 rfl 3 rfl
  have HZ := hide ((((HS3.out.fill (L1 := [_]) 0 (.int .i64 0)).fill (L1 := [_]) 1 (.int .i64 0)).fill (L1 := [_]) 2 (.int .i64 0)).fill (L1 := [_]) 3 (.slice none 0 0))
  obtain ⟨wy, hy⟩ : ∃ wy, ((((w4.setCell ⟨w.heap.size + 2, 0, none⟩ (.int .i64 0)).setCell ⟨w.heap.size + 2, 1, none⟩ (.int .i64 0)).setCell ⟨w.heap.size + 2, 2, none⟩ (.int .i64 0)).setCell ⟨w.heap.size + 2, 3, none⟩ (.slice none 0 0)) = wy := ⟨_, rfl⟩
  rw [hy] at HZ
  have y0 := HZ.out.cell 1 rfl 0 rfl
  have y1 := HZ.out.cell 1 rfl 1 rfl
  have y2 := HZ.out.cell 1 rfl 2 rfl
  have y3 := HZ.out.cell 1 rfl 3 rfl
  have HB3 := hide HZ.out.below
  clear HZ HS3
  go_wp2_with fail
  exact bodyPost_ret (v := vVolume 0 0 0 none 0 0) (by simp [results, Try.results10, go_sem, y0, y1, y2, y3]) rfl ⟨none, 0, 0, rfl, .inl rfl, .inl rfl, HB3.out⟩

theorem implReslice_any (X Y Z : Int) (a : Option Addr) (n cap : Nat) (t : Nat → Int) (hl : n ≤ 1048576) (D : Int) (a0 : Option Addr) (n0 c0 : Nat) (M : Nat → Int) (hl0 : n0 ≤ 1048576) (a1 : Option Addr) (n1 c1 : Nat) (T : Nat → Int) (hl1 : n1 ≤ 1048576) (x y z : Int) (w : World) (h : Px a n t w) (h0 : Px a0 n0 M w) (h1 : Px a1 n1 T w) :
    Calls Try.prog 10 #[vVolume X Y Z a n cap, vFrame D a0 n0 c0 a1 n1 c1, .int .i64 x, .int .i64 y, .int .i64 z] w (VoR (rsW (rsB X Y Z n t D n0 M n1 T x y z) x) (rsW (rsB X Y Z n t D n0 M n1 T x y z) y) (rsW (rsB X Y Z n t D n0 M n1 T x y z) z) (rsC (rsB X Y Z n t D n0 M n1 T x y z) x y z) (rsF t X Y Z M T D x.toNat y.toNat) w) := by
  cases hb : rsB X Y Z n t D n0 M n1 T x y z
  · show Calls Try.prog 10 _ w (VoR 0 0 0 0 _ w)
    cases hf : frI D n0 M n1 T
    · exact ireslice_f X Y Z a n cap t hl D a0 n0 c0 M hl0 a1 n1 c1 T hl1 x y z hf w h h0 h1 _
    cases hv : volB X Y Z n t
    · exact ireslice_v X Y Z a n cap t hl D a0 n0 c0 M hl0 a1 n1 c1 T hl1 x y z hf hv w h h0 h1 _
    exact ireslice_e X Y Z a n cap t hl D a0 n0 c0 M hl0 a1 n1 c1 T hl1 x y z hf hv (by
      unfold rsB at hb
      rw [← frI_eq, hf, hv] at hb
      exact hb) w h h0 h1 _
  · show Calls Try.prog 10 _ w (VoR x y z (z.toNat * y.toNat * x.toNat) _ w)
    obtain ⟨hf, hv, hx, hy, hz⟩ := rsB_parts hb
    obtain ⟨e0, e1, bD, bM, bT, -, -⟩ := frmB_parts hf
    subst e0 e1
    obtain ⟨hX, hY, hZ, hn, -⟩ := volB_parts hv
    obtain ⟨x, rfl⟩ : ∃ m : Nat, x = (m : Int) := ⟨x.toNat, by omega⟩
    obtain ⟨y, rfl⟩ : ∃ m : Nat, y = (m : Int) := ⟨y.toNat, by omega⟩
    obtain ⟨z, rfl⟩ : ∃ m : Nat, z = (m : Int) := ⟨z.toNat, by omega⟩
    simp only [Int.toNat_natCast]
    exact reslice_go X Y Z a n cap t hX hY hZ hn hv hl D a0 c0 M a1 c1 T ((frI_eq D 9 M 3 T).trans hf) bD bM bT x y z (by omega) (by omega) (by omega) w h h0 h1

end Go.Proofs.Ytpbeogepgjbacaa

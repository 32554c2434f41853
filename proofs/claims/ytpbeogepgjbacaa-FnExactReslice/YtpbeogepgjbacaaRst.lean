/- Reslice, the specification: all cases. -/
import Derived.Test.YtpbeogepgjbacaaRsj
import Derived.Test.YtpbeogepgjbacaaRss
namespace Go.Proofs.Ytpbeogepgjbacaa
open Go.RowKit Go.Lib

set_option maxRecDepth 100000 in
set_option maxHeartbeats 8000000 in
theorem sreslice_v (X Y Z : Int) (a : Option Addr) (n cap : Nat) (t : Nat → Int) (hl : n ≤ 1048576) (D : Int) (a0 : Option Addr) (n0 c0 : Nat) (M : Nat → Int) (_hl0 : n0 ≤ 1048576) (a1 : Option Addr) (n1 c1 : Nat) (T : Nat → Int) (_hl1 : n1 ≤ 1048576) (x y z : Int) (hv : volB X Y Z n t = false) (w : World) (h : Px a n t w) (h0 : Px a0 n0 M w) (h1 : Px a1 n1 T w) (s : Nat → Int) :
    Calls Try.prog 7 #[vVolume X Y Z a n cap, vFrame D a0 n0 c0 a1 n1 c1, .int .i64 x, .int .i64 y, .int .i64 z] w (VoR 0 0 0 0 s w) := by
  have HS0 := hide ((((St.start w).box [.int .i64 X, .int .i64 Y, .int .i64 Z, .slice a n cap] 29).box' [.slice a0 n0 c0, .slice a1 n1 c1, .int .i64 D] 32 (b := w.heap.size + 1) (by simp)).box' [.int .i64 0, .int .i64 0, .int .i64 0, .slice none 0 0] 29 (b := w.heap.size + 2) (by simp))
  have cV := specVolumeOk_any X Y Z a n cap t hl _ (h.below HS0.out.below)
  rw [hv] at cV
  have HP0 := hide h0
  have HP1 := hide h1
  clear h h0 h1 hl _hl0 _hl1 hv
  obtain ⟨i0, i1, i2, i3⟩ := HS0.out.im4 2 rfl
  go_enter Try.func7, Try.ntmps7
  go_wp2_with fail
  refine cV.mono ?_
  rintro e w1 ⟨rfl, hb⟩
  have HS1 := hide (HS0.out.next hb)
  clear cV hb HS0 i0 i1 i2 i3
  obtain ⟨o0, o1, o2, o3⟩ := HS1.out.im4 0 rfl
  have f0 := HS1.out.free 0 rfl 0 rfl
  have f1 := HS1.out.free 0 rfl 1 rfl
  have f2 := HS1.out.free 0 rfl 2 rfl
  have f3 := HS1.out.free 0 rfl 3 rfl
  have HZ := hide ((((HS1.out.fill (L1 := []) 0 (.int .i64 0)).fill (L1 := []) 1 (.int .i64 0)).fill (L1 := []) 2 (.int .i64 0)).fill (L1 := []) 3 (.slice none 0 0))
  obtain ⟨wy, hy⟩ : ∃ wy, ((((w1.setCell ⟨w.heap.size + 2, 0, none⟩ (.int .i64 0)).setCell ⟨w.heap.size + 2, 1, none⟩ (.int .i64 0)).setCell ⟨w.heap.size + 2, 2, none⟩ (.int .i64 0)).setCell ⟨w.heap.size + 2, 3, none⟩ (.slice none 0 0)) = wy := ⟨_, rfl⟩
  rw [hy] at HZ
  have y0 := HZ.out.cell 0 rfl 0 rfl
  have y1 := HZ.out.cell 0 rfl 1 rfl
  have y2 := HZ.out.cell 0 rfl 2 rfl
  have y3 := HZ.out.cell 0 rfl 3 rfl
  have HB3 := hide HZ.out.below
  clear HZ HS1
  go_wp2_with fail
  exact bodyPost_ret (v := vVolume 0 0 0 none 0 0) (by simp [results, Try.results7, go_sem, y0, y1, y2, y3]) rfl ⟨none, 0, 0, rfl, .inl rfl, .inl rfl, HB3.out⟩

set_option maxRecDepth 100000 in
set_option maxHeartbeats 8000000 in
theorem sreslice_f (X Y Z : Int) (a : Option Addr) (n cap : Nat) (t : Nat → Int) (hl : n ≤ 1048576) (D : Int) (a0 : Option Addr) (n0 c0 : Nat) (M : Nat → Int) (hl0 : n0 ≤ 1048576) (a1 : Option Addr) (n1 c1 : Nat) (T : Nat → Int) (hl1 : n1 ≤ 1048576) (x y z : Int) (hv : volB X Y Z n t = true) (hf : frmB D n0 M n1 T = false) (w : World) (h : Px a n t w) (h0 : Px a0 n0 M w) (h1 : Px a1 n1 T w) (s : Nat → Int) :
    Calls Try.prog 7 #[vVolume X Y Z a n cap, vFrame D a0 n0 c0 a1 n1 c1, .int .i64 x, .int .i64 y, .int .i64 z] w (VoR 0 0 0 0 s w) := by
  have HS0 := hide ((((St.start w).box [.int .i64 X, .int .i64 Y, .int .i64 Z, .slice a n cap] 29).box' [.slice a0 n0 c0, .slice a1 n1 c1, .int .i64 D] 32 (b := w.heap.size + 1) (by simp)).box' [.int .i64 0, .int .i64 0, .int .i64 0, .slice none 0 0] 29 (b := w.heap.size + 2) (by simp))
  have cV := specVolumeOk_any X Y Z a n cap t hl _ (h.below HS0.out.below)
  rw [hv] at cV
  have cF := fun w' k0 k1 => specFrameOk_any D a0 n0 c0 M hl0 a1 n1 c1 T hl1 w' k0 k1
  rw [hf] at cF
  have HP0 := hide h0
  have HP1 := hide h1
  clear h h0 h1 hl hl0 hl1 hv hf
  obtain ⟨i0, i1, i2, i3⟩ := HS0.out.im4 2 rfl
  go_enter Try.func7, Try.ntmps7
  go_wp2_with fail
  refine cV.mono ?_
  rintro e w1 ⟨rfl, hb⟩
  have HS1 := hide (HS0.out.next hb)
  clear cV hb HS0 i0 i1 i2 i3
  obtain ⟨i0, i1, i2⟩ := HS1.out.im3 1 rfl
  go_wp2_with fail
  refine (cF _ (HP0.out.below HS1.out.below) (HP1.out.below HS1.out.below)).mono ?_
  rintro e w2 ⟨rfl, hb⟩
  have HS3 := hide (HS1.out.next hb)
  clear cF hb HS1 i0 i1 i2
  obtain ⟨o0, o1, o2, o3⟩ := HS3.out.im4 0 rfl
  have f0 := HS3.out.free 0 rfl 0 rfl
  have f1 := HS3.out.free 0 rfl 1 rfl
  have f2 := HS3.out.free 0 rfl 2 rfl
  have f3 := HS3.out.free 0 rfl 3 rfl
  have HZ := hide ((((HS3.out.fill (L1 := []) 0 (.int .i64 0)).fill (L1 := []) 1 (.int .i64 0)).fill (L1 := []) 2 (.int .i64 0)).fill (L1 := []) 3 (.slice none 0 0))
  obtain ⟨wy, hy⟩ : ∃ wy, ((((w2.setCell ⟨w.heap.size + 2, 0, none⟩ (.int .i64 0)).setCell ⟨w.heap.size + 2, 1, none⟩ (.int .i64 0)).setCell ⟨w.heap.size + 2, 2, none⟩ (.int .i64 0)).setCell ⟨w.heap.size + 2, 3, none⟩ (.slice none 0 0)) = wy := ⟨_, rfl⟩
  rw [hy] at HZ
  have y0 := HZ.out.cell 0 rfl 0 rfl
  have y1 := HZ.out.cell 0 rfl 1 rfl
  have y2 := HZ.out.cell 0 rfl 2 rfl
  have y3 := HZ.out.cell 0 rfl 3 rfl
  have HB3 := hide HZ.out.below
  clear HZ HS3
  go_wp2_with fail
  exact bodyPost_ret (v := vVolume 0 0 0 none 0 0) (by simp [results, Try.results7, go_sem, y0, y1, y2, y3]) rfl ⟨none, 0, 0, rfl, .inl rfl, .inl rfl, HB3.out⟩

set_option maxRecDepth 100000 in
set_option maxHeartbeats 8000000 in
theorem sreslice_x (X Y Z : Int) (a : Option Addr) (n cap : Nat) (t : Nat → Int) (hl : n ≤ 1048576) (D : Int) (a0 : Option Addr) (n0 c0 : Nat) (M : Nat → Int) (hl0 : n0 ≤ 1048576) (a1 : Option Addr) (n1 c1 : Nat) (T : Nat → Int) (hl1 : n1 ≤ 1048576) (x y z : Int) (hv : volB X Y Z n t = true) (hf : frmB D n0 M n1 T = true) (hx : inB x 1 32 = false) (w : World) (h : Px a n t w) (h0 : Px a0 n0 M w) (h1 : Px a1 n1 T w) (s : Nat → Int) :
    Calls Try.prog 7 #[vVolume X Y Z a n cap, vFrame D a0 n0 c0 a1 n1 c1, .int .i64 x, .int .i64 y, .int .i64 z] w (VoR 0 0 0 0 s w) := by
  have HS0 := hide ((((St.start w).box [.int .i64 X, .int .i64 Y, .int .i64 Z, .slice a n cap] 29).box' [.slice a0 n0 c0, .slice a1 n1 c1, .int .i64 D] 32 (b := w.heap.size + 1) (by simp)).box' [.int .i64 0, .int .i64 0, .int .i64 0, .slice none 0 0] 29 (b := w.heap.size + 2) (by simp))
  have cV := specVolumeOk_any X Y Z a n cap t hl _ (h.below HS0.out.below)
  rw [hv] at cV
  have cF := fun w' k0 k1 => specFrameOk_any D a0 n0 c0 M hl0 a1 n1 c1 T hl1 w' k0 k1
  rw [hf] at cF
  have cx := fun w' => l1In_any x 1 32 w'
  rw [hx] at cx
  have HP0 := hide h0
  have HP1 := hide h1
  clear h h0 h1 hl hl0 hl1 hv hf hx
  obtain ⟨i0, i1, i2, i3⟩ := HS0.out.im4 2 rfl
  go_enter Try.func7, Try.ntmps7
  go_wp2_with fail
  refine cV.mono ?_
  rintro e w1 ⟨rfl, hb⟩
  have HS1 := hide (HS0.out.next hb)
  clear cV hb HS0 i0 i1 i2 i3
  obtain ⟨i0, i1, i2⟩ := HS1.out.im3 1 rfl
  go_wp2_with fail
  refine (cF _ (HP0.out.below HS1.out.below) (HP1.out.below HS1.out.below)).mono ?_
  rintro e w2 ⟨rfl, hb⟩
  have HS3 := hide (HS1.out.next hb)
  clear cF hb HS1 i0 i1 i2
  go_wp2_with fail
  refine (cx _).mono ?_
  rintro e w3x ⟨rfl, rfl⟩
  clear cx
  obtain ⟨o0, o1, o2, o3⟩ := HS3.out.im4 0 rfl
  have f0 := HS3.out.free 0 rfl 0 rfl
  have f1 := HS3.out.free 0 rfl 1 rfl
  have f2 := HS3.out.free 0 rfl 2 rfl
  have f3 := HS3.out.free 0 rfl 3 rfl
  have HZ := hide ((((HS3.out.fill (L1 := []) 0 (.int .i64 0)).fill (L1 := []) 1 (.int .i64 0)).fill (L1 := []) 2 (.int .i64 0)).fill (L1 := []) 3 (.slice none 0 0))
  obtain ⟨wy, hy⟩ : ∃ wy, ((((w3x.setCell ⟨w.heap.size + 2, 0, none⟩ (.int .i64 0)).setCell ⟨w.heap.size + 2, 1, none⟩ (.int .i64 0)).setCell ⟨w.heap.size + 2, 2, none⟩ (.int .i64 0)).setCell ⟨w.heap.size + 2, 3, none⟩ (.slice none 0 0)) = wy := ⟨_, rfl⟩
  rw [hy] at HZ
  have y0 := HZ.out.cell 0 rfl 0 rfl
  have y1 := HZ.out.cell 0 rfl 1 rfl
  have y2 := HZ.out.cell 0 rfl 2 rfl
  have y3 := HZ.out.cell 0 rfl 3 rfl
  have HB3 := hide HZ.out.below
  clear HZ HS3
  go_wp2_with fail
  exact bodyPost_ret (v := vVolume 0 0 0 none 0 0) (by simp [results, Try.results7, go_sem, y0, y1, y2, y3]) rfl ⟨none, 0, 0, rfl, .inl rfl, .inl rfl, HB3.out⟩

set_option maxRecDepth 100000 in
set_option maxHeartbeats 8000000 in
theorem sreslice_y (X Y Z : Int) (a : Option Addr) (n cap : Nat) (t : Nat → Int) (hl : n ≤ 1048576) (D : Int) (a0 : Option Addr) (n0 c0 : Nat) (M : Nat → Int) (hl0 : n0 ≤ 1048576) (a1 : Option Addr) (n1 c1 : Nat) (T : Nat → Int) (hl1 : n1 ≤ 1048576) (x y z : Int) (hv : volB X Y Z n t = true) (hf : frmB D n0 M n1 T = true) (hx : inB x 1 32 = true) (hy : inB y 1 32 = false) (w : World) (h : Px a n t w) (h0 : Px a0 n0 M w) (h1 : Px a1 n1 T w) (s : Nat → Int) :
    Calls Try.prog 7 #[vVolume X Y Z a n cap, vFrame D a0 n0 c0 a1 n1 c1, .int .i64 x, .int .i64 y, .int .i64 z] w (VoR 0 0 0 0 s w) := by
  have HS0 := hide ((((St.start w).box [.int .i64 X, .int .i64 Y, .int .i64 Z, .slice a n cap] 29).box' [.slice a0 n0 c0, .slice a1 n1 c1, .int .i64 D] 32 (b := w.heap.size + 1) (by simp)).box' [.int .i64 0, .int .i64 0, .int .i64 0, .slice none 0 0] 29 (b := w.heap.size + 2) (by simp))
  have cV := specVolumeOk_any X Y Z a n cap t hl _ (h.below HS0.out.below)
  rw [hv] at cV
  have cF := fun w' k0 k1 => specFrameOk_any D a0 n0 c0 M hl0 a1 n1 c1 T hl1 w' k0 k1
  rw [hf] at cF
  have cx := fun w' => l1In_any x 1 32 w'
  rw [hx] at cx
  have cy := fun w' => l1In_any y 1 32 w'
  rw [hy] at cy
  have HP0 := hide h0
  have HP1 := hide h1
  clear h h0 h1 hl hl0 hl1 hv hf hx hy
  obtain ⟨i0, i1, i2, i3⟩ := HS0.out.im4 2 rfl
  go_enter Try.func7, Try.ntmps7
  go_wp2_with fail
  refine cV.mono ?_
  rintro e w1 ⟨rfl, hb⟩
  have HS1 := hide (HS0.out.next hb)
  clear cV hb HS0 i0 i1 i2 i3
  obtain ⟨i0, i1, i2⟩ := HS1.out.im3 1 rfl
  go_wp2_with fail
  refine (cF _ (HP0.out.below HS1.out.below) (HP1.out.below HS1.out.below)).mono ?_
  rintro e w2 ⟨rfl, hb⟩
  have HS3 := hide (HS1.out.next hb)
  clear cF hb HS1 i0 i1 i2
  go_wp2_with fail
  refine (cx _).mono ?_
  rintro e w3x ⟨rfl, rfl⟩
  clear cx
  go_wp2_with fail
  refine (cy _).mono ?_
  rintro e w3y ⟨rfl, rfl⟩
  clear cy
  obtain ⟨o0, o1, o2, o3⟩ := HS3.out.im4 0 rfl
  have f0 := HS3.out.free 0 rfl 0 rfl
  have f1 := HS3.out.free 0 rfl 1 rfl
  have f2 := HS3.out.free 0 rfl 2 rfl
  have f3 := HS3.out.free 0 rfl 3 rfl
  have HZ := hide ((((HS3.out.fill (L1 := []) 0 (.int .i64 0)).fill (L1 := []) 1 (.int .i64 0)).fill (L1 := []) 2 (.int .i64 0)).fill (L1 := []) 3 (.slice none 0 0))
  obtain ⟨wy, hy⟩ : ∃ wy, ((((w3y.setCell ⟨w.heap.size + 2, 0, none⟩ (.int .i64 0)).setCell ⟨w.heap.size + 2, 1, none⟩ (.int .i64 0)).setCell ⟨w.heap.size + 2, 2, none⟩ (.int .i64 0)).setCell ⟨w.heap.size + 2, 3, none⟩ (.slice none 0 0)) = wy := ⟨_, rfl⟩
  rw [hy] at HZ
  have y0 := HZ.out.cell 0 rfl 0 rfl
  have y1 := HZ.out.cell 0 rfl 1 rfl
  have y2 := HZ.out.cell 0 rfl 2 rfl
  have y3 := HZ.out.cell 0 rfl 3 rfl
  have HB3 := hide HZ.out.below
  clear HZ HS3
  go_wp2_with fail
  exact bodyPost_ret (v := vVolume 0 0 0 none 0 0) (by simp [results, Try.results7, go_sem, y0, y1, y2, y3]) rfl ⟨none, 0, 0, rfl, .inl rfl, .inl rfl, HB3.out⟩

set_option maxRecDepth 100000 in
set_option maxHeartbeats 8000000 in
theorem sreslice_z (X Y Z : Int) (a : Option Addr) (n cap : Nat) (t : Nat → Int) (hl : n ≤ 1048576) (D : Int) (a0 : Option Addr) (n0 c0 : Nat) (M : Nat → Int) (hl0 : n0 ≤ 1048576) (a1 : Option Addr) (n1 c1 : Nat) (T : Nat → Int) (hl1 : n1 ≤ 1048576) (x y z : Int) (hv : volB X Y Z n t = true) (hf : frmB D n0 M n1 T = true) (hx : inB x 1 32 = true) (hy : inB y 1 32 = true) (hz : inB z 1 32 = false) (w : World) (h : Px a n t w) (h0 : Px a0 n0 M w) (h1 : Px a1 n1 T w) (s : Nat → Int) :
    Calls Try.prog 7 #[vVolume X Y Z a n cap, vFrame D a0 n0 c0 a1 n1 c1, .int .i64 x, .int .i64 y, .int .i64 z] w (VoR 0 0 0 0 s w) := by
  have HS0 := hide ((((St.start w).box [.int .i64 X, .int .i64 Y, .int .i64 Z, .slice a n cap] 29).box' [.slice a0 n0 c0, .slice a1 n1 c1, .int .i64 D] 32 (b := w.heap.size + 1) (by simp)).box' [.int .i64 0, .int .i64 0, .int .i64 0, .slice none 0 0] 29 (b := w.heap.size + 2) (by simp))
  have cV := specVolumeOk_any X Y Z a n cap t hl _ (h.below HS0.out.below)
  rw [hv] at cV
  have cF := fun w' k0 k1 => specFrameOk_any D a0 n0 c0 M hl0 a1 n1 c1 T hl1 w' k0 k1
  rw [hf] at cF
  have cx := fun w' => l1In_any x 1 32 w'
  rw [hx] at cx
  have cy := fun w' => l1In_any y 1 32 w'
  rw [hy] at cy
  have cz := fun w' => l1In_any z 1 32 w'
  rw [hz] at cz
  have HP0 := hide h0
  have HP1 := hide h1
  clear h h0 h1 hl hl0 hl1 hv hf hx hy hz
  obtain ⟨i0, i1, i2, i3⟩ := HS0.out.im4 2 rfl
  go_enter Try.func7, Try.ntmps7
  go_wp2_with fail
  refine cV.mono ?_
  rintro e w1 ⟨rfl, hb⟩
  have HS1 := hide (HS0.out.next hb)
  clear cV hb HS0 i0 i1 i2 i3
  obtain ⟨i0, i1, i2⟩ := HS1.out.im3 1 rfl
  go_wp2_with fail
  refine (cF _ (HP0.out.below HS1.out.below) (HP1.out.below HS1.out.below)).mono ?_
  rintro e w2 ⟨rfl, hb⟩
  have HS3 := hide (HS1.out.next hb)
  clear cF hb HS1 i0 i1 i2
  go_wp2_with fail
  refine (cx _).mono ?_
  rintro e w3x ⟨rfl, rfl⟩
  clear cx
  go_wp2_with fail
  refine (cy _).mono ?_
  rintro e w3y ⟨rfl, rfl⟩
  clear cy
  go_wp2_with fail
  refine (cz _).mono ?_
  rintro e w3z ⟨rfl, rfl⟩
  clear cz
  obtain ⟨o0, o1, o2, o3⟩ := HS3.out.im4 0 rfl
  have f0 := HS3.out.free 0 rfl 0 rfl
  have f1 := HS3.out.free 0 rfl 1 rfl
  have f2 := HS3.out.free 0 rfl 2 rfl
  have f3 := HS3.out.free 0 rfl 3 rfl
  have HZ := hide ((((HS3.out.fill (L1 := []) 0 (.int .i64 0)).fill (L1 := []) 1 (.int .i64 0)).fill (L1 := []) 2 (.int .i64 0)).fill (L1 := []) 3 (.slice none 0 0))
  obtain ⟨wy, hy⟩ : ∃ wy, ((((w3z.setCell ⟨w.heap.size + 2, 0, none⟩ (.int .i64 0)).setCell ⟨w.heap.size + 2, 1, none⟩ (.int .i64 0)).setCell ⟨w.heap.size + 2, 2, none⟩ (.int .i64 0)).setCell ⟨w.heap.size + 2, 3, none⟩ (.slice none 0 0)) = wy := ⟨_, rfl⟩
  rw [hy] at HZ
  have y0 := HZ.out.cell 0 rfl 0 rfl
  have y1 := HZ.out.cell 0 rfl 1 rfl
  have y2 := HZ.out.cell 0 rfl 2 rfl
  have y3 := HZ.out.cell 0 rfl 3 rfl
  have HB3 := hide HZ.out.below
  clear HZ HS3
  go_wp2_with fail
  exact bodyPost_ret (v := vVolume 0 0 0 none 0 0) (by simp [results, Try.results7, go_sem, y0, y1, y2, y3]) rfl ⟨none, 0, 0, rfl, .inl rfl, .inl rfl, HB3.out⟩

theorem specReslice_any (X Y Z : Int) (a : Option Addr) (n cap : Nat) (t : Nat → Int) (hl : n ≤ 1048576) (D : Int) (a0 : Option Addr) (n0 c0 : Nat) (M : Nat → Int) (hl0 : n0 ≤ 1048576) (a1 : Option Addr) (n1 c1 : Nat) (T : Nat → Int) (hl1 : n1 ≤ 1048576) (x y z : Int) (w : World) (h : Px a n t w) (h0 : Px a0 n0 M w) (h1 : Px a1 n1 T w) :
    Calls Try.prog 7 #[vVolume X Y Z a n cap, vFrame D a0 n0 c0 a1 n1 c1, .int .i64 x, .int .i64 y, .int .i64 z] w (VoR (rsW (rsB X Y Z n t D n0 M n1 T x y z) x) (rsW (rsB X Y Z n t D n0 M n1 T x y z) y) (rsW (rsB X Y Z n t D n0 M n1 T x y z) z) (rsC (rsB X Y Z n t D n0 M n1 T x y z) x y z) (rsF t X Y Z M T D x.toNat y.toNat) w) := by
  cases hb : rsB X Y Z n t D n0 M n1 T x y z
  · show Calls Try.prog 7 _ w (VoR 0 0 0 0 _ w)
    cases hv : volB X Y Z n t
    · exact sreslice_v X Y Z a n cap t hl D a0 n0 c0 M hl0 a1 n1 c1 T hl1 x y z hv w h h0 h1 _
    cases hf : frmB D n0 M n1 T
    · exact sreslice_f X Y Z a n cap t hl D a0 n0 c0 M hl0 a1 n1 c1 T hl1 x y z hv hf w h h0 h1 _
    cases hx : inB x 1 32
    · exact sreslice_x X Y Z a n cap t hl D a0 n0 c0 M hl0 a1 n1 c1 T hl1 x y z hv hf hx w h h0 h1 _
    cases hy : inB y 1 32
    · exact sreslice_y X Y Z a n cap t hl D a0 n0 c0 M hl0 a1 n1 c1 T hl1 x y z hv hf hx hy w h h0 h1 _
    cases hz : inB z 1 32
    · exact sreslice_z X Y Z a n cap t hl D a0 n0 c0 M hl0 a1 n1 c1 T hl1 x y z hv hf hx hy hz w h h0 h1 _
    unfold rsB at hb
    rw [hf, hv, hx, hy, hz] at hb
    cases hb
  · show Calls Try.prog 7 _ w (VoR x y z (z.toNat * y.toNat * x.toNat) _ w)
    obtain ⟨hf, hv, hx, hy, hz⟩ := rsB_parts hb
    obtain ⟨e0, e1, bD, bM, bT, -, -⟩ := frmB_parts hf
    subst e0 e1
    obtain ⟨hX, hY, hZ, hn, -⟩ := volB_parts hv
    obtain ⟨x, rfl⟩ : ∃ m : Nat, x = (m : Int) := ⟨x.toNat, by omega⟩
    obtain ⟨y, rfl⟩ : ∃ m : Nat, y = (m : Int) := ⟨y.toNat, by omega⟩
    obtain ⟨z, rfl⟩ : ∃ m : Nat, z = (m : Int) := ⟨z.toNat, by omega⟩
    simp only [Int.toNat_natCast]
    exact sreslice_go X Y Z a n cap t hX hY hZ hn hv hl D a0 c0 M a1 c1 T hf bD bM bT x y z (by omega) (by omega) (by omega) w h h0 h1

end Go.Proofs.Ytpbeogepgjbacaa

/- The law's own copies, comparisons and marks of Frame. -/
import Derived.Test.YtpbeogepgjbacaaHom
namespace Go.Proofs.Ytpbeogepgjbacaa
open Go.RowKit

abbrev vFrame (x0 : Int) (a0 : Option Addr) (n0 c0 : Nat) (a1 : Option Addr) (n1 c1 : Nat) : Value := .agg #[.slice a0 n0 c0, .slice a1 n1 c1, .int .i64 x0]
theorem Ow.row {b n : Nat} {f : Nat → Int} {w : World} (h : Ow (some ⟨b, 0, none⟩) b n f w) : Row b n f w := fun k hk => by
  rcases h with h | ⟨_, h⟩
  · omega
  · exact h k hk

set_option maxHeartbeats 1000000 in
theorem szFrame_any (x0 : Int) (a0 : Option Addr) (n0 c0 : Nat) (a1 : Option Addr) (n1 c1 : Nat) (left : Int) (h0 : 0 ≤ left) (h1 : left ≤ 1048576) (hl0 : (n0 : Int) ≤ 9223372036854775807) (hl1 : (n1 : Int) ≤ 9223372036854775807) (w : World) :
    Calls Try.prog 6 #[vFrame x0 a0 n0 c0 a1 n1 c1, .int .i64 left] w fun e w' => e = .returned (.int .i64 (if left < (n0 : Int) + (n1 : Int) then -1 else left - ((n0 : Int) + (n1 : Int)))) ∧ Below w.heap.size w w' := by
  have HB : Hid (∀ o, Below w.heap.size w (w.alloc o)) := fun o => bnew _ _
  have hc0 := sz_any a0 n0 c0 left h0 h1 hl0
  by_cases hb0 : left < (n0 : Int)
  · rw [if_pos (show left < (n0 : Int) + (n1 : Int) by omega)]
    rw [if_pos hb0] at hc0
    clear hb0 h0 h1 hl0 hl1
    go_enter Try.func6, Try.ntmps6
    go_wp2_with fail
    refine (hc0 _).mono ?_
    rintro e w1 ⟨rfl, rfl⟩
    go_wp2_with fail
    go_ret
    exact ⟨rfl, HB.out _⟩
  rw [if_neg hb0] at hc0
  have hq0 : ¬ left - (n0 : Int) < 0 := by omega
  have hc1 := fun (g : 0 ≤ left - (n0 : Int)) (g' : left - (n0 : Int) ≤ 1048576) => sz_any a1 n1 c1 (left - (n0 : Int)) g g' hl1
  have hc1 := hc1 (by omega) (by omega)
  by_cases hb1 : left - (n0 : Int) < (n1 : Int)
  · rw [if_pos (show left < (n0 : Int) + (n1 : Int) by omega)]
    rw [if_pos hb1] at hc1
    clear hb1 h0 h1 hl0 hl1
    go_enter Try.func6, Try.ntmps6
    go_wp2_with fail
    refine (hc0 _).mono ?_
    rintro e w1 ⟨rfl, rfl⟩
    go_wp2_with fail
    refine (hc1 _).mono ?_
    rintro e w2 ⟨rfl, rfl⟩
    go_wp2_with fail
    go_ret
    exact ⟨rfl, HB.out _⟩
  rw [if_neg hb1] at hc1
  have hq1 : ¬ left - (n0 : Int) - (n1 : Int) < 0 := by omega
  rw [if_neg (show ¬ left < (n0 : Int) + (n1 : Int) by omega)]
  have hfin : left - ((n0 : Int) + (n1 : Int)) = left - (n0 : Int) - (n1 : Int) := by omega
  rw [hfin]
  clear hfin h0 h1 hl0 hb0 hl1 hb1
  go_enter Try.func6, Try.ntmps6
  go_wp2_with fail
  refine (hc0 _).mono ?_
  rintro e w1 ⟨rfl, rfl⟩
  go_wp2_with fail
  refine (hc1 _).mono ?_
  rintro e w2 ⟨rfl, rfl⟩
  go_wp2_with fail
  go_ret
  exact ⟨by first | rfl | (congr 3; omega), HB.out _⟩

set_option maxHeartbeats 1000000 in
theorem eqFrame_any (x0 : Int) (a0 a0' : Option Addr) (n0 c0 c0' : Nat) (f0 : Nat → Int) (hl0 : n0 ≤ 1048576) (a1 a1' : Option Addr) (n1 c1 c1' : Nat) (f1 : Nat → Int) (hl1 : n1 ≤ 1048576) (w : World) (h0 : Px a0 n0 f0 w) (h0' : Px a0' n0 f0 w) (h1 : Px a1 n1 f1 w) (h1' : Px a1' n1 f1 w) :
    Calls Try.prog 12 #[vFrame x0 a0 n0 c0 a1 n1 c1, vFrame x0 a0' n0 c0' a1' n1 c1'] w fun e w' => e = .returned (.bool true) ∧ Below w.heap.size w w' := by
  have HS0 := hide (((St.start w).box [.slice a0 n0 c0, .slice a1 n1 c1, .int .i64 x0] 32).box' [.slice a0' n0 c0', .slice a1' n1 c1', .int .i64 x0] 32 (b := w.heap.size + 1) (by simp))
  generalize hA : (w.alloc (.cells [.slice a0 n0 c0, .slice a1 n1 c1, .int .i64 x0].toArray 32)).alloc (.cells [.slice a0' n0 c0', .slice a1' n1 c1', .int .i64 x0].toArray 32) = wA at HS0
  have hA' : (w.alloc (.cells #[.slice a0 n0 c0, .slice a1 n1 c1, .int .i64 x0] 32)).alloc (.cells #[.slice a0' n0 c0', .slice a1' n1 c1', .int .i64 x0] 32) = wA := hA
  clear hA
  have HP0 := hide h0
  have HQ0 := hide h0'
  have c0e := eqInts_b a0 a0' n0 c0 c0' f0 hl0
  have HP1 := hide h1
  have HQ1 := hide h1'
  have c1e := eqInts_b a1 a1' n1 c1 c1' f1 hl1
  have qx0 : (x0 != x0) = false := by simp
  clear h0 h0' h1 h1'
  obtain ⟨i0, i1, i2⟩ := HS0.out.im3 1 rfl
  obtain ⟨j0, j1, j2⟩ := HS0.out.im3 0 rfl
  go_enter Try.func12, Try.ntmps12
  go_wp2_with fail
  refine (c0e _ (HP0.out.below HS0.out.below) (HQ0.out.below HS0.out.below)).mono ?_
  rintro e w1 ⟨rfl, hb⟩
  have HS1 := hide (HS0.out.next hb)
  clear hb i0 i1 i2 j0 j1 j2 hA'
  obtain ⟨i0, i1, i2⟩ := HS1.out.im3 1 rfl
  obtain ⟨j0, j1, j2⟩ := HS1.out.im3 0 rfl
  go_wp2_with fail
  refine (c1e _ (HP1.out.below HS1.out.below) (HQ1.out.below HS1.out.below)).mono ?_
  rintro e w2 ⟨rfl, hb⟩
  have HS2 := hide (HS1.out.next hb)
  clear hb i0 i1 i2 j0 j1 j2
  obtain ⟨i0, i1, i2⟩ := HS2.out.im3 1 rfl
  obtain ⟨j0, j1, j2⟩ := HS2.out.im3 0 rfl
  have HB := hide HS2.out.below
  go_wp2_with fail
  go_ret
  exact ⟨rfl, HB.out⟩

theorem markFrame_any (x0 : Int) (a0 : Option Addr) (b0 n0 c0 : Nat) (f0 : Nat → Int) (hl0 : n0 ≤ 1048576) (a1 : Option Addr) (b1 n1 c1 : Nat) (f1 : Nat → Int) (hl1 : n1 ≤ 1048576) (k : Int) (g0 : 0 ≤ k) (g1 : k ≤ 2097152) (w : World) (h0 : Ow a0 b0 n0 f0 w) (h1 : Ow a1 b1 n1 f1 w) (hne : n0 = 0 ∨ n1 = 0 ∨ b0 ≠ b1) :
    Calls Try.prog 14 #[vFrame x0 a0 n0 c0 a1 n1 c1, .int .i64 k] w fun e w' => e = .returned (.int .i64 (k + (n0 : Int) + (n1 : Int))) ∧ ∃ w1 w2, Below w.heap.size w w1 ∧ Ow a0 (bk n0 b0 w1) n0 (fun j => k + j) w2 ∧ Kept (bk n0 b0 w1) w1 w2 ∧ Ow a1 (bk n1 b1 w2) n1 (fun j => k + (n0 : Int) + j) w' ∧ Kept (bk n1 b1 w2) w2 w' := by
  have hA : Below w.heap.size w (w.alloc (.cells #[.slice a0 n0 c0, .slice a1 n1 c1, .int .i64 x0] 32)) := bnew _ _
  obtain ⟨w1, hw1⟩ : ∃ w1, w.alloc (.cells #[.slice a0 n0 c0, .slice a1 n1 c1, .int .i64 x0] 32) = w1 := ⟨_, rfl⟩
  have i0 : w1.cell? ⟨w.heap.size, 0, none⟩ = some (.slice a0 n0 c0) := by rw [← hw1]; simp [go_sem]
  have i1 : w1.cell? ⟨w.heap.size, 1, none⟩ = some (.slice a1 n1 c1) := by rw [← hw1]; simp [go_sem]
  have hsz : w1.heap.size = w.heap.size + 1 := by rw [← hw1]; simp
  rw [hw1] at hA
  have hO0 := (OwV.bk (h0.below' hA).v).i
  have hO1 := h1.below' hA
  have hlt0 : n0 ≠ 0 → b0 < w.heap.size := fun h => h0.v.lt h
  have hlt1 : n1 ≠ 0 → b1 < w.heap.size := fun h => h1.v.lt h
  have hbk : n1 ≠ 0 → b1 ≠ bk n0 b0 w1 := fun h => by
    unfold bk
    have := hlt1 h
    split
    · omega
    · rename_i h5
      rcases hne with e | e | e
      · exact absurd e h5
      · exact absurd e h
      · exact e.symm
  have hwne : w.heap.size ≠ bk n0 b0 w1 := by
    unfold bk
    split
    · omega
    · rename_i h5
      have := hlt0 h5
      omega
  have hc := mark_any a0 (bk n0 b0 w1) n0 c0 f0 k g0 (by omega) hl0 w1 hO0
  have hc2 := fun w2 h => mark_any a1 (bk n1 b1 w2) n1 c1 f1 (k + (n0 : Int)) (by omega) (by omega) hl1 w2 h
  have HW := hide hA
  clear h0 h1 hne hlt0 hlt1 hO0 hsz hA
  have HO1 := hide hO1
  have HBk := hide hbk
  have HWn := hide hwne
  clear hO1 hbk hwne
  go_enter Try.func14, Try.ntmps14
  go_wp2_with fail
  refine hc.mono ?_
  rintro e w2 ⟨rfl, ho, hk, -⟩
  have i1' := hk.cell (a := ⟨w.heap.size, 1, none⟩) HWn.out i1
  have hO2 : Ow a1 b1 n1 f1 w2 := by
    by_cases e : n1 = 0
    · exact .inl e
    · exact (HO1.out.v.kept hk (HBk.out e)).i
  have HO := hide ho
  have HK := hide hk
  clear ho hk i0 i1 hw1 hc
  go_wp2_with fail
  refine (hc2 _ (OwV.bk hO2.v).i).mono ?_
  rintro e w3 ⟨rfl, ho, hk, -⟩
  have HO3 := hide ho
  have HK3 := hide hk
  clear ho hk i1' hO2 hc2
  go_wp2_with fail
  go_ret
  exact ⟨rfl, w1, w2, HW.out, HO.out, HK.out, HO3.out, HK3.out⟩
set_option maxHeartbeats 4000000 in
theorem toFrame_any (x0 : Int) (a0 : Option Addr) (n0 c0 : Nat) (f0 : Nat → Int) (hl0 : n0 ≤ 1048576) (a1 : Option Addr) (n1 c1 : Nat) (f1 : Nat → Int) (hl1 : n1 ≤ 1048576) (w : World) (h0 : Px a0 n0 f0 w) (h1 : Px a1 n1 f1 w) :
    Calls Try.prog 9 #[vFrame x0 a0 n0 c0 a1 n1 c1] w fun e w' => ∃ b0 b1, e = .returned (vFrame x0 (some ⟨b0, 0, none⟩) n0 n0 (some ⟨b1, 0, none⟩) n1 n1) ∧ w.heap.size ≤ b0 ∧ Row b0 n0 f0 w' ∧ w.heap.size ≤ b1 ∧ Row b1 n1 f1 w' ∧ b0 ≠ b1 ∧ Below w.heap.size w w' := by
  have HS0 := hide ((((St.start w).box [.slice a0 n0 c0, .slice a1 n1 c1, .int .i64 x0] 26).box' [.slice none 0 0, .slice none 0 0, .int .i64 0] 32 (b := w.heap.size + 1) (by simp)).box' [.slice none 0 0, .slice none 0 0, .int .i64 0] 32 (b := w.heap.size + 2) (by simp))
  generalize hA : ((w.alloc (.cells [.slice a0 n0 c0, .slice a1 n1 c1, .int .i64 x0].toArray 26)).alloc (.cells [.slice none 0 0, .slice none 0 0, .int .i64 0].toArray 32)).alloc (.cells [.slice none 0 0, .slice none 0 0, .int .i64 0].toArray 32) = wA at HS0
  have hA' : ((w.alloc (.cells #[.slice a0 n0 c0, .slice a1 n1 c1, .int .i64 x0] 26)).alloc (.cells #[.slice none 0 0, .slice none 0 0, .int .i64 0] 32)).alloc (.cells #[.slice none 0 0, .slice none 0 0, .int .i64 0] 32) = wA := hA
  clear hA
  have HP0 := hide h0
  have cT0 := fun w' h => toInts_any a0 n0 c0 f0 hl0 w' h
  have HP1 := hide h1
  have cT1 := fun w' h => toInts_any a1 n1 c1 f1 hl1 w' h
  clear h0 h1
  obtain ⟨i0, i1, i2⟩ := HS0.out.im3 2 rfl
  go_enter Try.func9, Try.ntmps9
  go_wp2_with fail
  refine (cT0 _ (HP0.out.below HS0.out.below)).mono ?_
  rintro e u0 ⟨rfl, hr, hb, hs0⟩
  have HU0 := hide (HS0.out.own hb hr.v (.inr (Nat.le_refl _)))
  have hsz0 := HS0.out.below.size
  clear hb hr hA' cT0 HS0 i0 i1 i2
  generalize wA.heap.size = b0 at *
  obtain ⟨i0, i1, i2⟩ := HU0.out.im3 2 rfl
  obtain ⟨c0, c1, c2⟩ := HU0.out.im3 0 rfl
  obtain ⟨e0, e1, e2⟩ := HU0.out.fr3 0 rfl
  obtain ⟨d0, d1, d2⟩ := HU0.out.im3 1 rfl
  obtain ⟨g0, g1, g2⟩ := HU0.out.fr3 1 rfl
  have HF0 := hide (St.fill (L1 := []) HU0.out 0 (.slice (some ⟨b0, 0, none⟩) n0 n0))
  generalize hT : u0.setCell ⟨w.heap.size + 2, 0, none⟩ (.slice (some ⟨b0, 0, none⟩) n0 n0) = t0 at HF0
  clear i0 i1 i2 d0 d1 d2 g0 g1 g2
  have hlt0 : b0 < t0.heap.size := by rw [← hT]; simpa using hs0
  clear hs0
  obtain ⟨i0, i1, i2⟩ := HF0.out.im3 2 rfl
  clear HU0
  go_wp2_with fail
  refine (cT1 _ (HP1.out.below HF0.out.below)).mono ?_
  rintro e u1 ⟨rfl, hr, hb, hs1⟩
  have HU1 := hide (HF0.out.own hb hr.v (.inr (Nat.le_refl _)))
  have hsz1 := HF0.out.below.size
  clear hb hr hT cT1 HF0 i0 i1 i2 c0 c1 c2 e0 e1 e2
  generalize t0.heap.size = b1 at *
  obtain ⟨i0, i1, i2⟩ := HU1.out.im3 2 rfl
  obtain ⟨c0, c1, c2⟩ := HU1.out.im3 0 rfl
  obtain ⟨e0, e1, e2⟩ := HU1.out.fr3 0 rfl
  obtain ⟨d0, d1, d2⟩ := HU1.out.im3 1 rfl
  obtain ⟨g0, g1, g2⟩ := HU1.out.fr3 1 rfl
  have HF1 := hide (St.fill (L1 := []) HU1.out 1 (.slice (some ⟨b1, 0, none⟩) n1 n1))
  have HE := hide (St.fill (L1 := [_]) (St.fill (L1 := [_]) (St.fill (L1 := [_]) (St.fill (L1 := []) HF1.out 2 (.int .i64 x0)) 0 (.slice (some ⟨b0, 0, none⟩) n0 n0)) 1 (.slice (some ⟨b1, 0, none⟩) n1 n1)) 2 (.int .i64 x0))
  clear HU1 HF1
  go_wp2_with fail
  exact bodyPost_ret (v := vFrame x0 (some ⟨b0, 0, none⟩) n0 n0 (some ⟨b1, 0, none⟩) n1 n1) (by simp [results, Try.results9, go_sem, d0, d1, d2]) rfl ⟨b0, b1, rfl, (by omega), ((HE.out.nthO 1 rfl).i).row, (by omega), ((HE.out.nthO 0 rfl).i).row, (by omega), HE.out.below⟩
end Go.Proofs.Ytpbeogepgjbacaa

/- The law's own copies, comparisons and marks of Volume. -/
import Derived.Test.YtpbeogepgjbacaaHom
namespace Go.Proofs.Ytpbeogepgjbacaa
open Go.RowKit

abbrev vVolume (x0 x1 x2 : Int) (a0 : Option Addr) (n0 c0 : Nat) : Value := .agg #[.int .i64 x0, .int .i64 x1, .int .i64 x2, .slice a0 n0 c0]
theorem St.im4 {w0 : World} {L : List BoxT} {O : List OwnT} {w : World} (h : St w0 L O w) (i : Nat) {b : Nat} {v0 v1 v2 v3 : Value} (hm : L[i]? = some (b, [v0, v1, v2, v3])) :
    w.cell? ⟨b, 0, none⟩ = some v0 ∧ w.cell? ⟨b, 1, none⟩ = some v1 ∧ w.cell? ⟨b, 2, none⟩ = some v2 ∧ w.cell? ⟨b, 3, none⟩ = some v3 := ⟨h.cell i hm 0 rfl, h.cell i hm 1 rfl, h.cell i hm 2 rfl, h.cell i hm 3 rfl⟩
theorem St.fr4 {w0 : World} {L : List BoxT} {O : List OwnT} {w : World} (h : St w0 L O w) (i : Nat) {b : Nat} {v0 v1 v2 v3 : Value} (hm : L[i]? = some (b, [v0, v1, v2, v3])) :
    w.frozen? ⟨b, 0, none⟩ = false ∧ w.frozen? ⟨b, 1, none⟩ = false ∧ w.frozen? ⟨b, 2, none⟩ = false ∧ w.frozen? ⟨b, 3, none⟩ = false := ⟨h.free i hm 0 rfl, h.free i hm 1 rfl, h.free i hm 2 rfl, h.free i hm 3 rfl⟩

theorem Ow.row {b n : Nat} {f : Nat → Int} {w : World} (h : Ow (some ⟨b, 0, none⟩) b n f w) : Row b n f w := fun k hk => by
  rcases h with h | ⟨_, h⟩
  · omega
  · exact h k hk

set_option maxHeartbeats 1000000 in
theorem szVolume_any (x0 x1 x2 : Int) (a0 : Option Addr) (n0 c0 : Nat) (left : Int) (h0 : 0 ≤ left) (h1 : left ≤ 1048576) (hl0 : (n0 : Int) ≤ 9223372036854775807) (w : World) :
    Calls Try.prog 5 #[vVolume x0 x1 x2 a0 n0 c0, .int .i64 left] w fun e w' => e = .returned (.int .i64 (if left < (n0 : Int) then -1 else left - ((n0 : Int)))) ∧ Below w.heap.size w w' := by
  have HB : Hid (∀ o, Below w.heap.size w (w.alloc o)) := fun o => bnew _ _
  have hc0 := sz_any a0 n0 c0 left h0 h1 hl0
  by_cases hb0 : left < (n0 : Int)
  · rw [if_pos (show left < (n0 : Int) by omega)]
    rw [if_pos hb0] at hc0
    clear hb0 h0 h1 hl0
    go_enter Try.func5, Try.ntmps5
    go_wp2_with fail
    refine (hc0 _).mono ?_
    rintro e w1 ⟨rfl, rfl⟩
    go_wp2_with fail
    go_ret
    exact ⟨rfl, HB.out _⟩
  rw [if_neg hb0] at hc0
  have hq0 : ¬ left - (n0 : Int) < 0 := by omega
  rw [if_neg (show ¬ left < (n0 : Int) by omega)]
  have hfin : left - ((n0 : Int)) = left - (n0 : Int) := by omega
  rw [hfin]
  clear hfin h0 h1 hl0 hb0
  go_enter Try.func5, Try.ntmps5
  go_wp2_with fail
  refine (hc0 _).mono ?_
  rintro e w1 ⟨rfl, rfl⟩
  go_wp2_with fail
  go_ret
  exact ⟨by first | rfl | (congr 3; omega), HB.out _⟩

set_option maxHeartbeats 1000000 in
theorem eqVolume_any (x0 x1 x2 : Int) (a0 a0' : Option Addr) (n0 c0 c0' : Nat) (f0 : Nat → Int) (hl0 : n0 ≤ 1048576) (w : World) (h0 : Px a0 n0 f0 w) (h0' : Px a0' n0 f0 w) :
    Calls Try.prog 11 #[vVolume x0 x1 x2 a0 n0 c0, vVolume x0 x1 x2 a0' n0 c0'] w fun e w' => e = .returned (.bool true) ∧ Below w.heap.size w w' := by
  have HS0 := hide (((St.start w).box [.int .i64 x0, .int .i64 x1, .int .i64 x2, .slice a0 n0 c0] 29).box' [.int .i64 x0, .int .i64 x1, .int .i64 x2, .slice a0' n0 c0'] 29 (b := w.heap.size + 1) (by simp))
  generalize hA : (w.alloc (.cells [.int .i64 x0, .int .i64 x1, .int .i64 x2, .slice a0 n0 c0].toArray 29)).alloc (.cells [.int .i64 x0, .int .i64 x1, .int .i64 x2, .slice a0' n0 c0'].toArray 29) = wA at HS0
  have hA' : (w.alloc (.cells #[.int .i64 x0, .int .i64 x1, .int .i64 x2, .slice a0 n0 c0] 29)).alloc (.cells #[.int .i64 x0, .int .i64 x1, .int .i64 x2, .slice a0' n0 c0'] 29) = wA := hA
  clear hA
  have HP0 := hide h0
  have HQ0 := hide h0'
  have c0e := eqInts_b a0 a0' n0 c0 c0' f0 hl0
  have qx0 : (x0 != x0) = false := by simp
  have qx1 : (x1 != x1) = false := by simp
  have qx2 : (x2 != x2) = false := by simp
  clear h0 h0'
  obtain ⟨i0, i1, i2, i3⟩ := HS0.out.im4 1 rfl
  obtain ⟨j0, j1, j2, j3⟩ := HS0.out.im4 0 rfl
  go_enter Try.func11, Try.ntmps11
  go_wp2_with fail
  refine (c0e _ (HP0.out.below HS0.out.below) (HQ0.out.below HS0.out.below)).mono ?_
  rintro e w1 ⟨rfl, hb⟩
  have HS1 := hide (HS0.out.next hb)
  clear hb i0 i1 i2 i3 j0 j1 j2 j3 hA'
  obtain ⟨i0, i1, i2, i3⟩ := HS1.out.im4 1 rfl
  obtain ⟨j0, j1, j2, j3⟩ := HS1.out.im4 0 rfl
  have HB := hide HS1.out.below
  go_wp2_with fail
  go_ret
  exact ⟨rfl, HB.out⟩

theorem markVolume_any (x0 x1 x2 : Int) (a0 : Option Addr) (b0 n0 c0 : Nat) (f0 : Nat → Int) (hl0 : n0 ≤ 1048576) (k : Int) (g0 : 0 ≤ k) (g1 : k ≤ 4194304) (w : World) (h0 : Ow a0 b0 n0 f0 w) :
    Calls Try.prog 13 #[vVolume x0 x1 x2 a0 n0 c0, .int .i64 k] w fun e w' => e = .returned (.int .i64 (k + (n0 : Int))) ∧ Ow a0 b0 n0 (fun j => k + j) w' ∧ Kept b0 w w' := by
  have hA : Below w.heap.size w (w.alloc (.cells #[.int .i64 x0, .int .i64 x1, .int .i64 x2, .slice a0 n0 c0] 29)) := bnew _ _
  have hc := mark_any a0 b0 n0 c0 f0 k g0 g1 hl0 _ (h0.below' hA)
  have HA : Hid (Kept b0 w (w.alloc (.cells #[.int .i64 x0, .int .i64 x1, .int .i64 x2, .slice a0 n0 c0] 29))) := Kept.of_below hA
  clear h0 hA
  go_enter Try.func13, Try.ntmps13
  go_wp2_with fail
  refine hc.mono ?_
  rintro e w1 ⟨rfl, ho, hk, hs⟩
  have HK := HA.out.trans hk
  clear hc hk
  go_wp2_with fail
  go_ret
  exact ⟨rfl, ho, HK⟩

theorem heldVolume_any (x0 x1 x2 : Int) (a0 : Option Addr) (b0 n0 c0 : Nat) (hl0 : n0 ≤ 1048576) (k : Int) (g0 : 0 ≤ k) (g1 : k ≤ 4194304) (w : World) (h0 : Ow a0 b0 n0 (fun j => k + j) w) :
    Calls Try.prog 15 #[vVolume x0 x1 x2 a0 n0 c0, .int .i64 k] w fun e w' => e = .returned (.int .i64 (k + (n0 : Int))) ∧ Below w.heap.size w w' := by
  have hA : Below w.heap.size w (w.alloc (.cells #[.int .i64 x0, .int .i64 x1, .int .i64 x2, .slice a0 n0 c0] 29)) := bnew _ _
  have hc := held_any a0 b0 n0 c0 k g0 g1 hl0 _ (h0.below' hA)
  have HA : Hid (Below w.heap.size w (w.alloc (.cells #[.int .i64 x0, .int .i64 x1, .int .i64 x2, .slice a0 n0 c0] 29))) := hA
  have hn : ¬ k + (n0 : Int) < 0 := by omega
  clear h0 hA
  go_enter Try.func15, Try.ntmps15
  go_wp2_with fail
  refine hc.mono ?_
  rintro e w1 ⟨rfl, rfl⟩
  clear hc
  go_wp2_with fail
  go_ret
  exact ⟨rfl, HA.out⟩

set_option maxHeartbeats 4000000 in
theorem toVolume_any (x0 x1 x2 : Int) (a0 : Option Addr) (n0 c0 : Nat) (f0 : Nat → Int) (hl0 : n0 ≤ 1048576) (w : World) (h0 : Px a0 n0 f0 w) :
    Calls Try.prog 8 #[vVolume x0 x1 x2 a0 n0 c0] w fun e w' => ∃ b0, e = .returned (vVolume x0 x1 x2 (some ⟨b0, 0, none⟩) n0 n0) ∧ w.heap.size ≤ b0 ∧ Row b0 n0 f0 w' ∧ Below w.heap.size w w' := by
  have HS0 := hide ((((St.start w).box [.int .i64 x0, .int .i64 x1, .int .i64 x2, .slice a0 n0 c0] 24).box' [.int .i64 0, .int .i64 0, .int .i64 0, .slice none 0 0] 29 (b := w.heap.size + 1) (by simp)).box' [.int .i64 x0, .int .i64 x1, .int .i64 x2, .slice none 0 0] 29 (b := w.heap.size + 2) (by simp))
  generalize hA : ((w.alloc (.cells [.int .i64 x0, .int .i64 x1, .int .i64 x2, .slice a0 n0 c0].toArray 24)).alloc (.cells [.int .i64 0, .int .i64 0, .int .i64 0, .slice none 0 0].toArray 29)).alloc (.cells [.int .i64 x0, .int .i64 x1, .int .i64 x2, .slice none 0 0].toArray 29) = wA at HS0
  have hA' : ((w.alloc (.cells #[.int .i64 x0, .int .i64 x1, .int .i64 x2, .slice a0 n0 c0] 24)).alloc (.cells #[.int .i64 0, .int .i64 0, .int .i64 0, .slice none 0 0] 29)).alloc (.cells #[.int .i64 x0, .int .i64 x1, .int .i64 x2, .slice none 0 0] 29) = wA := hA
  clear hA
  have HP0 := hide h0
  have cT0 := fun w' h => toInts_any a0 n0 c0 f0 hl0 w' h
  clear h0
  obtain ⟨i0, i1, i2, i3⟩ := HS0.out.im4 2 rfl
  go_enter Try.func8, Try.ntmps8
  go_wp2_with fail
  refine (cT0 _ (HP0.out.below HS0.out.below)).mono ?_
  rintro e u0 ⟨rfl, hr, hb, hs0⟩
  have HU0 := hide (HS0.out.own hb hr.v (.inr (Nat.le_refl _)))
  have hsz0 := HS0.out.below.size
  clear hb hr hA' cT0 HS0 i0 i1 i2 i3
  generalize wA.heap.size = b0 at *
  obtain ⟨i0, i1, i2, i3⟩ := HU0.out.im4 2 rfl
  obtain ⟨c0, c1, c2, c3⟩ := HU0.out.im4 0 rfl
  obtain ⟨e0, e1, e2, e3⟩ := HU0.out.fr4 0 rfl
  obtain ⟨d0, d1, d2, d3⟩ := HU0.out.im4 1 rfl
  obtain ⟨g0, g1, g2, g3⟩ := HU0.out.fr4 1 rfl
  have HF0 := hide (St.fill (L1 := []) HU0.out 3 (.slice (some ⟨b0, 0, none⟩) n0 n0))
  have HE := hide (St.fill (L1 := [_]) (St.fill (L1 := [_]) (St.fill (L1 := [_]) (St.fill (L1 := [_]) HF0.out 0 (.int .i64 x0)) 1 (.int .i64 x1)) 2 (.int .i64 x2)) 3 (.slice (some ⟨b0, 0, none⟩) n0 n0))
  clear HU0 HF0
  go_wp2_with fail
  exact bodyPost_ret (v := vVolume x0 x1 x2 (some ⟨b0, 0, none⟩) n0 n0) (by simp [results, Try.results8, go_sem, d0, d1, d2, d3]) rfl ⟨b0, rfl, (by omega), ((HE.out.nthO 0 rfl).i).row, HE.out.below⟩
end Go.Proofs.Ytpbeogepgjbacaa

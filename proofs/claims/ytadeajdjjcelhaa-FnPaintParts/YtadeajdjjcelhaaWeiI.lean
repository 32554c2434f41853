/- Weighing an image: the specification and the program give the same three sums. -/
import Derived.Test.YtadeajdjjcelhaaWeigh
import Derived.Test.YtadeajdjjcelhaaOkI
namespace Go.Proofs.Ytadeajdjjcelhaa
open Go.RowKit

set_option maxHeartbeats 1000000 in
theorem implWeigh_any (W H : Int) (a : Option Addr) (len cap : Nat) (f : Nat → Int) (hl : len ≤ 1048576) (w : World) (h : Px a len f w) :
    Calls Try.prog 17 #[im W H a len cap] w fun e w' => e = .returned (.tuple #[.int .i64 (weight W H len f).1, .int .i64 (weight W H len f).2.1, .int .i64 (weight W H len f).2.2]) ∧ Below w.heap.size w w' := by
  have hB : Below w.heap.size w (w.alloc (.cells #[.int .i64 W, .int .i64 H, .slice a len cap] 29)) := (Below.refl _ _).alloc (Nat.le_refl _) _
  have ho := implOk_any W H a len cap f hl _ (h.below hB)
  have HP : Hid (Px a len f w) := h
  have HB : Hid (Below w.heap.size w (w.alloc (.cells #[.int .i64 W, .int .i64 H, .slice a len cap] 29))) := hB
  clear hB h
  cases hq : okB W H len f
  · have hr : weight W H len f = (0, 0, 0) := by unfold weight; rw [hq]; rfl
    rw [hr]
    rw [hq] at ho
    clear hq hr
    go_enter Try.func17, Try.ntmps17
    go_wp2_with fail
    refine ho.mono ?_
    rintro e w1 ⟨rfl, hb⟩
    have HB1 : Hid (Below w.heap.size w w1) := HB.out.trans (hb.mono (by simp))
    clear ho hb
    go_wp2_with fail
    go_ret3
    exact ⟨rfl, HB1.out⟩
  · have hr : weight W H len f = sums W f len := by unfold weight; rw [hq]; rfl
    rw [hr]
    rw [hq] at ho
    obtain ⟨q1, q2, q3, q4⟩ := okB_parts hq
    obtain ⟨w0, w9⟩ := side_bounds q1
    have hW0 : (W == 0) = false := by simp; omega
    clear hq hr q1 q2 q3 q4
    go_enter Try.func17, Try.ntmps17
    go_wp2_with fail
    refine ho.mono ?_
    rintro e w1 ⟨rfl, hb⟩
    have HB1 : Hid (Below w.heap.size w w1) := HB.out.trans (hb.mono (by simp))
    have HP1 : Hid (Px a len f w1) := HP.out.below HB1.out
    have c0 := hb.cell (p := ⟨w.heap.size, 0, none⟩) (by simp)
    have c1 := hb.cell (p := ⟨w.heap.size, 1, none⟩) (by simp)
    have c2 := hb.cell (p := ⟨w.heap.size, 2, none⟩) (by simp)
    simp [go_sem] at c0 c1 c2
    clear ho hb HP HB
    go_wp2_with fail
    go_loop [5, 6, 7, 8, 9, 16] (fun s x y _ _ i => ∃ k : Nat, k ≤ len ∧ i = .int .i64 k ∧ s = .int .i64 (sums W f k).1 ∧ x = .int .i64 (sums W f k).2.1 ∧ y = .int .i64 (sums W f k).2.2) (fun _ _ _ _ _ i => len - (intOf i).toNat)
    case atStart => exact ⟨0, by omega, rfl, rfl, rfl, rfl⟩
    case round =>
      obtain ⟨k, hk, rfl, rfl, rfl, rfl⟩ := hrel
      by_cases hlt : k < len
      · obtain ⟨b, off, rfl, hz⟩ := HP1.out.at hlt
        clear HP1
        go_wp2
        exact ⟨⟨k + 1, by omega, rfl, rfl, rfl, rfl⟩, by simp [intOf]; omega⟩
      · obtain rfl : k = len := by omega
        go_wp2
        go_ret3
        exact ⟨rfl, HB1.out⟩

set_option maxHeartbeats 1000000 in
theorem specWeigh_any (W H : Int) (a : Option Addr) (len cap : Nat) (f : Nat → Int) (hl : len ≤ 1048576) (w : World) (h : Px a len f w) :
    Calls Try.prog 34 #[im W H a len cap] w fun e w' => e = .returned (.tuple #[.int .i64 (weight W H len f).1, .int .i64 (weight W H len f).2.1, .int .i64 (weight W H len f).2.2]) ∧ Below w.heap.size w w' := by
  have hB : Below w.heap.size w (w.alloc (.cells #[.int .i64 W, .int .i64 H, .slice a len cap] 29)) := (Below.refl _ _).alloc (Nat.le_refl _) _
  have ho := specOk_any W H a len cap f hl _ (h.below hB)
  have HP : Hid (Px a len f w) := h
  have HB : Hid (Below w.heap.size w (w.alloc (.cells #[.int .i64 W, .int .i64 H, .slice a len cap] 29))) := hB
  clear hB h
  cases hq : okB W H len f
  · have hr : weight W H len f = (0, 0, 0) := by unfold weight; rw [hq]; rfl
    rw [hr]
    rw [hq] at ho
    clear hq hr
    go_enter Try.func34, Try.ntmps34
    go_wp2_with fail
    refine ho.mono ?_
    rintro e w1 ⟨rfl, hb⟩
    have HB1 : Hid (Below w.heap.size w w1) := HB.out.trans (hb.mono (by simp))
    clear ho hb
    go_wp2_with fail
    go_ret3
    exact ⟨rfl, HB1.out⟩
  · have hr : weight W H len f = sums W f len := by unfold weight; rw [hq]; rfl
    rw [hr]
    rw [hq] at ho
    obtain ⟨q1, q2, q3, q4⟩ := okB_parts hq
    obtain ⟨w0, w9⟩ := side_bounds q1
    obtain ⟨p1, p2⟩ := prod_bounds q1 q2
    have hw : IntKind.i64.wrap (W * H) = (len : Int) := by rw [IntKind.wrap_i64, q3]; omega
    have hW0 : (W == 0) = false := by simp; omega
    clear hq hr q1 q2 q3 q4
    go_enter Try.func34, Try.ntmps34
    go_wp2_with fail
    refine ho.mono ?_
    rintro e w1 ⟨rfl, hb⟩
    have HB1 : Hid (Below w.heap.size w w1) := HB.out.trans (hb.mono (by simp))
    have HP1 : Hid (Px a len f w1) := HP.out.below HB1.out
    have c0 := hb.cell (p := ⟨w.heap.size, 0, none⟩) (by simp)
    have c1 := hb.cell (p := ⟨w.heap.size, 1, none⟩) (by simp)
    have c2 := hb.cell (p := ⟨w.heap.size, 2, none⟩) (by simp)
    simp [go_sem] at c0 c1 c2
    clear ho hb HP HB
    go_wp2_with fail
    go_loopw [5, 6, 7, 8] (fun s x y i wr => (∃ n, wr = w1.drewN n) ∧ ∃ k : Nat, k ≤ len ∧ i = .int .i64 k ∧ s = .int .i64 (sums W f k).1 ∧ x = .int .i64 (sums W f k).2.1 ∧ y = .int .i64 (sums W f k).2.2) (fun _ _ _ i _ => len - (intOf i).toNat)
    case atStart => exact ⟨⟨0, rfl⟩, 0, by omega, rfl, rfl, rfl, rfl⟩
    case round =>
      obtain ⟨⟨n, rfl⟩, k, hk, rfl, rfl, rfl, rfl⟩ := hrel
      by_cases hlt : k < len
      · obtain ⟨b, off, rfl, hz⟩ := HP1.out.at hlt
        clear HP1
        go_wp2
        go_quiet (fail)
        go_wp2
        go_quiet (fail)
        go_wp2
        exact ⟨⟨⟨_, rfl⟩, k + 1, by omega, rfl, rfl, rfl, rfl⟩, by simp [intOf]; omega⟩
      · obtain rfl : k = len := by omega
        go_wp2
        go_ret3
        exact ⟨rfl, below_drewN HB1.out _⟩

end Go.Proofs.Ytadeajdjjcelhaa

/- Weights of an image: the program and the specification. -/
import Derived.Test.YtkjaemnnjfflfaaWgh
import Derived.BigQuiet
import Derived.Deep.QuietTactic
namespace Go.Proofs.Ytkjaemnnjfflfaa
open Go.RowKit

set_option maxRecDepth 100000 in
set_option maxHeartbeats 4000000 in
theorem implWeigh_any (W H : Int) (a : Option Addr) (n cap : Nat) (f : Nat → Int) (hl : n ≤ 1048576) (w : World) (h : Px a n f w) :
    Calls Try.prog 13 #[im W H a n cap] w fun e w' => e = .returned (.tuple #[.int .i64 (wgI W H n f (wgA f n)), .int .i64 (wgI W H n f (wgX W f n)), .int .i64 (wgI W H n f (wgY W f n))]) ∧ Below w.heap.size w w' := by
  have HS0 := hide ((St.start w).box [.int .i64 W, .int .i64 H, .slice a n cap] 26)
  have c := implOk_any W H a n cap f hl _ (h.below HS0.out.below)
  have HP := hide h
  unfold wgI
  clear h
  cases hq : okB W H n f
  · rw [hq] at c
    simp only [Bool.false_eq_true, if_false]
    clear hq HP
    go_enter Try.func13, Try.ntmps13
    go_wp2_with fail
    refine c.mono ?_
    rintro e w1 ⟨rfl, hb⟩
    have HS1 := hide (HS0.out.next hb)
    clear hb HS0 c
    go_wp2_with fail
    exact bodyPost_ret (v := .tuple #[.int .i64 0, .int .i64 0, .int .i64 0]) (by simp [results, Try.results13, go_sem]) rfl ⟨rfl, HS1.out.below⟩
  rw [hq] at c
  simp only [if_true]
  obtain ⟨hW, hH, hn, hn4, hall⟩ := wgOk hq
  have HB := hide (wgB (W := W) hW hn4 (allB_at' hall))
  have HF := hide (allB_at' hall)
  have HN := hide hn
  clear hq hall hn
  have hWH : IntKind.i64.wrap (W * H) = (n : Int) := by have := HN.out; rw [IntKind.wrap_i64]; omega
  go_enter Try.func13, Try.ntmps13
  go_wp2_with fail
  refine c.mono ?_
  rintro e w1 ⟨rfl, hb⟩
  have HS1 := hide (HS0.out.next hb)
  obtain ⟨i0, i1, i2⟩ := HS1.out.im3 0 rfl
  clear hb HS0 c
  go_wp2_with fail
  clear i0 i1 i2
  go_loopw [5, 6, 7, 16] (fun va vx vy i wr => ∃ k : Nat, k ≤ n ∧ i = .int .i64 k ∧ va = .int .i64 (wgA f k) ∧ vx = .int .i64 (wgX W f k) ∧ vy = .int .i64 (wgY W f k) ∧ St w [(w.heap.size, [.int .i64 W, .int .i64 H, .slice a n cap])] [] wr) (fun _ _ _ i _ => n - (intOf i).toNat)
  case atStart => exact ⟨0, by omega, rfl, rfl, rfl, rfl, HS1.out⟩
  case round =>
    obtain ⟨k, hk, rfl, rfl, rfl, rfl, hs⟩ := hrel
    have HS := hide hs
    clear hs HS1
    obtain ⟨i0, i1, i2⟩ := HS.out.im3 0 rfl
    by_cases hlt : k < n
    · obtain ⟨b, off, rfl, hy⟩ := (HP.out.below HS.out.below).at hlt
      obtain ⟨pA, pX, pY⟩ := HB.out k hk
      obtain ⟨q1, q2⟩ := wg_part hW (k := k) (by omega)
      have hf := HF.out k hlt
      have m1 := mul64 q1.1 q1.2 hf.1 hf.2
      have m2 := mul64 q2.1 q2.2 hf.1 hf.2
      have HA : Hid (wgA f (k + 1) = wgA f k + f k) := rfl
      have HX : Hid (wgX W f (k + 1) = wgX W f k + (k : Int) % W * f k) := rfl
      have HY : Hid (wgY W f (k + 1) = wgY W f k + (k : Int) / W * f k) := rfl
      have e1 : (k : Int).tmod W = (k : Int) % W := Int.tmod_eq_emod_of_nonneg (by omega)
      have e2 : (k : Int).tdiv W = (k : Int) / W := Int.tdiv_eq_ediv_of_nonneg (by omega)
      have hW0 : W ≠ 0 := by omega
      have hlt' : (k : Int) < (n : Int) := by omega
      generalize (k : Int) % W = r at *
      generalize (k : Int) / W = s at *
      generalize wgA f k = A at *
      generalize wgX W f k = XX at *
      generalize wgY W f k = YY at *
      generalize f k = v at *
      obtain ⟨P, hP⟩ : ∃ P, r * v = P := ⟨_, rfl⟩
      obtain ⟨Q, hQ⟩ : ∃ Q, s * v = Q := ⟨_, rfl⟩
      rw [hP] at m1 HX
      rw [hQ] at m2 HY
      have u1 : IntKind.i64.wrap (A + v) = A + v := by rw [IntKind.wrap_i64]; omega
      have u2 : IntKind.i64.wrap (r * v) = P := by rw [hP, IntKind.wrap_i64]; omega
      have u3 : IntKind.i64.wrap (s * v) = Q := by rw [hQ, IntKind.wrap_i64]; omega
      have u4 : IntKind.i64.wrap (XX + P) = XX + P := by rw [IntKind.wrap_i64]; omega
      have u5 : IntKind.i64.wrap (YY + Q) = YY + Q := by rw [IntKind.wrap_i64]; omega
      have u6 : IntKind.i64.wrap s = s := by rw [IntKind.wrap_i64]; omega
      clear hP hQ m1 m2 q1 q2 pA pX pY HB HF HN HP hf
      go_wp2_with fail
      exact ⟨⟨k + 1, by omega, by go_num, by rw [HA.out], by rw [HX.out], by rw [HY.out], by first | exact HS.out | exact HS.out.next (below_drewN (below_drewN (Below.refl _ _) _) _) | exact HS.out.next (below_drewN (Below.refl _ _) _)⟩, by simp [intOf]; omega⟩
    · obtain rfl : k = n := by omega
      have hlt' : ¬ (k : Int) < (k : Int) := by omega
      clear HB HF HN HP
      go_wp2_with fail
      exact bodyPost_ret (v := .tuple #[.int .i64 (wgA f k), .int .i64 (wgX W f k), .int .i64 (wgY W f k)]) (by simp [results, Try.results13, go_sem]) rfl ⟨rfl, HS.out.below⟩


set_option maxRecDepth 100000 in
set_option maxHeartbeats 4000000 in
theorem specWeigh_any (W H : Int) (a : Option Addr) (n cap : Nat) (f : Nat → Int) (hl : n ≤ 1048576) (w : World) (h : Px a n f w) :
    Calls Try.prog 12 #[im W H a n cap] w fun e w' => e = .returned (.tuple #[.int .i64 (wgI W H n f (wgA f n)), .int .i64 (wgI W H n f (wgX W f n)), .int .i64 (wgI W H n f (wgY W f n))]) ∧ Below w.heap.size w w' := by
  have HS0 := hide ((St.start w).box [.int .i64 W, .int .i64 H, .slice a n cap] 26)
  have c := specOk_any W H a n cap f hl _ (h.below HS0.out.below)
  have HP := hide h
  unfold wgI
  clear h
  cases hq : okB W H n f
  · rw [hq] at c
    simp only [Bool.false_eq_true, if_false]
    clear hq HP
    go_enter Try.func12, Try.ntmps12
    go_wp2_with fail
    refine c.mono ?_
    rintro e w1 ⟨rfl, hb⟩
    have HS1 := hide (HS0.out.next hb)
    clear hb HS0 c
    go_wp2_with fail
    exact bodyPost_ret (v := .tuple #[.int .i64 0, .int .i64 0, .int .i64 0]) (by simp [results, Try.results12, go_sem]) rfl ⟨rfl, HS1.out.below⟩
  rw [hq] at c
  simp only [if_true]
  obtain ⟨hW, hH, hn, hn4, hall⟩ := wgOk hq
  have HB := hide (wgB (W := W) hW hn4 (allB_at' hall))
  have HF := hide (allB_at' hall)
  have HN := hide hn
  clear hq hall hn
  have hWH : IntKind.i64.wrap (W * H) = (n : Int) := by have := HN.out; rw [IntKind.wrap_i64]; omega
  go_enter Try.func12, Try.ntmps12
  go_wp2_with fail
  refine c.mono ?_
  rintro e w1 ⟨rfl, hb⟩
  have HS1 := hide (HS0.out.next hb)
  obtain ⟨i0, i1, i2⟩ := HS1.out.im3 0 rfl
  clear hb HS0 c
  go_wp2_with fail
  clear i0 i1 i2
  go_loopw [5, 6, 7, 8] (fun va vx vy i wr => ∃ k : Nat, k ≤ n ∧ i = .int .i64 k ∧ va = .int .i64 (wgA f k) ∧ vx = .int .i64 (wgX W f k) ∧ vy = .int .i64 (wgY W f k) ∧ St w [(w.heap.size, [.int .i64 W, .int .i64 H, .slice a n cap])] [] wr) (fun _ _ _ i _ => n - (intOf i).toNat)
  case atStart => exact ⟨0, by omega, rfl, rfl, rfl, rfl, HS1.out⟩
  case round =>
    obtain ⟨k, hk, rfl, rfl, rfl, rfl, hs⟩ := hrel
    have HS := hide hs
    clear hs HS1
    obtain ⟨i0, i1, i2⟩ := HS.out.im3 0 rfl
    by_cases hlt : k < n
    · obtain ⟨b, off, rfl, hy⟩ := (HP.out.below HS.out.below).at hlt
      obtain ⟨pA, pX, pY⟩ := HB.out k hk
      obtain ⟨q1, q2⟩ := wg_part hW (k := k) (by omega)
      have hf := HF.out k hlt
      have m1 := mul64 q1.1 q1.2 hf.1 hf.2
      have m2 := mul64 q2.1 q2.2 hf.1 hf.2
      have HA : Hid (wgA f (k + 1) = wgA f k + f k) := rfl
      have HX : Hid (wgX W f (k + 1) = wgX W f k + (k : Int) % W * f k) := rfl
      have HY : Hid (wgY W f (k + 1) = wgY W f k + (k : Int) / W * f k) := rfl
      have e1 : (k : Int).tmod W = (k : Int) % W := Int.tmod_eq_emod_of_nonneg (by omega)
      have e2 : (k : Int).tdiv W = (k : Int) / W := Int.tdiv_eq_ediv_of_nonneg (by omega)
      have hW0 : W ≠ 0 := by omega
      have hlt' : (k : Int) < (n : Int) := by omega
      generalize (k : Int) % W = r at *
      generalize (k : Int) / W = s at *
      generalize wgA f k = A at *
      generalize wgX W f k = XX at *
      generalize wgY W f k = YY at *
      generalize f k = v at *
      obtain ⟨P, hP⟩ : ∃ P, r * v = P := ⟨_, rfl⟩
      obtain ⟨Q, hQ⟩ : ∃ Q, s * v = Q := ⟨_, rfl⟩
      rw [hP] at m1 HX
      rw [hQ] at m2 HY
      have u1 : IntKind.i64.wrap (A + v) = A + v := by rw [IntKind.wrap_i64]; omega
      have u2 : IntKind.i64.wrap (r * v) = P := by rw [hP, IntKind.wrap_i64]; omega
      have u3 : IntKind.i64.wrap (s * v) = Q := by rw [hQ, IntKind.wrap_i64]; omega
      have u4 : IntKind.i64.wrap (XX + P) = XX + P := by rw [IntKind.wrap_i64]; omega
      have u5 : IntKind.i64.wrap (YY + Q) = YY + Q := by rw [IntKind.wrap_i64]; omega
      have u6 : IntKind.i64.wrap s = s := by rw [IntKind.wrap_i64]; omega
      clear hP hQ m1 m2 q1 q2 pA pX pY HB HF HN HP hf
      go_wp2_with fail
      go_quiet (fail)
      go_wp2_with fail
      go_quiet (fail)
      go_wp2_with fail
      exact ⟨⟨k + 1, by omega, by go_num, by rw [HA.out], by rw [HX.out], by rw [HY.out], by first | exact HS.out | exact HS.out.next (below_drewN (below_drewN (Below.refl _ _) _) _) | exact HS.out.next (below_drewN (Below.refl _ _) _)⟩, by simp [intOf]; omega⟩
    · obtain rfl : k = n := by omega
      have hlt' : ¬ (k : Int) < (k : Int) := by omega
      clear HB HF HN HP
      go_wp2_with fail
      exact bodyPost_ret (v := .tuple #[.int .i64 (wgA f k), .int .i64 (wgX W f k), .int .i64 (wgY W f k)]) (by simp [results, Try.results12, go_sem]) rfl ⟨rfl, HS.out.below⟩


end Go.Proofs.Ytkjaemnnjfflfaa

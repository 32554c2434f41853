/- cmp.Compare of two numbers, cmp.Or of two. -/
import Derived.Test.YtfpcenaaenondaaIls
namespace Go.Proofs.Ytfpcenaaenondaa
open Go.RowKit

/-- how two numbers stand to each other -/
def cmpI (v u : Int) : Int := if v < u then -1 else if u < v then 1 else 0

theorem isNaN_any (x : Int) (w : World) : Calls Try.prog 42 #[.int .i64 x] w fun e w' => e = .returned (.bool false) ∧ w' = w := by
  have q : (x != x) = false := by simp
  go_enter Try.func42, Try.ntmps42
  go_wp2
  go_ret
  exact ⟨rfl, rfl⟩
theorem cmpCompare_any (v u : Int) (w : World) : Calls Try.prog 30 #[.int .i64 v, .int .i64 u] w fun e w' => e = .returned (.int .i64 (cmpI v u)) ∧ w' = w := by
  have c1 := isNaN_any v w
  have c2 := isNaN_any u w
  unfold cmpI
  by_cases h1 : v < u
  · rw [if_pos h1]
    go_enter Try.func30, Try.ntmps30
    go_wp2_with fail
    refine c1.mono ?_
    rintro e w1 ⟨rfl, rfl⟩
    go_wp2_with fail
    refine c2.mono ?_
    rintro e w1 ⟨rfl, rfl⟩
    go_wp2_with fail
    go_ret
    exact ⟨rfl, rfl⟩
  · rw [if_neg h1]
    by_cases h2 : u < v
    · rw [if_pos h2]
      go_enter Try.func30, Try.ntmps30
      go_wp2_with fail
      refine c1.mono ?_
      rintro e w1 ⟨rfl, rfl⟩
      go_wp2_with fail
      refine c2.mono ?_
      rintro e w1 ⟨rfl, rfl⟩
      go_wp2_with fail
      go_ret
      exact ⟨rfl, rfl⟩
    · rw [if_neg h2]
      go_enter Try.func30, Try.ntmps30
      go_wp2_with fail
      refine c1.mono ?_
      rintro e w1 ⟨rfl, rfl⟩
      go_wp2_with fail
      refine c2.mono ?_
      rintro e w1 ⟨rfl, rfl⟩
      go_wp2_with fail
      go_ret
      exact ⟨rfl, rfl⟩
theorem cmpOr_any (b cap : Nat) (x y : Int) (w : World) (h0 : w.cell? ⟨b, 0, none⟩ = some (.int .i64 x)) (h1 : w.cell? ⟨b, 1, none⟩ = some (.int .i64 y)) :
    Calls Try.prog 29 #[.slice (some ⟨b, 0, none⟩) 2 cap] w fun e w' => e = .returned (.int .i64 (if x = 0 then y else x)) ∧ w' = w := by
  have HR : Hid ((x ≠ 0 → (if x = 0 then y else x) = x) ∧ (x = 0 → (if x = 0 then y else x) = y)) := ⟨fun h => if_neg h, fun h => if_pos h⟩
  generalize (if x = 0 then y else x) = R at *
  go_enter Try.func29, Try.ntmps29
  go_wp2
  go_loopw [5, 8] (fun _ i wr => ∃ j : Nat, j ≤ 2 ∧ i = .int .i64 j ∧ Hid ((0 < j → x = 0) ∧ (1 < j → y = 0)) ∧ wr = w) (fun _ i _ => 2 - (intOf i).toNat)
  case atStart => exact ⟨0, by omega, rfl, ⟨fun h => absurd h (by omega), fun h => absurd h (by omega)⟩, rfl⟩
  case round =>
    obtain ⟨j, hj, rfl, HA, rfl⟩ := hrel
    obtain rfl | rfl | rfl : j = 0 ∨ j = 1 ∨ j = 2 := by omega
    · by_cases hx : x = 0
      · have HX := hide hx
        have q : (x != 0) = false := by simp [hx]
        clear hx
        go_wp2_with fail
        go_roundw
        case rel => exact ⟨1, by omega, by go_num, ⟨fun _ => HX.out, fun h => absurd h (by omega)⟩, trivial⟩
        case measure => simp [intOf]
      · have q : (x != 0) = true := by simp [hx]
        have HX := hide (HR.out.1 hx)
        clear hx
        go_wp2_with fail
        go_ret
        exact ⟨by rw [HX.out]; rfl, rfl⟩
    · have HX := hide (HA.out.1 (by omega))
      by_cases hy : y = 0
      · have HY := hide hy
        have q : (y != 0) = false := by simp [hy]
        clear hy
        go_wp2_with fail
        go_roundw
        case rel => exact ⟨2, by omega, by go_num, ⟨fun _ => HX.out, fun _ => HY.out⟩, trivial⟩
        case measure => simp [intOf]
      · have q : (y != 0) = true := by simp [hy]
        have HE := hide (HR.out.2 HX.out)
        clear hy
        go_wp2_with fail
        go_ret
        exact ⟨by rw [HE.out]; rfl, rfl⟩
    · have HX := hide (HA.out.1 (by omega))
      have HY := hide (HA.out.2 (by omega))
      have HE := hide (HR.out.2 HX.out)
      clear HA
      go_wp2_with fail
      go_ret
      exact ⟨by rw [HE.out, HY.out]; rfl, rfl⟩

end Go.Proofs.Ytfpcenaaenondaa

/- Marks in lists of pairs of floats. -/
import Derived.Test.YtfgjooddolnifaaFls
namespace Go.Proofs.Ytfgjooddolnifaa
open Ieee Go.RowKit
attribute [local go_sem] run_store_float alloc_drewN setCell_drewN shape?_drewN

set_option maxHeartbeats 1000000 in
theorem markCxS_any (a : Option Addr) (b len cap : Nat) (F : Nat → Nat) (k : Int) (h0 : 0 ≤ k) (h1 : k ≤ 4194304) (hl : len ≤ 1048576) (w : World) (h : OwV a b (len * 2) (flt F) w) :
    Calls Try.prog 19 #[.slice a len cap, .int .i64 k] w fun e w' => e = .returned (.int .i64 (k + ((len * 2 : Nat) : Int))) ∧ OwV a b (len * 2) (flt fun j => fmk (k + j)) w' ∧ Kept b w w' := by
  go_enter Try.func19, Try.ntmps19
  go_wp2
  go_loopw [1, 5] (fun m i wr => ∃ j : Nat, j ≤ len ∧ i = .int .i64 j ∧ m = .int .i64 (k + (j : Int) * 2) ∧ Kept b w wr ∧ (len = 0 ∨ (a = some ⟨b, 0, none⟩ ∧ PartP b (len * 2) (j * 2) (fun j z => z = fmk (k + j)) wr))) (fun _ i _ => len - (intOf i).toNat)
  case atStart =>
    refine ⟨0, by omega, rfl, by simp, Kept.refl _ _, ?_⟩
    rcases h with h | ⟨ha, h⟩
    · exact .inl (by omega)
    · exact .inr ⟨ha, RowV.partP h⟩
  case round =>
    obtain ⟨j, hj, rfl, rfl, hk, hp⟩ := hrel
    clear h
    by_cases hlt : j < len
    · obtain ⟨ha, hq⟩ : a = some ⟨b, 0, none⟩ ∧ PartP b (len * 2) (j * 2) (fun j z => z = fmk (k + j)) wr := by
        rcases hp with hp | hp
        · omega
        · exact hp
      clear hp
      subst ha
      obtain ⟨⟨y, hy, _⟩, fr⟩ := hq (j * 2) (by omega)
      obtain ⟨⟨y', hy', _⟩, fr'⟩ := hq (j * 2 + 1) (by omega)
      have HP := hide ((hq.step (by omega) (floatOfInt .f64 (k + (j : Int) * 2)) (congrArg fmk (by omega))).step (by omega) (floatOfInt .f64 (k + (j : Int) * 2 + 1)) (congrArg fmk (by omega)))
      have HK : Hid (Kept b w ((World.setCell _ ⟨b, j * 2, none⟩ (.float .f64 (floatOfInt .f64 (k + (j : Int) * 2)))).setCell ⟨b, j * 2 + 1, none⟩ (.float .f64 (floatOfInt .f64 (k + (j : Int) * 2 + 1))))) := (hk.setCell rfl _).setCell rfl _
      clear hq hk
      go_wp2
      exact ⟨⟨j + 1, by omega, rfl, by congr 1; omega, HK.out, .inr ⟨trivial, by rw [show (j + 1) * 2 = j * 2 + 1 + 1 from by omega]; exact HP.out⟩⟩, by simp [intOf]; omega⟩
    · obtain rfl : j = len := by omega
      go_wp2
      go_ret
      refine ⟨by first | rfl | (congr 2), ?_, hk⟩
      rcases hp with hp | ⟨ha, hp⟩
      · exact .inl (by omega)
      · exact .inr ⟨ha, hp.rowE⟩

set_option maxHeartbeats 1000000 in
theorem heldCxS_any (a : Option Addr) (b len cap : Nat) (k : Int) (h0 : 0 ≤ k) (h1 : k ≤ 4194304) (hl : len ≤ 1048576) (w : World) (h : OwV a b (len * 2) (flt fun j => fmk (k + j)) w) :
    Calls Try.prog 37 #[.slice a len cap, .int .i64 k] w fun e w' => e = .returned (.int .i64 (k + ((len * 2 : Nat) : Int))) ∧ w' = w := by
  have HO := hide h
  clear h
  go_enter Try.func37, Try.ntmps37
  go_wp2
  go_loop [1, 5] (fun m i => ∃ j : Nat, j ≤ len ∧ i = .int .i64 j ∧ m = .int .i64 (k + (j : Int) * 2)) (fun _ i => len - (intOf i).toNat)
  case atStart => exact ⟨0, by omega, rfl, by simp⟩
  case round =>
    obtain ⟨j, hj, rfl, rfl⟩ := hrel
    by_cases hlt : j < len
    · obtain ⟨ha, hq⟩ : a = some ⟨b, 0, none⟩ ∧ RowV b (len * 2) (flt fun j => fmk (k + j)) w := by
        rcases HO.out with hp | hp
        · omega
        · exact hp
      clear HO
      subst ha
      have hy : w.cell? ⟨b, j * 2, none⟩ = some (.float .f64 (floatOfInt .f64 (k + (j : Int) * 2))) := (hq (j * 2) (by omega)).1.trans (congrArg (fun z => some (Value.float .f64 (floatOfInt .f64 z))) (by omega))
      have hy' : w.cell? ⟨b, j * 2 + 1, none⟩ = some (.float .f64 (floatOfInt .f64 (k + (j : Int) * 2 + 1))) := (hq (j * 2 + 1) (by omega)).1.trans (congrArg (fun z => some (Value.float .f64 (floatOfInt .f64 z))) (by omega))
      have hne := fmk_self (k + (j : Int) * 2)
      have hne' := fmk_self (k + (j : Int) * 2 + 1)
      clear hq
      go_wp2
      exact ⟨⟨j + 1, by omega, rfl, by congr 1; omega⟩, by simp [intOf]; omega⟩
    · obtain rfl : j = len := by omega
      go_wp2
      go_ret
      exact ⟨by first | rfl | (congr 2), rfl⟩

/-- a list and its copy -/
theorem eqCxS_one (a a' : Option Addr) (len cap cap' : Nat) (F : Nat → Nat) (hl : len ≤ 1048576) (w : World) (h : PxV a (len * 2) (flt F) w) (h' : PxV a' (len * 2) (flt F) w) :
    Calls Try.prog 18 #[.slice a len cap, .slice a' len cap'] w fun e w' => e = .returned (.bool true) ∧ Below w.heap.size w w' :=
  eqCxS_any a a' len cap cap' F F hl (fun _ _ => same_rfl _) w h h'

end Go.Proofs.Ytfgjooddolnifaa

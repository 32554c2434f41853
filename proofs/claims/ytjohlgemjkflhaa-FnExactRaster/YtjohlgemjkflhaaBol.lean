/- Lists of truths in memory, and remainders. -/
import Derived.Test.YtjohlgemjkflhaaLst
namespace Go.Proofs.Ytjohlgemjkflhaa
open Go.RowKit

/-- a row of its own at block b holds these truths, and may be written -/
def RowB (b len : Nat) (f : Nat → Bool) (w : World) : Prop :=
  ∀ k, k < len → w.cell? ⟨b, k, none⟩ = some (.bool (f k)) ∧ w.frozen? ⟨b, k, none⟩ = false
theorem RowB.below {b len B : Nat} {f : Nat → Bool} {w w' : World} (h : RowB b len f w) (hb : Below B w w') (hB : b < B) : RowB b len f w' := fun k hk => by
  rw [hb.cell (p := ⟨b, k, none⟩) hB, hb.frozen (p := ⟨b, k, none⟩) hB]
  exact h k hk
theorem RowB.congr {b n : Nat} {f f' : Nat → Bool} {w : World} (h : RowB b n f w) (e : ∀ q, q < n → f q = f' q) : RowB b n f' w := fun q hq => by rw [← e q hq]; exact h q hq
theorem RowB.upd {b n : Nat} {f : Nat → Bool} {w : World} (h : RowB b n f w) {k : Nat} (hk : k < n) (z : Bool) : RowB b n (fun q => if q = k then z else f q) (w.setCell ⟨b, k, none⟩ (.bool z)) := by
  intro q hq
  refine ⟨?_, by simpa using (h q hq).2⟩
  by_cases e : q = k
  · subst e
    simp only [if_true]
    exact World.cell?_setCell_same _ _ _ (h q hq).1
  · simp only [if_neg e]
    rw [World.cell?_setCell_other _ _ _ _ (by simp; try omega)]
    exact (h q hq).1
theorem RowB.drew {b n : Nat} {f : Nat → Bool} {w : World} (h : RowB b n f w) : RowB b n f w.drew := fun q hq => by simpa [go_sem] using h q hq

theorem make_bools (n : Nat) (h : n ≤ 1048576) (w : World) :
    (Instr.makeSlice 35 (.int .i64 n) (.int .i64 n)).run Try.prog w = .ok (.slice (some ⟨w.heap.size, 0, none⟩) n n) (w.alloc (.cells (madeCells #[.bool false] n) 4)) := by
  have := run_make (P := Try.prog) w 35 4 _ (.bool false) Try.underlying35 rfl rfl .i64 .i64 n n (by omega) (by omega) (by show (1 : Int) * _ ≤ _; omega) (by omega)
  rw [this]
  show Result.ok (Value.slice _ (n : Int).toNat (n : Int).toNat) (w.alloc (.cells (madeCells (Value.cells (.bool false)) ((n : Int).toNat * 1)) 4)) = _
  rw [Int.toNat_natCast, Nat.mul_one]
  rfl

theorem made_bools (n k : Nat) (h : k < n) : (madeCells #[Value.bool false] n)[k]? = some (.bool false) := by
  unfold madeCells
  rw [Array.getElem?_map, Array.getElem?_range, if_pos h]
  show some ((#[Value.bool false] : Array Value)[k % 1]!) = _
  rw [Nat.mod_one]; rfl

theorem rowB_made (n : Nat) (w : World) : RowB w.heap.size n (fun _ => false) (w.alloc (.cells (madeCells #[.bool false] n) 4)) := by
  intro j hj
  have := made_bools n j hj
  exact ⟨by simp [go_sem, this], by simp [go_sem]⟩

/-- does one below n keep it -/
def anyG (p : Nat → Bool) : Nat → Bool
  | 0 => false
  | n + 1 => anyG p n || p n

theorem tmod_bd (x : Int) {m : Nat} (h : 1 ≤ m) : -(m : Int) < x.tmod m ∧ x.tmod m < m := by
  have h1 : x.tmod m < m := Int.tmod_lt_of_pos x (by omega)
  have h2 : -(m : Int) < x.tmod m := Int.lt_tmod_of_pos x (by omega)
  exact ⟨h2, h1⟩
theorem tmod_cases (x : Int) (m : Nat) : x.tmod m = x % m ∨ x.tmod m = x % m - m := by
  rw [Int.tmod_eq_emod]
  split
  · exact .inl (by omega)
  · exact .inr (by simp)
theorem emod_bd (x : Int) {m : Nat} (h : 1 ≤ m) : 0 ≤ x % (m : Int) ∧ x % (m : Int) < m := ⟨Int.emod_nonneg _ (by omega), Int.emod_lt_of_pos _ (by omega)⟩
theorem mod_spec (x : Int) {m : Nat} (h : 1 ≤ m) : (if x.tmod m < 0 then x.tmod m + m else x.tmod m) = x % m := by
  have := emod_bd x h
  rcases tmod_cases x m with e | e <;> rw [e]
  · rw [if_neg (by omega)]
  · rw [if_pos (by omega)]; omega
theorem mod_impl (x : Int) {m : Nat} (h : 1 ≤ m) : (x.tmod m + m).tmod m = x % m := by
  have := tmod_bd x h
  rw [Int.tmod_eq_emod_of_nonneg (by omega), Int.add_emod_right]
  rcases tmod_cases x m with e | e <;> rw [e]
  · exact Int.emod_emod_of_dvd _ (Int.dvd_refl _)
  · rw [Int.sub_emod_right]; exact Int.emod_emod_of_dvd _ (Int.dvd_refl _)

theorem l1In_any (n lo hi : Int) (w : World) :
    Calls Try.prog 15 #[.int .i64 n, .int .i64 lo, .int .i64 hi] w fun e w' => e = .returned (.bool (inB n lo hi)) ∧ w' = w := by
  unfold inB
  by_cases h1 : lo ≤ n <;> by_cases h2 : n ≤ hi
  all_goals
    go_enter Try.func15, Try.ntmps15
    go_wp2
    go_ret
    exact ⟨by simp [h1, h2], rfl⟩
theorem within_any (n lo hi : Int) (w : World) :
    Calls Try.prog 25 #[.int .i64 n, .int .i64 lo, .int .i64 hi] w fun e w' => e = .returned (.bool (inB n lo hi)) ∧ w' = w := by
  unfold inB
  by_cases h1 : lo ≤ n <;> by_cases h2 : n ≤ hi
  all_goals
    go_enter Try.func25, Try.ntmps25
    go_wp2
    go_ret
    exact ⟨by simp [h1, h2], rfl⟩
theorem isSide_any (n : Int) (w : World) :
    Calls Try.prog 18 #[.int .i64 n] w fun e w' => e = .returned (.bool (inB n 1 64)) ∧ w' = w := by
  have c := within_any n 1 64
  go_enter Try.func18, Try.ntmps18
  go_wp2_with fail
  refine (c _).mono ?_
  rintro e w1 ⟨rfl, rfl⟩
  go_wp2
  go_ret
  exact ⟨rfl, rfl⟩

theorem l1Mod_any (x : Int) (m : Nat) (h1 : 1 ≤ m) (h2 : m ≤ 64) (w : World) :
    Calls Try.prog 16 #[.int .i64 x, .int .i64 m] w fun e w' => e = .returned (.int .i64 (x % m)) ∧ w' = w := by
  have hs := mod_spec x h1
  have hb := tmod_bd x h1
  have hm0 : ((m : Int) == 0) = false := by simp; omega
  have hw : IntKind.i64.wrap (x.tmod m) = x.tmod m := by rw [IntKind.wrap_i64]; omega
  have hw2 : IntKind.i64.wrap (x.tmod m + m) = x.tmod m + m := by rw [IntKind.wrap_i64]; omega
  generalize x % (m : Int) = z at *
  by_cases hn : x.tmod m < 0
  · rw [if_pos hn] at hs
    go_enter Try.func16, Try.ntmps16
    go_wp2
    go_ret
    exact ⟨by rw [← hs]; rfl, rfl⟩
  · rw [if_neg hn] at hs
    go_enter Try.func16, Try.ntmps16
    go_wp2
    go_ret
    exact ⟨by rw [← hs]; rfl, rfl⟩
theorem modulo_any (x : Int) (m : Nat) (h1 : 1 ≤ m) (h2 : m ≤ 64) (w : World) :
    Calls Try.prog 19 #[.int .i64 x, .int .i64 m] w fun e w' => e = .returned (.int .i64 (x % m)) ∧ w' = w := by
  have hs := mod_impl x h1
  have hb := tmod_bd x h1
  have hb2 := emod_bd x h1
  have hm0 : ((m : Int) == 0) = false := by simp; omega
  have hw : IntKind.i64.wrap (x.tmod m) = x.tmod m := by rw [IntKind.wrap_i64]; omega
  have hw2 : IntKind.i64.wrap (x.tmod m + m) = x.tmod m + m := by rw [IntKind.wrap_i64]; omega
  have hw3 : IntKind.i64.wrap ((x.tmod m + m).tmod m) = x % m := by rw [hs, IntKind.wrap_i64]; omega
  go_enter Try.func19, Try.ntmps19
  go_wp2
  go_ret
  exact ⟨by first | rfl | rw [hs] | rw [hw3], rfl⟩

end Go.Proofs.Ytjohlgemjkflhaa

/- Archives: names and versions held against each other, both sides. -/
import Derived.Test.YtcdpnofjahdieaaArn
import Derived.Lib.AppendStr
import Derived.Lib.ConvBytes
namespace Go.Proofs.Ytcdpnofjahdieaa
open Go.RowKit

set_option maxRecDepth 100000 in
theorem compareString_any (a b : ByteArray) (w : World) : Calls Try.prog 67 #[.string a, .string b] w fun e w' => e = .returned (.int .i64 (cmpT a b)) ∧ w' = w := by
  have hx : ∀ w' : World, Sem.run Try.prog (callFunc 69 #[.string a, .string b]) w' = .ok (.value (.int .i64 (cmpT a b))) w' := fun w' => by
    rw [run_callFunc_extern Try.func69 (by kernel_rfl) (by kernel_rfl) (by kernel_rfl) (e := Extern.BytealgCompare.compare) (by kernel_rfl), Lib.run_compareString]
    rfl
  go_enter Try.func67, Try.ntmps67
  go_wp2
  go_ret
  exact ⟨rfl, rfl⟩

theorem strCompare_any (a b : ByteArray) (w : World) : Calls Try.prog 65 #[.string a, .string b] w fun e w' => e = .returned (.int .i64 (cmpT a b)) ∧ w' = w := by
  have c := compareString_any a b w
  go_enter Try.func65, Try.ntmps65
  go_wp2_with fail
  refine c.mono ?_
  rintro e w1 ⟨rfl, rfl⟩
  go_wp2_with fail
  go_ret
  exact ⟨rfl, rfl⟩
theorem isNaN_any (x : Int) (w : World) : Calls Try.prog 68 #[.int .i64 x] w fun e w' => e = .returned (.bool false) ∧ w' = w := by
  have q : (x != x) = false := by simp
  go_enter Try.func68, Try.ntmps68
  go_wp2
  go_ret
  exact ⟨rfl, rfl⟩
theorem cmpCompare_any (v u : Int) (w : World) : Calls Try.prog 66 #[.int .i64 v, .int .i64 u] w fun e w' => e = .returned (.int .i64 (cmpI v u)) ∧ w' = w := by
  have c1 := isNaN_any v w
  have c2 := isNaN_any u w
  unfold cmpI
  by_cases h1 : v < u
  · rw [if_pos h1]
    go_enter Try.func66, Try.ntmps66
    go_wp2_with fail
    refine c1.mono ?_
    rintro e w1 ⟨rfl, rfl⟩
    go_wp2_with fail
    refine c2.mono ?_
    rintro e w1 ⟨rfl, rfl⟩
    go_wp2_with fail
    go_ret
    exact ⟨rfl, rfl⟩
  · rw [if_neg h1]
    by_cases h2 : u < v
    · rw [if_pos h2]
      go_enter Try.func66, Try.ntmps66
      go_wp2_with fail
      refine c1.mono ?_
      rintro e w1 ⟨rfl, rfl⟩
      go_wp2_with fail
      refine c2.mono ?_
      rintro e w1 ⟨rfl, rfl⟩
      go_wp2_with fail
      go_ret
      exact ⟨rfl, rfl⟩
    · rw [if_neg h2]
      go_enter Try.func66, Try.ntmps66
      go_wp2_with fail
      refine c1.mono ?_
      rintro e w1 ⟨rfl, rfl⟩
      go_wp2_with fail
      refine c2.mono ?_
      rintro e w1 ⟨rfl, rfl⟩
      go_wp2_with fail
      go_ret
      exact ⟨rfl, rfl⟩
theorem cmpOr_any (b cap : Nat) (x y : Int) (w : World) (h0 : w.cell? ⟨b, 0, none⟩ = some (.int .i64 x)) (h1 : w.cell? ⟨b, 1, none⟩ = some (.int .i64 y)) :
    Calls Try.prog 64 #[.slice (some ⟨b, 0, none⟩) 2 cap] w fun e w' => e = .returned (.int .i64 (if x = 0 then y else x)) ∧ w' = w := by
  have HR : Hid ((x ≠ 0 → (if x = 0 then y else x) = x) ∧ (x = 0 → (if x = 0 then y else x) = y)) := ⟨fun h => if_neg h, fun h => if_pos h⟩
  generalize (if x = 0 then y else x) = R at *
  go_enter Try.func64, Try.ntmps64
  go_wp2
  go_loopw [5, 8] (fun _ i wr => ∃ j : Nat, j ≤ 2 ∧ i = .int .i64 j ∧ Hid ((0 < j → x = 0) ∧ (1 < j → y = 0)) ∧ wr = w) (fun _ i _ => 2 - (intOf i).toNat)
  case atStart => exact ⟨0, by omega, rfl, ⟨fun h => absurd h (by omega), fun h => absurd h (by omega)⟩, rfl⟩
  case round =>
    obtain ⟨j, hj, rfl, HA, rfl⟩ := hrel
    obtain rfl | rfl | rfl : j = 0 ∨ j = 1 ∨ j = 2 := by omega
    · by_cases hx : x = 0
      · have HX := hide hx
        have q : (x != 0) = false := by simp [hx]
        clear hx
        go_wp2_with fail
        go_roundw
        case rel => exact ⟨1, by omega, by go_num, ⟨fun _ => HX.out, fun h => absurd h (by omega)⟩, trivial⟩
        case measure => simp [intOf]
      · have q : (x != 0) = true := by simp [hx]
        have HX := hide (HR.out.1 hx)
        clear hx
        go_wp2_with fail
        go_ret
        exact ⟨by rw [HX.out]; rfl, rfl⟩
    · have HX := hide (HA.out.1 (by omega))
      by_cases hy : y = 0
      · have HY := hide hy
        have q : (y != 0) = false := by simp [hy]
        clear hy
        go_wp2_with fail
        go_roundw
        case rel => exact ⟨2, by omega, by go_num, ⟨fun _ => HX.out, fun _ => HY.out⟩, trivial⟩
        case measure => simp [intOf]
      · have q : (y != 0) = true := by simp [hy]
        have HE := hide (HR.out.2 HX.out)
        clear hy
        go_wp2_with fail
        go_ret
        exact ⟨by rw [HE.out]; rfl, rfl⟩
    · have HX := hide (HA.out.1 (by omega))
      have HY := hide (HA.out.2 (by omega))
      have HE := hide (HR.out.2 HX.out)
      clear HA
      go_wp2_with fail
      go_ret
      exact ⟨by rw [HE.out, HY.out]; rfl, rfl⟩

theorem isEntryName_any (s : ByteArray) (hs : s.size ≤ 1048576) (w : World) : Calls Try.prog 61 #[.string s] w fun e w' => e = .returned (.bool (inB s.size 1 40)) ∧ w' = w := by
  have c := within_any s.size 1 40 w
  have q : IntKind.i64.wrap (s.size : Int) = s.size := by rw [IntKind.wrap_i64]; omega
  go_enter Try.func61, Try.ntmps61
  go_wp2_with fail
  refine c.mono ?_
  rintro e w1 ⟨rfl, rfl⟩
  go_wp2_with fail
  go_ret
  exact ⟨rfl, rfl⟩
theorem isSum_any (x : Int) (w : World) : Calls Try.prog 57 #[.int .i64 x] w fun e w' => e = .returned (.bool (sumB x)) ∧ w' = w := by
  have c := within_any x 0 2305843009213693950 w
  go_enter Try.func57, Try.ntmps57
  go_wp2_with fail
  refine c.mono ?_
  rintro e w1 ⟨rfl, rfl⟩
  go_wp2_with fail
  go_ret
  exact ⟨rfl, rfl⟩
theorem l14Key_any (s : ByteArray) (v : Int) (hs : s.size ≤ 1048576) (w : World) : Calls Try.prog 35 #[.string s, .int .i64 v] w fun e w' => e = .returned (.bool (keyB s v)) ∧ w' = w := by
  have c := l1In_any v 1 1000 w
  unfold keyB
  by_cases h1 : 1 ≤ (s.size : Int)
  · by_cases h2 : (s.size : Int) ≤ 40
    · have e : inB s.size 1 40 = true := by simp [inB]; omega
      rw [e, Bool.true_and]
      generalize inB v 1 1000 = q at *
      go_enter Try.func35, Try.ntmps35
      go_wp2_with fail
      refine c.mono ?_
      rintro e w1 ⟨rfl, rfl⟩
      go_wp2_with fail
      go_ret
      exact ⟨rfl, rfl⟩
    · have e : inB s.size 1 40 = false := by simp [inB]; omega
      rw [e, Bool.false_and]
      clear c
      go_enter Try.func35, Try.ntmps35
      go_wp2_with fail
      go_ret
      exact ⟨rfl, rfl⟩
  · have e : inB s.size 1 40 = false := by simp [inB]; omega
    rw [e, Bool.false_and]
    clear c
    go_enter Try.func35, Try.ntmps35
    go_wp2_with fail
    go_ret
    exact ⟨rfl, rfl⟩
theorem l14Less_any (a : ByteArray) (v : Int) (b : ByteArray) (u : Int) (w : World) : Calls Try.prog 36 #[.string a, .int .i64 v, .string b, .int .i64 u] w fun e w' => e = .returned (.bool (lessM a v b u)) ∧ w' = w := by
  unfold lessM lessT
  cases h1 : Op.bytesLess a.toList b.toList with
  | true =>
    rw [Bool.true_or]
    go_enter Try.func36, Try.ntmps36
    go_wp2
    go_ret
    exact ⟨rfl, rfl⟩
  | false =>
    rw [Bool.false_or]
    cases h2 : (a.toList == b.toList) with
    | true =>
      rw [Bool.true_and]
      go_enter Try.func36, Try.ntmps36
      go_wp2
      go_ret
      exact ⟨rfl, rfl⟩
    | false =>
      rw [Bool.false_and]
      go_enter Try.func36, Try.ntmps36
      go_wp2
      go_ret
      exact ⟨rfl, rfl⟩

set_option maxRecDepth 100000 in
theorem markOfEntry_any (x0 : ByteArray) (x1 x2 x3 x4 : Int) (w : World) : Calls Try.prog 56 #[vEntry x0 x1 x2 x3 x4] w fun e w' => e = .returned (.agg #[.string x0, .int .i64 x1]) ∧ Below w.heap.size w w' := by
  go_enter Try.func56, Try.ntmps56
  go_wp2_with fail
  refine bodyPost_ret (v := .agg #[.string x0, .int .i64 x1]) (by simp [results, Try.results56, go_sem]) rfl ⟨rfl, ?_⟩
  exact (bnew _ _).alloc (by simp) _
set_option maxRecDepth 100000 in
theorem markOfCopy_any (x0 : ByteArray) (x1 : Int) (x2 : ByteArray) (x3 : Int) (w : World) : Calls Try.prog 59 #[vCopy x0 x1 x2 x3] w fun e w' => e = .returned (.agg #[.string x0, .int .i64 x1]) ∧ Below w.heap.size w w' := by
  go_enter Try.func59, Try.ntmps59
  go_wp2_with fail
  refine bodyPost_ret (v := .agg #[.string x0, .int .i64 x1]) (by simp [results, Try.results59, go_sem]) rfl ⟨rfl, ?_⟩
  exact (bnew _ _).alloc (by simp) _

end Go.Proofs.Ytcdpnofjahdieaa

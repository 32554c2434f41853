/- The library's utf8.ValidRune and utf8.AppendRune: their contracts laid here in plain words. -/
import Derived.Shelf.Small.Utf8
import Derived.Shelf.Utf8.AppendRunePlain
import Derived.Test.YteadhhhhnihoaaaByl
namespace Go.Proofs.Yteadhhhhnihoaaa
open Go.Shelf Go.RowKit

def lays119_ren : Go.Shelf.Ren := ⟨fun | 119 => 43 | n => n, fun | 21 => 21 | 4 => 4 | n => n, fun | n => n⟩
theorem lays119 : Go.Proofs.Lays.n119 Try.prog lays119_ren := {
  mixed := by kernel_rfl
  f119 := Try.func43.trans (congrArg some (by kernel_rfl))
  t4 := Try.underlying4
  a4 := Try.isAgg4
  z4 := Try.sizeOf4
  v4 := Try.zeroValue4
  t21 := Try.underlying21
  a21 := Try.isAgg21
  z21 := Try.sizeOf21
  v21 := Try.zeroValue21 }
def lays278_ren : Go.Shelf.Ren := ⟨fun | 278 => 44 | n => n, fun | 37 => 22 | 21 => 21 | 51 => 64 | 4 => 4 | 46 => 66 | 5 => 5 | n => n, fun | n => n⟩
theorem lays278 : Go.Proofs.Lays.n278 Try.prog lays278_ren := {
  mixed := by kernel_rfl
  f278 := Try.func44.trans (congrArg some (by kernel_rfl))
  t4 := Try.underlying4
  a4 := Try.isAgg4
  z4 := Try.sizeOf4
  v4 := Try.zeroValue4
  t5 := Try.underlying5
  a5 := Try.isAgg5
  z5 := Try.sizeOf5
  v5 := Try.zeroValue5
  t21 := Try.underlying21
  a21 := Try.isAgg21
  z21 := Try.sizeOf21
  v21 := Try.zeroValue21
  t37 := Try.underlying22
  a37 := Try.isAgg22
  z37 := Try.sizeOf22
  v37 := Try.zeroValue22
  t46 := Try.underlying66
  a46 := Try.isAgg66
  z46 := Try.sizeOf66
  v46 := Try.zeroValue66
  t51 := Try.underlying64
  a51 := Try.isAgg64
  z51 := Try.sizeOf64
  v51 := Try.zeroValue64 }
def lays242_ren : Go.Shelf.Ren := ⟨fun | 242 => 30 | 278 => 44 | n => n, fun | 37 => 22 | 21 => 21 | 51 => 64 | 4 => 4 | 5 => 5 | 46 => 66 | n => n, fun | n => n⟩
theorem lays242 : Go.Proofs.Lays.n242 Try.prog lays242_ren := {
  mixed := by kernel_rfl
  f242 := Try.func30.trans (congrArg some (by kernel_rfl))
  f278 := Try.func44.trans (congrArg some (by kernel_rfl))
  t4 := Try.underlying4
  a4 := Try.isAgg4
  z4 := Try.sizeOf4
  v4 := Try.zeroValue4
  t5 := Try.underlying5
  a5 := Try.isAgg5
  z5 := Try.sizeOf5
  v5 := Try.zeroValue5
  t21 := Try.underlying21
  a21 := Try.isAgg21
  z21 := Try.sizeOf21
  v21 := Try.zeroValue21
  t37 := Try.underlying22
  a37 := Try.isAgg22
  z37 := Try.sizeOf22
  v37 := Try.zeroValue22
  t46 := Try.underlying66
  a46 := Try.isAgg66
  z46 := Try.sizeOf66
  v46 := Try.zeroValue66
  t51 := Try.underlying64
  a51 := Try.isAgg64
  z51 := Try.sizeOf64
  v51 := Try.zeroValue64 }

theorem validRune_any (r : Int) (w : World) : Calls Try.prog 43 #[.int .i32 r] w fun e w' => e = .returned (.bool (Lib.validRune r)) ∧ w' = w := Any.utf8_ValidRune lays119 r w

theorem appendRune_any (B : Nat) (v : Value) (n : Nat) (L : List Int) (r : Int) (hr0 : 0 ≤ r) (hr1 : r ≤ 1114111) (w : World) (hown : w.ownsRow B 5 1 v n (bys L)) (hn : n ≤ 1048576) (hBw : B ≤ w.heap.size) :
    Calls Try.prog 30 #[v, .int .i32 r] w fun e w' => ∃ v', e = .returned v' ∧ w'.ownsRow B 5 1 v' (n + (Lib.encodeRuneZ r).length) (bys (L ++ Lib.encodeRuneZ r)) ∧ Below B w w' := by
  have c := Any.utf8_AppendRune_plain lays242 (by kernel_rfl) B v n (bys L) r (by omega) (by omega) w hown (by omega) hBw
  refine Calls.mono (P := Try.prog) (f := 30) c ?_
  rintro e w' ⟨v', rfl, h1, o, h2⟩
  have e1 : (Lib.runeCells r) = bys (Lib.encodeRuneZ r) := rfl
  rw [e1, bys_length] at h1
  refine ⟨v', rfl, by rw [bys_append]; exact h1, ?_⟩
  have hr3 : ∀ q, Value.ownBlock v = some q → B ≤ q := fun q hq => (hown.lt q hq).1
  have hsw : w.heap.size < (w.alloc o).heap.size := by simp
  exact ((Below.refl B w).alloc hBw o).trans ((Below.refl _ _).grown h2 (Nat.le_trans hBw (Nat.le_of_lt hsw)) hr3)

end Go.Proofs.Yteadhhhhnihoaaa

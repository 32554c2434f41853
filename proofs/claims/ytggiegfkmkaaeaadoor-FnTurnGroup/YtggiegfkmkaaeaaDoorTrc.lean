/- The matrix of a turn, as it is told: the program and the specification. -/
import Derived.Test.YtggiegfkmkaaeaaDoorTrb
import Derived.Test.YtggiegfkmkaaeaaDoorTrk
import Derived.Deep.RegionHeld
namespace Go.Proofs.YtggiegfkmkaaeaaDoor
open Go.RowKit

/-- how many numbers are told -/
def tmN (a b c d : Int) : Nat := if tkB a b c d = true then 9 else 0

theorem mk9 : madeCells #[Value.int .i64 0] 9 = #[Value.int .i64 0, Value.int .i64 0, Value.int .i64 0, Value.int .i64 0, Value.int .i64 0, Value.int .i64 0, Value.int .i64 0, Value.int .i64 0, Value.int .i64 0] := by
  apply Array.ext'
  rw [toList_madeCells_one]
  rfl
theorem mk3 : madeCells #[Value.int .i64 0] 3 = #[Value.int .i64 0, Value.int .i64 0, Value.int .i64 0] := by
  apply Array.ext'
  rw [toList_madeCells_one]
  rfl
theorem c9_at {w0 : World} {L : List BoxT} {O : List OwnT} {w : World} {b : Nat} {m : Nat → Int} (h : St w0 ((b, c9 m) :: L) O w) : ∀ k, k < 9 → w.cell? ⟨b, 0 + k, none⟩ = some (.int .i64 (m k)) := fun k hk => by
  rw [Nat.zero_add]
  match k, hk with
  | 0, _ => exact h.cell 0 rfl 0 rfl
  | 1, _ => exact h.cell 0 rfl 1 rfl
  | 2, _ => exact h.cell 0 rfl 2 rfl
  | 3, _ => exact h.cell 0 rfl 3 rfl
  | 4, _ => exact h.cell 0 rfl 4 rfl
  | 5, _ => exact h.cell 0 rfl 5 rfl
  | 6, _ => exact h.cell 0 rfl 6 rfl
  | 7, _ => exact h.cell 0 rfl 7 rfl
  | 8, _ => exact h.cell 0 rfl 8 rfl
theorem c9_row {w0 : World} {L : List BoxT} {O : List OwnT} {w : World} {b : Nat} {m : Nat → Int} (h : St w0 ((b, c9 m) :: L) O w) : Row b 9 m w := fun k hk => by
  match k, hk with
  | 0, _ => exact ⟨h.cell 0 rfl 0 rfl, h.free 0 rfl 0 rfl⟩
  | 1, _ => exact ⟨h.cell 0 rfl 1 rfl, h.free 0 rfl 1 rfl⟩
  | 2, _ => exact ⟨h.cell 0 rfl 2 rfl, h.free 0 rfl 2 rfl⟩
  | 3, _ => exact ⟨h.cell 0 rfl 3 rfl, h.free 0 rfl 3 rfl⟩
  | 4, _ => exact ⟨h.cell 0 rfl 4 rfl, h.free 0 rfl 4 rfl⟩
  | 5, _ => exact ⟨h.cell 0 rfl 5 rfl, h.free 0 rfl 5 rfl⟩
  | 6, _ => exact ⟨h.cell 0 rfl 6 rfl, h.free 0 rfl 6 rfl⟩
  | 7, _ => exact ⟨h.cell 0 rfl 7 rfl, h.free 0 rfl 7 rfl⟩
  | 8, _ => exact ⟨h.cell 0 rfl 8 rfl, h.free 0 rfl 8 rfl⟩

set_option maxRecDepth 100000 in
set_option maxHeartbeats 4000000 in
theorem implTurnMatrix_any (a b c d : Int) (w : World) :
    Calls Tryd.prog 17 #[tv a b c d] w fun e w' => LsR (tmN a b c d) (mtx a b c d) w e w' := by
  have c1 := fun w' => implTurnOk_any a b c d w'
  have HS0 := hide ((St.start w).box [.int .i64 a, .int .i64 b, .int .i64 c, .int .i64 d] 30)
  unfold tmN
  cases hq : tkB a b c d
  · simp only [hq] at c1
    simp only [Bool.false_eq_true, if_false]
    clear hq
    go_enter Tryd.func17, Tryd.ntmps17
    go_wp2_with fail
    refine (c1 _).mono ?_
    rintro e w1 ⟨rfl, hb⟩
    have HS1 := hide (HS0.out.next hb)
    clear hb HS0 c1
    go_wp2_with fail
    go_ret
    exact ⟨none, 0, w1.heap.size, rfl, .inl rfl, .inl rfl, HS1.out.below⟩
  have c2 := fun w' => matrixOfTurn_any a b c d hq w'
  simp only [hq] at c1
  simp only [if_true]
  clear hq
  generalize mtx a b c d = m at *
  go_enter Tryd.func17, Tryd.ntmps17
  go_wp2_with fail
  refine (c1 _).mono ?_
  rintro e w1 ⟨rfl, hb⟩
  have HS1 := hide (HS0.out.next hb)
  obtain ⟨i0, i1, i2, i3⟩ := HS1.out.im4 0 rfl
  clear hb HS0 c1
  go_wp2_with fail
  refine (c2 _).mono ?_
  rintro e w2 ⟨rfl, hb⟩
  have HS2 := hide ((HS1.out.next hb).box (c9 m) 58)
  clear hb HS1 c2 i0 i1 i2 i3
  have c3 := clone_any w2.heap.size 0 9 9 m (by omega) _ (c9_at HS2.out)
  go_wp2_with fail
  refine c3.mono ?_
  rintro e w3 ⟨x, cap, t, rfl, ho, ht, hb⟩
  have HO := hide ho
  have HT := hide ht
  have HS3 := hide (HS2.out.next hb)
  have HL := HS2.out.below.size
  clear ho ht hb HS2 c3
  go_wp2_with fail
  go_ret
  exact ⟨x, cap, t, rfl, HO.out, by rcases HT.out with h | h; exact .inl h; exact .inr (Nat.le_trans HL h), HS3.out.below⟩

end Go.Proofs.YtggiegfkmkaaeaaDoor

/- Which points an outline has: the program's four methods. -/
import Derived.Test.YtadeajdjjcelhaaOut2
namespace Go.Proofs.Ytadeajdjjcelhaa
open Go.RowKit

theorem neg_wrap {A : Int} (h : A.natAbs ≤ 1000) : IntKind.i64.wrap (-A) = -A := wrapn (P := 1000) (by omega) (by omega)

theorem has1 (A B C d e : Int) (hA : A.natAbs ≤ 1000) (hB : B.natAbs ≤ 1000) (w : World) :
    Calls Try.prog 82 #[.agg #[.int .i64 A, .int .i64 B], .int .i64 d, .int .i64 e] w fun r w' => r = .returned (.bool (insB 1 A B C d e)) ∧ Below w.heap.size w w' := by
  have na := neg_wrap hA
  have nb := neg_wrap hB
  have c1 := within_any d (-A) A
  have c2 := within_any e (-B) B
  have hr : insB 1 A B C d e = (inB d (-A) A && inB e (-B) B) := rfl
  rw [hr]
  clear hr hA hB
  cases h : inB d (-A) A
  · rw [h] at c1
    clear h
    go_enter Try.func82, Try.ntmps82
    go_wp2_with fail
    refine (c1 _).mono ?_
    rintro e w' ⟨rfl, rfl⟩
    go_wp2_with fail
    go_ret
    exact ⟨rfl, bnew _ _⟩
  · rw [h] at c1
    clear h
    go_enter Try.func82, Try.ntmps82
    go_wp2_with fail
    refine (c1 _).mono ?_
    rintro e w' ⟨rfl, rfl⟩
    go_wp2_with fail
    refine (c2 _).mono ?_
    rintro e w' ⟨rfl, rfl⟩
    go_wp2_with fail
    go_ret
    exact ⟨rfl, bnew _ _⟩

theorem has2 (A B C d e : Int) (hA : A.natAbs ≤ 1000) (hB : B.natAbs ≤ 1000) (hd : d.natAbs ≤ 101000) (he : e.natAbs ≤ 101000) (w : World) :
    Calls Try.prog 83 #[.agg #[.int .i64 A, .int .i64 B], .int .i64 d, .int .i64 e] w fun r w' => r = .returned (.bool (insB 2 A B C d e)) ∧ Below w.heap.size w w' := by
  have m1 := natb hA hA
  have m2 := natb hB hB
  have m3 := natb m2 hd
  have m4 := natb m3 hd
  have m5 := natb m1 he
  have m6 := natb m5 he
  have m7 := nata m4 m6
  have m8 := natb m1 m2
  have v1 := wrapn m1 (by omega)
  have v2 := wrapn m2 (by omega)
  have v3 := wrapn m3 (by omega)
  have v4 := wrapn m4 (by omega)
  have v5 := wrapn m5 (by omega)
  have v6 := wrapn m6 (by omega)
  have v7 := wrapn m7 (by omega)
  have v8 := wrapn m8 (by omega)
  have hr : insB 2 A B C d e = decide (B * B * d * d + A * A * e * e ≤ A * A * (B * B)) := by
    rw [Int.mul_assoc (B * B), Int.mul_assoc (A * A)]; rfl
  rw [hr]
  clear hr hA hB hd he m1 m2 m3 m4 m5 m6 m7 m8
  go_enter Try.func83, Try.ntmps83
  go_wp2_with fail
  go_ret
  exact ⟨rfl, bnew _ _⟩

theorem has3 (A B C d e : Int) (hA : A.natAbs ≤ 1000) (hB : B.natAbs ≤ 1000) (hC : C.natAbs ≤ 1000) (hd : d.natAbs ≤ 101000) (he : e.natAbs ≤ 101000) (w : World) :
    Calls Try.prog 84 #[.agg #[.int .i64 A, .int .i64 B, .int .i64 C], .int .i64 d, .int .i64 e] w fun r w' => r = .returned (.bool (insB 3 A B C d e)) ∧ Below w.heap.size w w' := by
  have m1 := natb hA hd
  have m2 := natb hB he
  have m3 := nata m1 m2
  have v1 := wrapn m1 (by omega)
  have v2 := wrapn m2 (by omega)
  have v3 := wrapn m3 (by omega)
  have nc := neg_wrap hC
  have hr : insB 3 A B C d e = inB (A * d + B * e) (-C) C := rfl
  rw [hr]
  have c1 := within_any (A * d + B * e) (-C) C
  clear hr hA hB hd he hC m1 m2 m3
  go_enter Try.func84, Try.ntmps84
  go_wp2_with fail
  refine (c1 _).mono ?_
  rintro e w' ⟨rfl, rfl⟩
  go_wp2_with fail
  go_ret
  exact ⟨rfl, bnew _ _⟩

theorem has4 (A B C d e : Int) (hA : A.natAbs ≤ 1000) (hB : B.natAbs ≤ 1000) (hd : d.natAbs ≤ 101000) (he : e.natAbs ≤ 101000) (w : World) :
    Calls Try.prog 85 #[.agg #[.int .i64 A, .int .i64 B], .int .i64 d, .int .i64 e] w fun r w' => r = .returned (.bool (insB 4 A B C d e)) ∧ Below w.heap.size w w' := by
  have m1 := natb hd hd
  have m2 := natb he he
  have m3 := nata m1 m2
  have m4 := natb hA hA
  have m5 := natb hB hB
  have v1 := wrapn m1 (by omega)
  have v2 := wrapn m2 (by omega)
  have v3 := wrapn m3 (by omega)
  have v4 := wrapn m4 (by omega)
  have v5 := wrapn m5 (by omega)
  have hr : insB 4 A B C d e = inB (d * d + e * e) (A * A) (B * B) := rfl
  rw [hr]
  have c1 := within_any (d * d + e * e) (A * A) (B * B)
  clear hr hA hB hd he m1 m2 m3 m4 m5
  go_enter Try.func85, Try.ntmps85
  go_wp2_with fail
  refine (c1 _).mono ?_
  rintro e w' ⟨rfl, rfl⟩
  go_wp2_with fail
  go_ret
  exact ⟨rfl, bnew _ _⟩

end Go.Proofs.Ytadeajdjjcelhaa

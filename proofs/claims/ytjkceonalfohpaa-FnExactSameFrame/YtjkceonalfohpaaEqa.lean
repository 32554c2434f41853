/- '==' of arrays of numbers. -/
import Derived.Test.YtjkceonalfohpaaFok
import Derived.Laws.StructEq
import Derived.Laws.Tables
import Derived.Laws.Cover2
import Derived.KernelRfl
namespace Go.Proofs.Ytjkceonalfohpaa
open Go.RowKit

set_option maxRecDepth 100000 in
set_option maxHeartbeats 2000000 in
theorem eqArr3 (x0 x1 x2 y0 y1 y2 : Int) (w : World) : (Op.equalIn 9999 89 (.agg #[.int .i64 x0, .int .i64 x1, .int .i64 x2]) (.agg #[.int .i64 y0, .int .i64 y1, .int .i64 y2])).run Try.prog w = .ok ((x0 == y0) && ((x1 == y1) && (x2 == y2))) w := by
  have u2 := Try.underlying2
  have a2 := Try.isAgg2
  have z2 := Try.sizeOf2
  rw [show (9999 : Nat) = 9998 + 1 from rfl, Op.equalIn]
  simp only [Sem.run_bind, run_underlying Try.underlying89, Result.andThen_ok]
  simp only [Std.Legacy.Range.forIn_eq_forIn_range', Std.Legacy.Range.size, Nat.sub_zero, Nat.add_sub_cancel, Nat.div_one, List.range'_succ, List.range'_zero, List.forIn_cons, List.forIn_nil]
  go_simp
  by_cases h0 : ¬ x0 = y0
  · simp [h0]
  obtain rfl : x0 = y0 := Classical.not_not.1 h0
  clear h0
  by_cases h1 : ¬ x1 = y1
  · simp [h1]
  obtain rfl : x1 = y1 := Classical.not_not.1 h1
  clear h1
  by_cases h : x2 = y2 <;> simp [h]

set_option maxRecDepth 100000 in
set_option maxHeartbeats 2000000 in
theorem eqArr9 (x0 x1 x2 x3 x4 x5 x6 x7 x8 y0 y1 y2 y3 y4 y5 y6 y7 y8 : Int) (w : World) : (Op.equalIn 9999 87 (.agg #[.int .i64 x0, .int .i64 x1, .int .i64 x2, .int .i64 x3, .int .i64 x4, .int .i64 x5, .int .i64 x6, .int .i64 x7, .int .i64 x8]) (.agg #[.int .i64 y0, .int .i64 y1, .int .i64 y2, .int .i64 y3, .int .i64 y4, .int .i64 y5, .int .i64 y6, .int .i64 y7, .int .i64 y8])).run Try.prog w = .ok ((x0 == y0) && ((x1 == y1) && ((x2 == y2) && ((x3 == y3) && ((x4 == y4) && ((x5 == y5) && ((x6 == y6) && ((x7 == y7) && (x8 == y8))))))))) w := by
  have u2 := Try.underlying2
  have a2 := Try.isAgg2
  have z2 := Try.sizeOf2
  rw [show (9999 : Nat) = 9998 + 1 from rfl, Op.equalIn]
  simp only [Sem.run_bind, run_underlying Try.underlying87, Result.andThen_ok]
  simp only [Std.Legacy.Range.forIn_eq_forIn_range', Std.Legacy.Range.size, Nat.sub_zero, Nat.add_sub_cancel, Nat.div_one, List.range'_succ, List.range'_zero, List.forIn_cons, List.forIn_nil]
  go_simp
  by_cases h0 : ¬ x0 = y0
  · simp [h0]
  obtain rfl : x0 = y0 := Classical.not_not.1 h0
  clear h0
  by_cases h1 : ¬ x1 = y1
  · simp [h1]
  obtain rfl : x1 = y1 := Classical.not_not.1 h1
  clear h1
  by_cases h2 : ¬ x2 = y2
  · simp [h2]
  obtain rfl : x2 = y2 := Classical.not_not.1 h2
  clear h2
  by_cases h3 : ¬ x3 = y3
  · simp [h3]
  obtain rfl : x3 = y3 := Classical.not_not.1 h3
  clear h3
  by_cases h4 : ¬ x4 = y4
  · simp [h4]
  obtain rfl : x4 = y4 := Classical.not_not.1 h4
  clear h4
  by_cases h5 : ¬ x5 = y5
  · simp [h5]
  obtain rfl : x5 = y5 := Classical.not_not.1 h5
  clear h5
  by_cases h6 : ¬ x6 = y6
  · simp [h6]
  obtain rfl : x6 = y6 := Classical.not_not.1 h6
  clear h6
  by_cases h7 : ¬ x7 = y7
  · simp [h7]
  obtain rfl : x7 = y7 := Classical.not_not.1 h7
  clear h7
  by_cases h : x8 = y8 <;> simp [h]

end Go.Proofs.Ytjkceonalfohpaa

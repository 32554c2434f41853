/- The specification's FlowDo. -/
import Derived.Test.YtfhfddmiiopgdaaFlf
namespace Go.Proofs.Ytfhfddmiiopgdaa
open Go.RowKit

theorem St.flR {w0 : World} {L : List BoxT} {O : List OwnT} {w : World} {a : Option Addr} {b n : Nat} {s : Nat → Int} (h : St w0 L ((a, b, n * 4, fun k => .int .i64 (s k)) :: O) w) (c code : Int) (cap : Nat) (hn : a = none → n = 0 ∧ cap = 0) : FlR c n s code w0 (.returned (.tuple #[vFlow c a n cap, .int .i64 code])) w :=
  ⟨a, cap, b, rfl, h.nthO 0 rfl, by
    by_cases h0 : n * 4 = 0
    · exact .inl h0
    · exact .inr (h.lt b (mem_blocks_own (x := (a, b, n * 4, fun k => .int .i64 (s k))) (List.mem_cons_self ..) h0)).1, h.below, hn⟩
theorem St.fill2 {w0 : World} {L : List BoxT} {O : List OwnT} {w : World} {c : Nat} {x0 x1 : Value} (h : St w0 ((c, [x0, x1]) :: L) O w) (v0 v1 : Value) :
    St w0 ((c, [v0, v1]) :: L) O ((w.setCell ⟨c, 0, none⟩ v0).setCell ⟨c, 1, none⟩ v1) :=
  St.fill (L1 := []) (St.fill (L1 := []) h 0 v0) 1 v1

end Go.Proofs.Ytfhfddmiiopgdaa

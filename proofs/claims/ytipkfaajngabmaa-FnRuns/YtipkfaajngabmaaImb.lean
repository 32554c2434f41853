/- An image and a flag are answered. -/
import Derived.Test.YtipkfaajngabmaaHom
namespace Go.Proofs.Ytipkfaajngabmaa
open Go.RowKit

def ImRB (rW rH : Int) (rN : Nat) (s : Nat → Int) (c : Bool) (w : World) (e : Ending) (w' : World) : Prop :=
  ∃ a0 cap b, e = .returned (.tuple #[im rW rH a0 rN cap, .bool c]) ∧ Ow a0 b rN s w' ∧ (rN = 0 ∨ w.heap.size ≤ b) ∧ Below w.heap.size w w'
theorem St.imRB {w0 : World} {L : List BoxT} {O : List OwnT} {w : World} {a : Option Addr} {b n : Nat} {s : Nat → Int} (h : St w0 L ((a, b, n, fun k => .int .i64 (s k)) :: O) w) (W H : Int) (cap : Nat) (c : Bool) : ImRB W H n s c w0 (.returned (.tuple #[im W H a n cap, .bool c])) w :=
  ⟨a, cap, b, rfl, h.nthO 0 rfl, by
    by_cases h0 : n = 0
    · exact .inl h0
    · exact .inr (h.lt b (mem_blocks_own (x := (a, b, n, fun k => .int .i64 (s k))) (List.mem_cons_self ..) h0)).1, h.below⟩
theorem St.imRN {w0 : World} {L : List BoxT} {O : List OwnT} {w : World} (h : St w0 L O w) (s : Nat → Int) : ImRB 0 0 0 s false w0 (.returned (.tuple #[im 0 0 none 0 0, .bool false])) w :=
  ⟨none, 0, 0, rfl, .inl rfl, .inl rfl, h.below⟩

end Go.Proofs.Ytipkfaajngabmaa

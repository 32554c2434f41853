/- Right lists of elements: the specification. -/
import Derived.Test.YteadhhhhnihoaaaElw
namespace Go.Proofs.Yteadhhhhnihoaaa
open Go.RowKit

theorem C6.new (e : El) (x : Option Addr) (c : Nat) (ty : TypeId) (w : World) : C6 w.heap.size 0 e x c (w.alloc (.cells #[.int .i64 e.g, .int .i64 e.n, .int .i64 e.k, .string e.t, .slice x e.ln c, .int .i64 e.s] ty)) := by
  refine ⟨?_, ?_, ?_, ?_, ?_, ?_⟩ <;> simp [go_sem]

/-- what the specification answers of at most N elements -/
def AskS (a : Option Addr) (m cap : Nat) (ad : Nat → Option Addr) (cp : Nat → Nat) (E : Nat → El) (N : Nat) : Prop := ∀ (i en : Nat) (d : Int) (it : Bool) (w : World), en - i ≤ N → i ≤ en → en ≤ m → 1 ≤ d → d ≤ 9 → PxE a m ad cp E w →
    Calls Try.prog 34 #[.slice a m cap, .int .i64 i, .int .i64 en, .int .i64 d, .bool it] w fun e w' => e = .returned (.bool (lev E i en d it (-1))) ∧ Below w.heap.size w w'

set_option maxRecDepth 100000 in
theorem specZ (a : Option Addr) (m cap : Nat) (ad : Nat → Option Addr) (cp : Nat → Nat) (E : Nat → El) : AskS a m cap ad cp E 0 := by
  intro i en d it w hN hi hto hd1 hd9 h
  have hlev := lev_end (E := E) (i := i) (en := en) (d := d) (it := it) (last := -1) (by omega)
  rw [hlev]
  have hlt : ¬ (i : Int) < (en : Int) := by omega
  clear h
  go_enter Try.func34, Try.ntmps34
  go_wp2_with fail
  go_loopw [11, 12, 13] (fun _ j _ wr => j = .int .i64 i ∧ wr = w) (fun _ _ _ _ => 0)
  case atStart => exact ⟨rfl, rfl⟩
  case round =>
    obtain ⟨rfl, rfl⟩ := hrel
    go_wp2_with fail
    go_ret
    exact ⟨rfl, Below.refl _ _⟩

end Go.Proofs.Yteadhhhhnihoaaa

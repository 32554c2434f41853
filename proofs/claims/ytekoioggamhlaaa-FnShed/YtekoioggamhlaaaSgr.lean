/- Lists of offsets that grow: pointed back, within a reach, beside. -/
import Derived.Test.YtekoioggamhlaaaSpt
namespace Go.Proofs.Ytekoioggamhlaaa
open Go.RowKit

set_option maxRecDepth 100000 in
theorem infoS : ∃ i, Try.prog.info? 82 = some i ∧ i.zero = some (vSpot2 0 0) ∧ i.size = 2 ∧ i.bytes = 16 := ⟨_, rfl, rfl, rfl, rfl⟩

/-- an offset is appended to a list of the call's own -/
theorem growS (w : World) {ops : Array Oper} {rest : List Oper} {o : Oper} {a : Act} {Q : Exit → Act → World → Prop} (hgd : o.guard = none) (s x : Operand)
    (ho : o.op = .call { callee := .builtin .append, args := #[s, x], argTypes := #[72, 72] }) (B : Nat) (v : Value) (n : Nat) (f : Nat → Int) (hs : a.eval s = v) (w0 : World) (hown : w.ownsRow B 82 2 v n (ints (fl f (n * 2))))
    (hb : Below B w0 w) (hB : B ≤ w.heap.size) (x0 x1 : Int) (h0 : x0 = f (n * 2)) (h1 : x1 = f (n * 2 + 1)) (hx : a.eval x = .slice (some ⟨w.heap.size, 0, none⟩) 1 1) (hn : n ≤ 1048576)
    (h : ∀ v' w', w'.ownsRow B 82 2 v' (n + 1) (ints (fl f ((n + 1) * 2))) → Below B w0 w' → w.heap.size < w'.heap.size → wpList Try.prog ops Q rest (a.put o.dst v') w') :
    wpList Try.prog ops Q (o :: rest) a (w.alloc (.cells #[.int .i64 x0, .int .i64 x1] 82)) := by
  obtain ⟨ti, hi1, hi2, hi3, hi4⟩ := infoS
  refine grow w hgd s x 72 ho B 82 ti (vSpot2 0 0) 2 16 Try.underlying72 hi1 hi2 hi3 hi4 rfl (by omega) v n (fl f (n * 2)) hs w0 hown hb hB [x0, x1] 1 1 hx rfl (by unfold maxLen; omega) (by omega) ?_
  intro v' w' g1 g2 g3
  refine h v' w' ?_ g2 g3
  have e : fl f ((n + 1) * 2) = fl f (n * 2) ++ [x0, x1] := by
    rw [show (n + 1) * 2 = n * 2 + 1 + 1 by omega]
    simp only [fl]
    rw [h0, h1]
    simp
  rw [e]
  exact g1

/-- an own list of offsets -/
theorem ow_spots {w : World} {B n : Nat} {v : Value} {f : Nat → Int} (h : w.ownsRow B 82 2 v n (ints (fl f (n * 2)))) : ∃ a cap b, v = .slice a n cap ∧ Ow a b (n * 2) f w ∧ (n * 2 = 0 ∨ B ≤ b) := by
  by_cases h0 : n = 0
  · obtain ⟨hlen, hv | ⟨b, cap, cur, hv, hg, hcur, _, hm, _, _⟩⟩ := h
    · obtain ⟨rfl, rfl⟩ := hv
      exact ⟨none, 0, B, rfl, .inl (by omega), .inl (by omega)⟩
    · exact ⟨_, _, b, hv, .inl (by omega), .inl (by omega)⟩
  · obtain ⟨a, cap, b, hv, ho, hB, _⟩ := ow_of_some h (by omega)
    refine ⟨a, cap, b, hv, ?_, .inr hB⟩
    rcases ho with ho | ⟨rfl, ho⟩
    · exact .inl ho
    · exact .inr ⟨rfl, ho.congr (fun q hq => fl_at f _ q hq)⟩

/-- a list of offsets is answered -/
def SpR (n : Nat) (f : Nat → Int) (w : World) (e : Ending) (w' : World) : Prop :=
  ∃ a cap b, e = .returned (.slice a n cap) ∧ Ow a b (n * 2) f w' ∧ (n * 2 = 0 ∨ w.heap.size ≤ b) ∧ Below w.heap.size w w'

set_option maxRecDepth 100000 in
theorem make_caps (n : Nat) (h : n ≤ 1048576) (w : World) :
    ∃ cur : Array Value, cur.size = n * 2 ∧ (Instr.makeSlice 72 (.int .i64 0) (.int .i64 n)).run Try.prog w = .ok (.slice (some ⟨w.heap.size, 0, none⟩) 0 n) (w.alloc (.cells cur 82)) := by
  have := run_make (P := Try.prog) w 72 82 _ (vSpot2 0 0) Try.underlying72 rfl rfl .i64 .i64 0 n (by omega) (by omega) (by show (16 : Int) * _ ≤ _; omega) (by omega)
  refine ⟨_, ?_, this⟩
  show (madeCells _ ((n : Int).toNat * 2)).size = _
  rw [Int.toNat_natCast]
  simp [madeCells]

end Go.Proofs.Ytekoioggamhlaaa

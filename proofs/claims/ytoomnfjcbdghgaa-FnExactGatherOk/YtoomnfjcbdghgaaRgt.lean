/- How a receiver that came in is read. -/
import Derived.Test.YtoomnfjcbdghgaaRsp
import Derived.Test.YtoomnfjcbdghgaaGsz
namespace Go.Proofs.Ytoomnfjcbdghgaa
open Go.ChangeShapes Go.WideShapes Go.ChangeAt Go.RowKit Go.Joins

theorem cellsLGather : Try.prog.cellsOf 65 = 3 := by kernel_rfl
set_option maxRecDepth 100000 in
theorem gather_open {H : Type} {enc : TypeId × Value → H} {W : World} {base b0 : Nat} {r : Reach} {spare : Nat → Bool} {held : Bool} {v : Value} {d : DataW H} {p : List MemPlace}
    (hv : Value.okWide Try.prog W r b0 65 v) (h : DataW.Trod enc Try.prog W base spare held 65 v d p) :
    ∃ a1 n1 c1 f1 a2 n2 c2 f2 a3 m c3 E, v = vGa a1 n1 c1 a2 n2 c2 a3 m c3 ∧ n1 ≤ maxLen ∧ n2 ≤ maxLen ∧ m ≤ maxLen ∧ (∀ i, (E i).f3.size ≤ maxLen) ∧ PxR a1 n1 f1 a2 n2 f2 a3 m E W := by
  obtain ⟨cs, rfl, hsz⟩ := okWide_struct Try.underlying65 hv
  rw [cellsLGather] at hsz
  obtain ⟨fuel, hf⟩ := h
  obtain ⟨ys, m, _, hx, hl, hlen, hel⟩ := DataW.trod_struct Try.underlying65 hf
  have e0 : Try.prog.cellsOf 25 = 1 := by kernel_rfl
  have e2 : Try.prog.cellsOf 63 = 1 := by kernel_rfl
  obtain ⟨c0, c1, c2, rfl⟩ : ∃ c0 c1 c2, cs = #[c0, c1, c2] := by
    obtain ⟨l⟩ := cs
    match l, hsz with
    | [c0, c1, c2], _ => exact ⟨c0, c1, c2, rfl⟩
  match ys, hlen, hel with
  | [y0, y1, y2], _, hel =>
    have g0 : DataW.trod enc Try.prog W base spare held m 25 (([c0, c1, c2].drop 0).take (Try.prog.cellsOf 25)) = some y0 := hel 0 _ rfl
    have g1 : DataW.trod enc Try.prog W base spare held m 25 (([c0, c1, c2].drop 1).take (Try.prog.cellsOf 25)) = some y1 := hel 1 _ rfl
    have g2 : DataW.trod enc Try.prog W base spare held m 63 (([c0, c1, c2].drop 2).take (Try.prog.cellsOf 63)) = some y2 := hel 2 _ rfl
    rw [e0] at g0 g1
    rw [e2] at g2
    obtain ⟨a1, n1, k1, f1, rfl, h1, p1⟩ := px_cell (v := c0) g0
    obtain ⟨a2, n2, k2, f2, rfl, h2, p2⟩ := px_cell (v := c1) g1
    obtain ⟨a3, n3, k3, E, rfl, h3, hs3, p3⟩ := parts_cell (v := c2) g2
    exact ⟨a1, n1, k1, f1, a2, n2, k2, f2, a3, n3, k3, E, rfl, h1, h2, h3, hs3, ⟨p1, p2, p3⟩⟩

end Go.Proofs.Ytoomnfjcbdghgaa

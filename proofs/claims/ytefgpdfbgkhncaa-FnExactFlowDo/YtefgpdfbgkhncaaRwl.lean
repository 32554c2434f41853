/- A struct of a number and a list of structs of numbers that came in: its list, opened. -/
import Derived.Test.YtefgpdfbgkhncaaRwi
namespace Go.Proofs.Ytefgpdfbgkhncaa
open Go.ChangeShapes Go.WideShapes Go.ChangeAt Go.RowKit Go.Joins

theorem ns_cell {H : Type} {enc : TypeId × Value → H} {W : World} {base : Nat} {spare : Nat → Bool} {held : Bool} {n : Nat} {v : Value} {y : DataW H × List MemPlace} {t e : TypeId} {fs : Array Field} {m : Nat}
    (hs : Try.prog.underlying t = some (.slice e)) (ht : Try.prog.underlying e = some (.struct fs)) (hm : Try.prog.cellsOf e = m) (hf : fs.toList.map (fun f => (f.type, f.offset)) = (List.range m).map fun i => (2, i)) (m0 : 0 < m)
    (h : DataW.trod enc Try.prog W base spare held n t [v] = some y) : ∃ a len cap g, v = .slice a len cap ∧ len ≤ maxLen ∧ Px a (len * m) g W := by
  rcases DataW.trod_slice hs h with ⟨hcs, _⟩ | ⟨x, l, c, elems, rest, n', _, hcs, _⟩
  · simp at hcs
    exact ⟨none, 0, 0, fun _ => 0, hcs, by unfold maxLen; omega, .inl (by simp)⟩
  · simp at hcs
    subst hcs
    obtain ⟨h1, g, h2⟩ := ns_of (a := some x) (len := l) (cap := c) (d := y.1) (p := y.2) hs ht hm hf m0 ⟨n, h⟩
    exact ⟨some x, l, c, g, rfl, h1, h2⟩

end Go.Proofs.Ytefgpdfbgkhncaa

/- How structs of whole numbers that came in, and slices of them, are read. -/
import Derived.Test.YtadeajdjjcelhaaRow
import Derived.Test.YtadeajdjjcelhaaShape1
namespace Go.Proofs.Ytadeajdjjcelhaa
open Go.ChangeShapes Go.WideShapes Go.ChangeAt Go.RowKit Go.Joins

theorem Try.cells2 : Try.prog.cellsOf 2 = 1 := by kernel_rfl

/-- the cells of a struct all of whose fields are numbers of 64 bits -/
theorem ints_struct {H : Type} {enc : TypeId × Value → H} {W : World} {base : Nat} {spare : Nat → Bool} {held : Bool} {n : Nat} {cs : List Value} {y : DataW H × List MemPlace} {t : TypeId} {fs : Array Field} {m : Nat}
    (ht : Try.prog.underlying t = some (.struct fs)) (hm : Try.prog.cellsOf t = m) (hf : fs.toList.map (fun f => (f.type, f.offset)) = (List.range m).map fun i => (2, i))
    (h : DataW.trod enc Try.prog W base spare held n t cs = some y) : cs.length = m ∧ ∀ i, i < m → ∃ z, cs[i]? = some (.int .i64 z) := by
  obtain ⟨xs, n', _, _, hl, hlen, hx⟩ := DataW.trod_struct ht h
  refine ⟨hl.trans hm, fun i hi => ?_⟩
  have hi' : (fs.toList.map (fun f => (f.type, f.offset)))[i]? = some (2, i) := by
    rw [hf]; simp [hi]
  rw [List.getElem?_map] at hi'
  cases hfi : fs.toList[i]? with
  | none => rw [hfi] at hi'; cases hi'
  | some f =>
    rw [hfi] at hi'
    simp only [Option.map_some, Option.some.injEq, Prod.mk.injEq] at hi'
    obtain ⟨h2, h3⟩ := hi'
    have hx := hx i f (by rw [← hfi]; simp)
    have hsz : i < xs.length := by
      rw [hlen]
      have := (List.getElem?_eq_some_iff.1 hfi).1
      simpa using this
    rw [h2, h3, Try.cells2] at hx
    have hc : i < cs.length := by rw [hl, hm]; exact hi
    have e1 : (cs.drop i).take 1 = [cs[i]] := by
      rw [List.drop_eq_getElem_cons hc]; rfl
    rw [e1] at hx
    rw [List.getElem?_eq_getElem hc]
    have : ∃ y, DataW.trod enc Try.prog W base spare held n' 2 [cs[i]] = some y := ⟨_, by simpa [List.getElem?_eq_getElem hsz] using hx⟩
    obtain ⟨y, hy⟩ := this
    obtain ⟨z, hz, _⟩ := int_cell Try.underlying2 hy
    exact ⟨z, by rw [hz]⟩

/-- a slice of such structs holds these numbers, cell by cell -/
theorem ns_of {H : Type} {enc : TypeId × Value → H} {W : World} {base : Nat} {spare : Nat → Bool} {held : Bool} {a : Option Addr} {len cap : Nat} {d : DataW H} {p : List MemPlace} {t e : TypeId} {fs : Array Field} {m : Nat}
    (hs : Try.prog.underlying t = some (.slice e)) (ht : Try.prog.underlying e = some (.struct fs)) (hm : Try.prog.cellsOf e = m) (hf : fs.toList.map (fun f => (f.type, f.offset)) = (List.range m).map fun i => (2, i)) (m0 : 0 < m)
    (h : DataW.Trod enc Try.prog W base spare held t (.slice a len cap) d p) : len ≤ maxLen ∧ ∃ g, Px a (len * m) g W := by
  obtain ⟨fuel, hh⟩ := h
  rcases DataW.trod_slice hs hh with ⟨hcs, _⟩ | ⟨x, l, c, elems, rest, n, _, hcs, _, hb, hl, hmx, hlen, hel, _, _⟩
  · simp [Value.cells] at hcs
    obtain ⟨rfl, rfl, rfl⟩ := hcs
    exact ⟨by unfold maxLen; omega, fun _ => 0, .inl (by simp)⟩
  · simp [Value.cells] at hcs
    obtain ⟨rfl, rfl, rfl⟩ := hcs
    refine ⟨Nat.le_trans hl hmx, ?_⟩
    by_cases h0 : len = 0
    · exact ⟨fun _ => 0, .inl (by simp [h0])⟩
    have each : ∀ q, ∃ z : Int, q < len * m → W.cell? ((x.add (q / m * m)).add (q % m)) = some (.int .i64 z) := by
      intro q
      by_cases hq : q < len * m
      · have hi : q / m < len := Nat.div_lt_of_lt_mul (by rw [Nat.mul_comm]; exact hq)
        have := hel (q / m) hi
        rw [List.getElem?_eq_getElem (by omega)] at this
        obtain ⟨cs, hc, htr⟩ := Option.bind_eq_some_iff.1 this
        rw [hm] at hc
        obtain ⟨_, hcl, hcc⟩ := World.cells?_some hc
        obtain ⟨_, hz⟩ := ints_struct ht hm hf htr
        obtain ⟨z, hz⟩ := hz (q % m) (Nat.mod_lt _ m0)
        have hlt : q % m < cs.length := by rw [hcl]; exact Nat.mod_lt _ m0
        refine ⟨z, fun _ => ?_⟩
        have hcell := hcc (q % m) (Nat.mod_lt _ m0)
        rw [List.getElem?_eq_getElem hlt] at hz
        rw [hcell, List.getElem?_eq_getElem hlt]
        exact hz
      · exact ⟨0, fun h => absurd h hq⟩
    obtain ⟨g, hg⟩ := Classical.skolem.1 each
    obtain ⟨b, off, spot⟩ := x
    have hlm : 0 < len * m := Nat.mul_pos (by omega) m0
    have hspot : spot = none := by
      have := hg 0 hlm
      simpa [Addr.add] using World.cell?_spot this
    subst hspot
    refine ⟨g, .inr ⟨b, off, rfl, fun k hk => ?_⟩⟩
    have := hg k hk
    rw [add_plain, add_plain] at this
    have e : off + k / m * m + k % m = off + k := by
      have := Nat.div_add_mod k m
      rw [Nat.mul_comm] at this
      rw [Nat.add_assoc, this]
    rw [e] at this
    exact this

theorem Try.cells39 : Try.prog.cellsOf 39 = 7 := by kernel_rfl

set_option maxRecDepth 100000 in
/-- a shape that came in, opened -/
theorem open_sh {H : Type} {enc : TypeId × Value → H} {W : World} {base : Nat} {spare : Nat → Bool} {held : Bool} {r : Reach} {b0 : Nat} {v : Value} {d : DataW H} {p : List MemPlace}
    (hv : Value.okWide Try.prog W r b0 39 v) (h : DataW.Trod enc Try.prog W base spare held 39 v d p) : ∃ K X Y A B C V, v = sh K X Y A B C V := by
  obtain ⟨cs, rfl, hsz⟩ := okWide_struct Try.underlying39 hv
  obtain ⟨fuel, hh⟩ := h
  obtain ⟨hl, hz⟩ := ints_struct Try.underlying39 Try.cells39 rfl hh
  have hl' : cs.toList.length = 7 := by simpa [Value.cells] using hl
  have hz' : ∀ i, i < 7 → ∃ z, cs.toList[i]? = some (.int .i64 z) := by simpa [Value.cells] using hz
  obtain ⟨L⟩ := cs
  match L, hl', hz' with
  | [c0, c1, c2, c3, c4, c5, c6], _, hz' =>
    obtain ⟨K, e0⟩ := hz' 0 (by omega)
    obtain ⟨X, e1⟩ := hz' 1 (by omega)
    obtain ⟨Y, e2⟩ := hz' 2 (by omega)
    obtain ⟨A, e3⟩ := hz' 3 (by omega)
    obtain ⟨B, e4⟩ := hz' 4 (by omega)
    obtain ⟨C, e5⟩ := hz' 5 (by omega)
    obtain ⟨V, e6⟩ := hz' 6 (by omega)
    simp at e0 e1 e2 e3 e4 e5 e6
    subst e0 e1 e2 e3 e4 e5 e6
    exact ⟨K, X, Y, A, B, C, V, rfl⟩

end Go.Proofs.Ytadeajdjjcelhaa

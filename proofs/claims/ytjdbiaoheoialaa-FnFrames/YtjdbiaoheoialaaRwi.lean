/- How lists of numbers and images that came in are read. -/
import Derived.Test.YtjdbiaoheoialaaRows
import Derived.Test.YtjdbiaoheoialaaLst
import Derived.WalkKit
import Derived.ProofKit
import Derived.OpenShut
import Derived.ShutString
import Derived.ChangeOld
import Derived.Below
import Derived.Lib.SmallJoins
import Derived.Laws.Cover2
namespace Go.Proofs.Ytjdbiaoheoialaa
open Go.ChangeShapes Go.WideShapes Go.ChangeAt Go.RowKit Go.Joins

theorem own : ownKnob Try.prog.godebug = none := by kernel_rfl
theorem laidOut : laidOutB Try.prog = true := by kernel_rfl

theorem int_cell {H : Type} {enc : TypeId × Value → H} {P : Program} {w : World} {base : Nat} {spare : Nat → Bool} {held : Bool} {t : TypeId} {k : IntKind} {n : Nat} {v : Value} {y : DataW H × List MemPlace}
    (ht : P.underlying t = some (.int k)) (h : DataW.trod enc P w base spare held n t [v] = some y) : ∃ b, v = .int k b ∧ (Lit.int k b).wf = true := by
  obtain ⟨b, hb, _, hw⟩ := DataW.trod_int ht h
  simp at hb
  exact ⟨b, hb, hw⟩

theorem px_cell {H : Type} {enc : TypeId × Value → H} {W : World} {base : Nat} {spare : Nat → Bool} {held : Bool} {n : Nat} {v : Value} {y : DataW H × List MemPlace}
    (h : DataW.trod enc Try.prog W base spare held n 24 [v] = some y) : ∃ a len cap f, v = .slice a len cap ∧ len ≤ maxLen ∧ Px a len f W := by
  rcases open_ints Try.underlying24 Try.underlying2 (by kernel_rfl) h with ⟨hcs, _⟩ | ⟨x, l, c, zs, hcs, _, hl, hm, hz, _, hcell, hwz⟩
  · simp at hcs
    exact ⟨none, 0, 0, fun _ => 0, hcs, by unfold maxLen; omega, .inl rfl⟩
  · simp at hcs
    refine ⟨some x, l, c, fun k => zs.getD k 0, hcs, Nat.le_trans hl hm, ?_⟩
    by_cases h0 : l = 0
    · exact .inl h0
    · have hzl : l ≤ zs.length := by rw [hz]; split <;> omega
      clear hz
      obtain ⟨b, off, rfl, hc⟩ := ints_at hcell (by omega)
      exact .inr ⟨b, off, rfl, fun k hk => hc k (by omega)⟩

/-- a list of numbers that came in, opened -/
theorem px_of {H : Type} {enc : TypeId × Value → H} {W : World} {base : Nat} {spare : Nat → Bool} {held : Bool} {a : Option Addr} {len cap : Nat} {d : DataW H} {p : List MemPlace}
    (h : DataW.Trod enc Try.prog W base spare held 24 (.slice a len cap) d p) : len ≤ maxLen ∧ ∃ f, Px a len f W := by
  obtain ⟨fuel, hf⟩ := h
  rcases open_ints Try.underlying24 Try.underlying2 (by kernel_rfl) hf with ⟨hcs, _⟩ | ⟨x, l, c, zs, hcs, _, hl, hm, hz, _, hcell, hwz⟩
  · simp [Value.cells] at hcs
    obtain ⟨rfl, rfl, rfl⟩ := hcs
    exact ⟨by unfold maxLen; omega, fun _ => 0, .inl rfl⟩
  · simp [Value.cells] at hcs
    obtain ⟨rfl, rfl, rfl⟩ := hcs
    refine ⟨Nat.le_trans hl hm, fun k => zs.getD k 0, ?_⟩
    by_cases h0 : len = 0
    · exact .inl h0
    · have hzl : len ≤ zs.length := by rw [hz]; split <;> omega
      clear hz
      obtain ⟨b, off, rfl, hc⟩ := ints_at hcell (by omega)
      exact .inr ⟨b, off, rfl, fun k hk => hc k (by omega)⟩

theorem Try.cells2 : Try.prog.cellsOf 2 = 1 := by kernel_rfl
/-- the cells of a struct all of whose fields are numbers of 64 bits -/
theorem ints_struct {H : Type} {enc : TypeId × Value → H} {W : World} {base : Nat} {spare : Nat → Bool} {held : Bool} {n : Nat} {cs : List Value} {y : DataW H × List MemPlace} {t : TypeId} {fs : Array Field} {m : Nat}
    (ht : Try.prog.underlying t = some (.struct fs)) (hm : Try.prog.cellsOf t = m) (hf : fs.toList.map (fun f => (f.type, f.offset)) = (List.range m).map fun i => (2, i))
    (h : DataW.trod enc Try.prog W base spare held n t cs = some y) : cs.length = m ∧ ∀ i, i < m → ∃ z, cs[i]? = some (.int .i64 z) := by
  obtain ⟨xs, n', _, _, hl, hlen, hx⟩ := DataW.trod_struct ht h
  refine ⟨hl.trans hm, fun i hi => ?_⟩
  have hi' : (fs.toList.map (fun f => (f.type, f.offset)))[i]? = some (2, i) := by
    rw [hf]; simp [hi]
  rw [List.getElem?_map] at hi'
  cases hfi : fs.toList[i]? with
  | none => rw [hfi] at hi'; cases hi'
  | some f =>
    rw [hfi] at hi'
    simp only [Option.map_some, Option.some.injEq, Prod.mk.injEq] at hi'
    obtain ⟨h2, h3⟩ := hi'
    have hx := hx i f (by rw [← hfi]; simp)
    have hsz : i < xs.length := by
      rw [hlen]
      have := (List.getElem?_eq_some_iff.1 hfi).1
      simpa using this
    rw [h2, h3, Try.cells2] at hx
    have hc : i < cs.length := by rw [hl, hm]; exact hi
    have e1 : (cs.drop i).take 1 = [cs[i]] := by
      rw [List.drop_eq_getElem_cons hc]; rfl
    rw [e1] at hx
    rw [List.getElem?_eq_getElem hc]
    have : ∃ y, DataW.trod enc Try.prog W base spare held n' 2 [cs[i]] = some y := ⟨_, by simpa [List.getElem?_eq_getElem hsz] using hx⟩
    obtain ⟨y, hy⟩ := this
    obtain ⟨z, hz, _⟩ := int_cell Try.underlying2 hy
    exact ⟨z, by rw [hz]⟩

/-- a slice of such structs holds these numbers, cell by cell -/
theorem ns_of {H : Type} {enc : TypeId × Value → H} {W : World} {base : Nat} {spare : Nat → Bool} {held : Bool} {a : Option Addr} {len cap : Nat} {d : DataW H} {p : List MemPlace} {t e : TypeId} {fs : Array Field} {m : Nat}
    (hs : Try.prog.underlying t = some (.slice e)) (ht : Try.prog.underlying e = some (.struct fs)) (hm : Try.prog.cellsOf e = m) (hf : fs.toList.map (fun f => (f.type, f.offset)) = (List.range m).map fun i => (2, i)) (m0 : 0 < m)
    (h : DataW.Trod enc Try.prog W base spare held t (.slice a len cap) d p) : len ≤ maxLen ∧ ∃ g, Px a (len * m) g W := by
  obtain ⟨fuel, hh⟩ := h
  rcases DataW.trod_slice hs hh with ⟨hcs, _⟩ | ⟨x, l, c, elems, rest, n, _, hcs, _, hb, hl, hmx, hlen, hel, _, _⟩
  · simp [Value.cells] at hcs
    obtain ⟨rfl, rfl, rfl⟩ := hcs
    exact ⟨by unfold maxLen; omega, fun _ => 0, .inl (by simp)⟩
  · simp [Value.cells] at hcs
    obtain ⟨rfl, rfl, rfl⟩ := hcs
    refine ⟨Nat.le_trans hl hmx, ?_⟩
    by_cases h0 : len = 0
    · exact ⟨fun _ => 0, .inl (by simp [h0])⟩
    have each : ∀ q, ∃ z : Int, q < len * m → W.cell? ((x.add (q / m * m)).add (q % m)) = some (.int .i64 z) := by
      intro q
      by_cases hq : q < len * m
      · have hi : q / m < len := Nat.div_lt_of_lt_mul (by rw [Nat.mul_comm]; exact hq)
        have := hel (q / m) hi
        rw [List.getElem?_eq_getElem (by omega)] at this
        obtain ⟨cs, hc, htr⟩ := Option.bind_eq_some_iff.1 this
        rw [hm] at hc
        obtain ⟨_, hcl, hcc⟩ := World.cells?_some hc
        obtain ⟨_, hz⟩ := ints_struct ht hm hf htr
        obtain ⟨z, hz⟩ := hz (q % m) (Nat.mod_lt _ m0)
        have hlt : q % m < cs.length := by rw [hcl]; exact Nat.mod_lt _ m0
        refine ⟨z, fun _ => ?_⟩
        have hcell := hcc (q % m) (Nat.mod_lt _ m0)
        rw [List.getElem?_eq_getElem hlt] at hz
        rw [hcell, List.getElem?_eq_getElem hlt]
        exact hz
      · exact ⟨0, fun h => absurd h hq⟩
    obtain ⟨g, hg⟩ := Classical.skolem.1 each
    obtain ⟨b, off, spot⟩ := x
    have hlm : 0 < len * m := Nat.mul_pos (by omega) m0
    have hspot : spot = none := by
      have := hg 0 hlm
      simpa [Addr.add] using World.cell?_spot this
    subst hspot
    refine ⟨g, .inr ⟨b, off, rfl, fun k hk => ?_⟩⟩
    have := hg k hk
    rw [add_plain, add_plain] at this
    have e : off + k / m * m + k % m = off + k := by
      have := Nat.div_add_mod k m
      rw [Nat.mul_comm] at this
      rw [Nat.add_assoc, this]
    rw [e] at this
    exact this

end Go.Proofs.Ytjdbiaoheoialaa

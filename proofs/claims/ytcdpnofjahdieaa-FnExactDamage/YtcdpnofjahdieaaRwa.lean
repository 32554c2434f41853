/- How an archive that came in is read. -/
import Derived.Test.YtcdpnofjahdieaaRsn
import Derived.Test.YtcdpnofjahdieaaAsz
namespace Go.Proofs.Ytcdpnofjahdieaa
open Go.ChangeShapes Go.WideShapes Go.ChangeAt Go.RowKit Go.Joins

theorem cellsLArch : Try.prog.cellsOf 26 = 5 := by kernel_rfl
set_option maxRecDepth 100000 in
theorem arch_open {H : Type} {enc : TypeId × Value → H} {W : World} {base b0 : Nat} {r : Reach} {spare : Nat → Bool} {held : Bool} {v : Value} {d : DataW H} {p : List MemPlace}
    (hv : Value.okWide Try.prog W r b0 26 v) (h : DataW.Trod enc Try.prog W base spare held 26 v d p) :
    ∃ aI nI cI I aL nL cL L aR nR cR R aA nA cA A clock, v = vArch aI nI cI aL nL cL aR nR cR aA nA cA clock ∧ (nI ≤ maxLen ∧ nL ≤ maxLen ∧ nR ≤ maxLen ∧ nA ≤ maxLen) ∧ TxA I L R A ∧ PxA aI nI I aL nL L aR nR R aA nA A W := by
  obtain ⟨cs, rfl, hsz⟩ := okWide_struct Try.underlying26 hv
  rw [cellsLArch] at hsz
  obtain ⟨fuel, hf⟩ := h
  obtain ⟨ys, m, _, hx, hl, hlen, hel⟩ := DataW.trod_struct Try.underlying26 hf
  have e0 : Try.prog.cellsOf 22 = 1 := by kernel_rfl
  have e1 : Try.prog.cellsOf 23 = 1 := by kernel_rfl
  have e3 : Try.prog.cellsOf 24 = 1 := by kernel_rfl
  have e4 : Try.prog.cellsOf 2 = 1 := by kernel_rfl
  obtain ⟨c0, c1, c2, c3, c4, rfl⟩ : ∃ c0 c1 c2 c3 c4, cs = #[c0, c1, c2, c3, c4] := by
    obtain ⟨l⟩ := cs
    match l, hsz with
    | [c0, c1, c2, c3, c4], _ => exact ⟨c0, c1, c2, c3, c4, rfl⟩
  match ys, hlen, hel with
  | [y0, y1, y2, y3, y4], _, hel =>
    have g0 : DataW.trod enc Try.prog W base spare held m 22 (([c0, c1, c2, c3, c4].drop 0).take (Try.prog.cellsOf 22)) = some y0 := hel 0 _ rfl
    have g1 : DataW.trod enc Try.prog W base spare held m 23 (([c0, c1, c2, c3, c4].drop 1).take (Try.prog.cellsOf 23)) = some y1 := hel 1 _ rfl
    have g2 : DataW.trod enc Try.prog W base spare held m 23 (([c0, c1, c2, c3, c4].drop 2).take (Try.prog.cellsOf 23)) = some y2 := hel 2 _ rfl
    have g3 : DataW.trod enc Try.prog W base spare held m 24 (([c0, c1, c2, c3, c4].drop 3).take (Try.prog.cellsOf 24)) = some y3 := hel 3 _ rfl
    have g4 : DataW.trod enc Try.prog W base spare held m 2 (([c0, c1, c2, c3, c4].drop 4).take (Try.prog.cellsOf 2)) = some y4 := hel 4 _ rfl
    rw [e0] at g0
    rw [e1] at g1 g2
    rw [e3] at g3
    rw [e4] at g4
    obtain ⟨aI, nI, cI, I, rfl, hnI, hsI, hpI⟩ := entrys_cell (v := c0) g0
    obtain ⟨aL, nL, cL, L, rfl, hnL, hsL, hpL⟩ := copys_cell (v := c1) g1
    obtain ⟨aR, nR, cR, R, rfl, hnR, hsR, hpR⟩ := copys_cell (v := c2) g2
    obtain ⟨aA, nA, cA, A, rfl, hnA, hsA, hpA⟩ := notes_cell (v := c3) g3
    obtain ⟨clock, rfl, _⟩ := int_cell (v := c4) Try.underlying2 g4
    exact ⟨aI, nI, cI, I, aL, nL, cL, L, aR, nR, cR, R, aA, nA, cA, A, clock, rfl, ⟨hnI, hnL, hnR, hnA⟩, ⟨hsI, hsL, hsR, hsA⟩, ⟨hpI, hpL, hpR, hpA⟩⟩

end Go.Proofs.Ytcdpnofjahdieaa

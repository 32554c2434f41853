/- The twelve turns: the program. -/
import Derived.Test.YtggiegfkmkaaeaaDoorTul
import Derived.Test.YtggiegfkmkaaeaaDoorTrt
import Derived.Test.YtggiegfkmkaaeaaDoorRows
import Derived.LaidMore
import Derived.Stop.Joined
import Derived.ChangeVars
import Derived.MakeChecks
import Derived.ProofKit
import Derived.OpenShut
import Derived.ChangeOld
import Derived.Lib.SmallJoins
import Derived.Test.YtggiegfkmkaaeaaDoorRwi
import Derived.Deep.MidRow
import Derived.Deep.DeepCutAuto
namespace Go.Proofs.YtggiegfkmkaaeaaDoor
open Go.ChangeShapes Go.WideShapes Go.ChangeAt Go.RowKit Go.Joins

theorem gTable : Tryd.prog.globalNamed "loop.example/g00050/impl.turnTable" = some 0 := by kernel_rfl
theorem tTable : (Tryd.prog.globals[0]?).map (·.type) = some 47 := by kernel_rfl
theorem cellsTurn : Tryd.prog.cellsOf 30 = 4 := by kernel_rfl

/-- the table, turn by turn -/
def tbL : List (List Int) := [[2, 0, 0, 0], [1, 1, 1, 1], [1, 1, 1, -1], [1, 1, -1, 1], [1, 1, -1, -1], [1, -1, 1, 1], [1, -1, 1, -1], [1, -1, -1, 1], [1, -1, -1, -1], [0, 2, 0, 0], [0, 0, 2, 0], [0, 0, 0, 2]]
/-- the table, number by number -/
def tbA : List Int := tbL.flatten
/-- the table lies at the first variable's block -/
def Tbl (w : World) : Prop := ∀ j, j < 48 → w.cell? ⟨0, j, none⟩ = some (.int .i64 (tbA.getD j 0))
theorem Tbl.below {B : Nat} {w w' : World} (h : Tbl w) (hb : Below B w w') (hB : w.heap.size ≤ B) : Tbl w' := fun j hj =>
  (hb.cell (p := ⟨0, j, none⟩) (Nat.lt_of_lt_of_le (World.block_lt_of_cell? w _ (h j hj)) hB)).trans (h j hj)

/-- the cells of a struct of numbers whose numbers are known -/
theorem ints_data {H : Type} {enc : TypeId × Value → H} {W : World} {base : Nat} {spare : Nat → Bool} {held : Bool} {n : Nat} {cs : List Value} {y : DataW H × List MemPlace} {t : TypeId} {fs : Array Field} {m : Nat} {zs : List Int}
    (ht : Tryd.prog.underlying t = some (.struct fs)) (hm : Tryd.prog.cellsOf t = m) (hf : fs.toList.map (fun f => (f.type, f.offset)) = (List.range m).map fun i => (2, i))
    (h : DataW.trod enc Tryd.prog W base spare held n t cs = some y) (hz : y.1 = .agg (zs.map fun z => .lit (.int .i64 z))) : ∀ i, i < m → cs[i]? = some (.int .i64 (zs.getD i 0)) := by
  obtain ⟨xs, n', _, hy, hl, hlen, hx⟩ := DataW.trod_struct ht h
  intro i hi
  have hi' : (fs.toList.map (fun f => (f.type, f.offset)))[i]? = some (2, i) := by
    rw [hf]; simp [hi]
  rw [List.getElem?_map] at hi'
  cases hfi : fs.toList[i]? with
  | none => rw [hfi] at hi'; cases hi'
  | some f =>
    rw [hfi] at hi'
    simp only [Option.map_some, Option.some.injEq, Prod.mk.injEq] at hi'
    obtain ⟨h2, h3⟩ := hi'
    have hx := hx i f (by rw [← hfi]; simp)
    have hsz : i < xs.length := by
      rw [hlen]
      have := (List.getElem?_eq_some_iff.1 hfi).1
      simpa using this
    rw [h2, h3, Tryd.cells2] at hx
    have hc : i < cs.length := by rw [hl, hm]; exact hi
    have e1 : (cs.drop i).take 1 = [cs[i]] := by
      rw [List.drop_eq_getElem_cons hc]; rfl
    rw [e1, List.getElem?_eq_getElem hsz] at hx
    rw [List.getElem?_eq_getElem hc]
    obtain ⟨b, hb, hyb, _⟩ := DataW.trod_int Tryd.underlying2 hx
    rw [hy] at hz
    simp only [DataW.agg.injEq] at hz
    have hq : (xs.map (·.1))[i]? = (zs.map fun z => (.lit (.int .i64 z) : DataW H))[i]? := by rw [hz]
    rw [List.getElem?_map, List.getElem?_map, List.getElem?_eq_getElem hsz, Option.map_some, hyb] at hq
    cases hzi : zs[i]? with
    | none => rw [hzi] at hq; cases hq
    | some z =>
      rw [hzi] at hq
      simp only [Option.map_some, Option.some.injEq, DataW.lit.injEq, Lit.int.injEq, true_and] at hq
      rw [List.getD_eq_getElem?_getD, hzi, Option.getD_some, ← hq]
      simpa using hb

set_option maxRecDepth 100000 in
theorem tbl_of {H : Type} {enc : TypeId × Value → H} {W : World} {base : Nat} {spare : Nat → Bool} {held : Bool} {n : Nat} {cs : Array Value} {p : List MemPlace} (hv : W.var? Tryd.prog "loop.example/g00050/impl.turnTable" = some cs)
    (h : DataW.trod enc Tryd.prog W base spare held n 47 cs.toList = some (Rows.laid_loop_example_g00050_impl_turnTable, p)) : Tbl W := by
  obtain ⟨xs, m, _, hx, hl, hn, hel⟩ := DataW.trod_array Tryd.underlying47 h
  rw [cellsTurn] at hel
  have hlaid : (Rows.laid_loop_example_g00050_impl_turnTable : DataW H) = .agg (tbL.map fun zs => .agg (zs.map fun z => .lit (.int .i64 z))) := rfl
  rw [hlaid] at hx
  simp only [Prod.mk.injEq, DataW.agg.injEq] at hx
  have hcell := fun i => World.var?_cell gTable hv i
  have one : ∀ q, q < 12 → ∀ i, i < 4 → cs.toList[q * 4 + i]? = some (.int .i64 ((tbL.getD q []).getD i 0)) := by
    intro q hq i hi
    have hsz : q < xs.length := by omega
    have h1 := hel q (by omega)
    rw [List.getElem?_eq_getElem hsz] at h1
    have h2 : (tbL.map fun zs => (.agg (zs.map fun z => .lit (.int .i64 z)) : DataW H))[q]? = (xs.map (·.1))[q]? := by rw [hx.1]
    have hq' : q < tbL.length := hq
    rw [List.getElem?_map, List.getElem?_map, List.getElem?_eq_getElem hsz, List.getElem?_eq_getElem hq', Option.map_some, Option.map_some, Option.some.injEq] at h2
    have h3 := ints_data Tryd.underlying30 cellsTurn (by decide +kernel) h1 h2.symm i hi
    rw [List.getElem?_take_of_lt hi, List.getElem?_drop] at h3
    rw [h3, List.getD_eq_getElem?_getD (l := tbL), List.getElem?_eq_getElem hq', Option.getD_some]
  have tb : ∀ j, j < 48 → tbA.getD j 0 = (tbL.getD (j / 4) []).getD (j % 4) 0 := by decide +kernel
  intro j hj
  rw [hcell, ← Array.getElem?_toList, tb j hj]
  have := one (j / 4) (by omega) (j % 4) (by omega)
  rwa [Nat.div_add_mod'] at this

theorem tbl_of_laid {W : World} (h : laidMetH Tryd.prog [("loop.example/g00050/impl.turnTable", Rows.laid_loop_example_g00050_impl_turnTable)] W) : Tbl W := by
  rw [MakeChecks.laidMetH_plain _ _ _ (by kernel_rfl)] at h
  obtain ⟨ps, ⟨g0, t0, cs0, f0, p0, q0, hg0, ht0, hv0, hd0, _, _⟩, _, _⟩ := h
  obtain rfl := Option.some.inj (gTable.symm.trans hg0)
  obtain rfl := Option.some.inj (tTable.symm.trans ht0)
  exact tbl_of hv0 hd0

/-- what the specification's loop has at a number -/
def tnF (a b c d : Int) : Int := if a = 0 then (if b = 0 then (if c = 0 then d else c) else b) else a
def tnK (a b c d : Int) : Bool := tkB a b c d && decide (0 < tnF a b c d)
def tnT (n : Nat) : List Int := [(n : Int) / 125 - 2, (n : Int) / 25 % 5 - 2, (n : Int) / 5 % 5 - 2, (n : Int) % 5 - 2]
def tnQ (n : Nat) : Bool := tnK ((n : Int) / 125 - 2) ((n : Int) / 25 % 5 - 2) ((n : Int) / 5 % 5 - 2) ((n : Int) % 5 - 2)
def tnL : Nat → List Int
  | 0 => []
  | m + 1 => if tnQ (624 - m) = true then tnL m ++ tnT (624 - m) else tnL m
def tnC : Nat → Nat
  | 0 => 0
  | m + 1 => if tnQ (624 - m) = true then tnC m + 1 else tnC m
theorem tnC_le : ∀ m, tnC m ≤ m
  | 0 => Nat.le_refl _
  | m + 1 => by
    have := tnC_le m
    unfold tnC
    split <;> omega
set_option maxRecDepth 100000 in
theorem tnL_all : tnL 625 = tbA ∧ tnC 625 = 12 := by decide +kernel

end Go.Proofs.YtggiegfkmkaaeaaDoor

namespace Go.Proofs.YtggiegfkmkaaeaaDoor
open Go.RowKit

set_option maxRecDepth 100000 in
theorem infoTu : ∃ i, Tryd.prog.info? 30 = some i ∧ i.zero = some (vTurn 0 0 0 0) ∧ i.size = 4 ∧ i.bytes = 32 := ⟨_, rfl, rfl, rfl, rfl⟩

/-- a turn is appended to a list of the call's own -/
theorem growTu (w : World) {ops : Array Oper} {rest : List Oper} {o : Oper} {a : Act} {Q : Exit → Act → World → Prop} (hgd : o.guard = none) (s x : Operand)
    (ho : o.op = .call { callee := .builtin .append, args := #[s, x], argTypes := #[22, 22] }) (B : Nat) (v : Value) (n : Nat) (L : List Int) (hs : a.eval s = v) (w0 : World) (hown : w.ownsRow B 30 4 v n (ints L))
    (hb : Below B w0 w) (hB : B ≤ w.heap.size) (x0 x1 x2 x3 : Int) (hx : a.eval x = .slice (some ⟨w.heap.size, 0, none⟩) 1 1) (hn : n ≤ 1048576)
    (h : ∀ v' w', w'.ownsRow B 30 4 v' (n + 1) (ints (L ++ [x0, x1, x2, x3])) → Below B w0 w' → w.heap.size < w'.heap.size → wpList Tryd.prog ops Q rest (a.put o.dst v') w') :
    wpList Tryd.prog ops Q (o :: rest) a (w.alloc (.cells #[.int .i64 x0, .int .i64 x1, .int .i64 x2, .int .i64 x3] 30)) := by
  obtain ⟨ti, hi1, hi2, hi3, hi4⟩ := infoTu
  exact grow w hgd s x 22 ho B 30 ti (vTurn 0 0 0 0) 4 32 Tryd.underlying22 hi1 hi2 hi3 hi4 rfl (by omega) v n L hs w0 hown hb hB [x0, x1, x2, x3] 1 1 hx rfl (by unfold maxLen; omega) (by omega) h

theorem owns_keptB {w w' : World} {B n m : Nat} {e : TypeId} {v : Value} {xs : List Value} (h : w.ownsRow B e m v n xs) (hb : Below w.heap.size w w') : w'.ownsRow B e m v n xs := by
  have hl := h.lt
  obtain ⟨h1, h2⟩ := h
  refine ⟨h1, ?_⟩
  rcases h2 with h2 | ⟨g, cap, cur, hv, hB, hg, hr⟩
  · exact .inl h2
  · exact .inr ⟨g, cap, cur, hv, hB, (hb.block g (hl g (by rw [hv]; rfl)).2).trans hg, hr⟩

/-- the twelve turns are answered -/
def TwR (w : World) (e : Ending) (w' : World) : Prop := ∃ v, e = .returned v ∧ w'.ownsRow w.heap.size 30 4 v 12 (ints tbA) ∧ Below w.heap.size w w'

theorem tn_parts {n : Nat} (hn : n ≤ 624) : ∃ a b c d : Int, a = (n : Int) / 125 - 2 ∧ b = (n : Int) / 25 % 5 - 2 ∧ c = (n : Int) / 5 % 5 - 2 ∧ d = (n : Int) % 5 - 2 ∧ (-2 ≤ a ∧ a ≤ 2) ∧ (-2 ≤ b ∧ b ≤ 2) ∧ (-2 ≤ c ∧ c ≤ 2) ∧ (-2 ≤ d ∧ d ≤ 2) ∧
    (n : Int) / 125 = a + 2 ∧ (n : Int) / 25 % 5 = b + 2 ∧ (n : Int) / 5 % 5 = c + 2 ∧ (n : Int) % 5 = d + 2 :=
  ⟨_, _, _, _, rfl, rfl, rfl, rfl, by omega, by omega, by omega, by omega, by omega, by omega, by omega, by omega⟩

set_option maxRecDepth 100000 in
set_option maxHeartbeats 4000000 in
theorem specTurns_any (w : World) : Calls Tryd.prog 5 #[] w (TwR w) := by
  have hb0 := bnew w (.cells #[] 30)
  have HO0 : Hid ((w.alloc (.cells #[] 30)).ownsRow w.heap.size 30 4 (.slice (some ⟨w.heap.size, 0, none⟩) 0 0) 0 (ints [])) := World.ownsRow_lit w #[] 0 (Nat.le_refl _) (by unfold maxLen; omega) rfl
  have HB0 := hide hb0
  clear hb0
  go_enter Tryd.func5, Tryd.ntmps5
  go_upto_region 2 with fail
  generalize hw1 : w.alloc (.cells #[] 30) = w1 at *
  clear hw1
  go_wp2_with fail
  go_loopw [1, 2] (fun s i wr => ∃ (v : Value) (m : Nat), v = s ∧ m ≤ 625 ∧ i = .int .i64 (624 - (m : Int)) ∧ wr.ownsRow w.heap.size 30 4 v (tnC m) (ints (tnL m)) ∧ Below w.heap.size w wr) (fun _ i _ => (intOf i + 1).toNat)
  case atStart => exact ⟨_, 0, rfl, by omega, rfl, HO0.out, HB0.out⟩
  case round =>
    obtain ⟨v, m, rfl, hm, rfl, ho, hb⟩ := hrel
    have HO := hide ho
    have HB := hide hb
    clear ho hb HO0 HB0
    by_cases hlt : m < 625
    · obtain ⟨n, hn⟩ : ∃ n : Nat, n = 624 - m := ⟨_, rfl⟩
      have hnm : 624 - (m : Int) = n := by omega
      rw [hnm]
      have hn6 : n ≤ 624 := by omega
      have hC := tnC_le m
      obtain ⟨a, b, c, d, ea, eb, ec, ed, ba, bb, bc, bd, q1, q2, q3, q4⟩ := tn_parts hn6
      have hstep : tnL (m + 1) = (if tnK a b c d = true then tnL m ++ [a, b, c, d] else tnL m) ∧ tnC (m + 1) = (if tnK a b c d = true then tnC m + 1 else tnC m) := by
        rw [ea, eb, ec, ed]
        refine ⟨?_, ?_⟩ <;> simp only [tnL, tnC, tnQ, tnT, ← hn]
      have hs2 : 624 - ((m + 1 : Nat) : Int) = (n : Int) - 1 := by omega
      have HT := hide hstep
      have HSZ := hide HB.out.size
      have HS2 := hide hs2
      obtain ⟨v0, hv0⟩ : ∃ v0, v0 = v := ⟨_, rfl⟩
      have cT := fun w' => specTurnOk_any a b c d (by omega) (by omega) (by omega) (by omega) w'
      have HX := hide (Bx.new [.int .i64 a, .int .i64 b, .int .i64 c, .int .i64 d] 30 wr)
      have HXB := hide (bnew wr (.cells #[.int .i64 a, .int .i64 b, .int .i64 c, .int .i64 d] 30))
      have hF : (a ≠ 0 ∧ tnF a b c d = a) ∨ (a = 0 ∧ b ≠ 0 ∧ tnF a b c d = b) ∨ (a = 0 ∧ b = 0 ∧ c ≠ 0 ∧ tnF a b c d = c) ∨ (a = 0 ∧ b = 0 ∧ c = 0 ∧ tnF a b c d = d) := by
        unfold tnF
        repeat' split
        all_goals omega
      clear ea eb ec ed hstep hs2 hnm hn
      go_upto_region 6 with fail
      generalize hwX : wr.alloc (.cells #[.int .i64 a, .int .i64 b, .int .i64 c, .int .i64 d] 30) = wX at *
      have HX' : Hid (Bx wr.heap.size [.int .i64 a, .int .i64 b, .int .i64 c, .int .i64 d] wX) := HX.out
      have HOX := hide (owns_keptB HO.out HXB.out)
      have HBX := hide (HB.out.trans (HXB.out.mono HSZ.out))
      have HKL : Hid (w.heap.size ≤ wr.heap.size ∧ wr.heap.size < wX.heap.size) := ⟨HSZ.out, by rw [← hwX]; simp⟩
      clear HX HO HB HSZ HXB q1 q2 q3 q4 hv0 v0
      generalize wr.heap.size = X at *
      obtain ⟨x0, x1, x2, x3⟩ : wX.cell? ⟨X, 0, none⟩ = some (.int .i64 a) ∧ wX.cell? ⟨X, 1, none⟩ = some (.int .i64 b) ∧ wX.cell? ⟨X, 2, none⟩ = some (.int .i64 c) ∧ wX.cell? ⟨X, 3, none⟩ = some (.int .i64 d) :=
        ⟨(HX'.out 0 _ rfl).1, (HX'.out 1 _ rfl).1, (HX'.out 2 _ rfl).1, (HX'.out 3 _ rfl).1⟩
      have fin : ∀ v' w' q, tnK a b c d = q → (w'.ownsRow w.heap.size 30 4 v' (if q = true then tnC m + 1 else tnC m) (ints (if q = true then tnL m ++ [a, b, c, d] else tnL m))) → Below w.heap.size w w' →
          (∃ (v : Value) (m : Nat), v = v' ∧ m ≤ 625 ∧ Value.int .i64 ((n : Int) - 1) = .int .i64 (624 - (m : Int)) ∧ w'.ownsRow w.heap.size 30 4 v (tnC m) (ints (tnL m)) ∧ Below w.heap.size w w') := by
        intro v' w' q hq h1 h2
        subst hq
        exact ⟨v', m + 1, rfl, by omega, by rw [HS2.out], by rw [HT.out.1, HT.out.2]; exact h1, h2⟩
      have FIN := hide fin
      clear fin hwX
      have HK : Hid (∀ q, tkB a b c d = q → tnK a b c d = (q && decide (0 < tnF a b c d))) := fun q hq => by unfold tnK; rw [hq]
      obtain ⟨q, hq⟩ : ∃ q, tkB a b c d = q := ⟨_, rfl⟩
      simp only [hq] at cT
      have HK := hide (HK.out q hq)
      clear hq HT HS2 hC
      have HF := hide hF
      clear hF
      have HM : Hid (tnC m ≤ 625) := Nat.le_trans (tnC_le m) hm
      go_upto_region 13 with fail
      all_goals
        go_wp2_with fail
        refine (cT _).mono ?_
        rintro e wT ⟨rfl, hbT⟩
        have HOT := hide (owns_keptB HOX.out hbT)
        have HBT := hide (HBX.out.trans (hbT.mono (Nat.le_trans HKL.out.1 (Nat.le_of_lt HKL.out.2))))
        have HXT := hide (HX'.out.below hbT HKL.out.2)
        have HLT := hide (Nat.le_trans HKL.out.1 (Nat.le_trans (Nat.le_of_lt HKL.out.2) hbT.size))
        clear hbT HOX HBX HX' x0 x1 x2 x3 cT
        obtain ⟨x0, x1, x2, x3⟩ : wT.cell? ⟨X, 0, none⟩ = some (.int .i64 a) ∧ wT.cell? ⟨X, 1, none⟩ = some (.int .i64 b) ∧ wT.cell? ⟨X, 2, none⟩ = some (.int .i64 c) ∧ wT.cell? ⟨X, 3, none⟩ = some (.int .i64 d) :=
          ⟨(HXT.out 0 _ rfl).1, (HXT.out 1 _ rfl).1, (HXT.out 2 _ rfl).1, (HXT.out 3 _ rfl).1⟩
        cases q
        · have hk : tnK a b c d = false := HK.out
          have HFI := hide (FIN.out v wT false hk HOT.out HBT.out)
          clear FIN HK HF hk
          go_wp2_with fail
          exact ⟨HFI.out, by simp [intOf] <;> omega⟩
        by_cases hp : 0 < tnF a b c d
        · have hk : tnK a b c d = true := by rw [HK.out]; simp [hp]
          have hs : ((a == 0) = false → 0 < a) ∧ ((a == 0) = true → (b == 0) = false → 0 < b) ∧ ((a == 0) = true → (b == 0) = true → (c == 0) = false → 0 < c) ∧ ((a == 0) = true → (b == 0) = true → (c == 0) = true → 0 < d) := by
            simp only [beq_iff_eq, beq_eq_false_iff_ne, ne_eq]
            have := HF.out
            omega
          first
            | (have hs' := hs.1 (by assumption))
            | (have hs' := hs.2.1 (by assumption) (by assumption))
            | (have hs' := hs.2.2.1 (by assumption) (by assumption) (by assumption))
            | (have hs' := hs.2.2.2 (by assumption) (by assumption) (by assumption))
          clear HK HF hs hp
          go_wp2_with (refine growTu _ rfl _ _ rfl w.heap.size v (tnC m) (tnL m) rfl w HOT.out HBT.out HLT.out a b c d rfl (Nat.le_trans HM.out (by omega)) ?_)
          intro v' w' ho' hb' hs2
          have HFI := hide (FIN.out v' w' true hk ho' hb')
          clear FIN hk ho' hb' hs2
          go_wp2_with fail
          exact ⟨HFI.out, by simp [intOf] <;> omega⟩
        · have hk : tnK a b c d = false := by rw [HK.out]; simp [hp]
          have hs : ((a == 0) = false → ¬ 0 < a) ∧ ((a == 0) = true → (b == 0) = false → ¬ 0 < b) ∧ ((a == 0) = true → (b == 0) = true → (c == 0) = false → ¬ 0 < c) ∧ ((a == 0) = true → (b == 0) = true → (c == 0) = true → ¬ 0 < d) := by
            simp only [beq_iff_eq, beq_eq_false_iff_ne, ne_eq]
            have := HF.out
            omega
          first
            | (have hs' := hs.1 (by assumption))
            | (have hs' := hs.2.1 (by assumption) (by assumption))
            | (have hs' := hs.2.2.1 (by assumption) (by assumption) (by assumption))
            | (have hs' := hs.2.2.2 (by assumption) (by assumption) (by assumption))
          have HFI := hide (FIN.out v wT false hk HOT.out HBT.out)
          clear FIN HK HF hk hs hp
          go_wp2_with fail
          exact ⟨HFI.out, by simp [intOf] <;> omega⟩
    · obtain rfl : m = 625 := by omega
      obtain ⟨e1, e2⟩ := tnL_all
      rw [e1, e2] at HO
      clear e1 e2
      go_wp2_with fail
      go_ret
      exact ⟨_, rfl, HO.out, HB.out⟩
end Go.Proofs.YtggiegfkmkaaeaaDoor

namespace Go.Proofs.YtggiegfkmkaaeaaDoor
open Go.RowKit

theorem tb_under : Tryd.prog.underlying 47 = some (.array 12 30) := by kernel_rfl
theorem tb_info : (Tryd.prog.info? 47).map (·.size) = some (ints tbA).length := by kernel_rfl
theorem tb_take : ∀ k, k < 12 → tbA.take (4 * (k + 1)) = tbA.take (4 * k) ++ [tbA.getD (4 * k) 0, tbA.getD (4 * k + 1) 0, tbA.getD (4 * k + 2) 0, tbA.getD (4 * k + 3) 0] := by decide +kernel
theorem tb_range {w : World} (h : Tbl w) : w.rangeAt 0 0 (ints tbA) := fun j v hv => by
  have hj : j < 48 := by
    have := (List.getElem?_eq_some_iff.1 hv).1
    rw [ints_length] at this
    exact this
  have h1 := h j hj
  rw [Nat.zero_add, h1, ← hv]
  unfold ints
  have hj' : j < tbA.length := hj
  rw [List.getElem?_map, List.getElem?_eq_getElem hj', List.getD_eq_getElem?_getD, List.getElem?_eq_getElem hj']
  rfl
set_option maxRecDepth 100000 in
theorem tb_index (k : Nat) (hk : k < 12) (w : World) : (Instr.index 47 (.agg (ints tbA).toArray) (.int .i64 (k : Int))).run Tryd.prog w = .ok (vTurn (tbA.getD (4 * k) 0) (tbA.getD (4 * k + 1) 0) (tbA.getD (4 * k + 2) 0) (tbA.getD (4 * k + 3) 0)) w := by
  match k, hk with
  | 0, _ => rfl
  | 1, _ => rfl
  | 2, _ => rfl
  | 3, _ => rfl
  | 4, _ => rfl
  | 5, _ => rfl
  | 6, _ => rfl
  | 7, _ => rfl
  | 8, _ => rfl
  | 9, _ => rfl
  | 10, _ => rfl
  | 11, _ => rfl

set_option maxRecDepth 100000 in
set_option maxHeartbeats 4000000 in
theorem implTurns_any (w : World) (h : Tbl w) : Calls Tryd.prog 6 #[] w (TwR w) := by
  have HO0 : Hid (w.ownsRow w.heap.size 30 4 (.slice none 0 0) 0 (ints [])) := ⟨rfl, .inl ⟨rfl, rfl⟩⟩
  have HR := hide (tb_range h)
  have HI := hide tb_index
  have HU := hide tb_info
  have HTA : Hid (∀ k, k < 12 → tbA.take (4 * (k + 1)) = tbA.take (4 * k) ++ [tbA.getD (4 * k) 0, tbA.getD (4 * k + 1) 0, tbA.getD (4 * k + 2) 0, tbA.getD (4 * k + 3) 0]) := tb_take
  have HAL : Hid (tbA.take (4 * 12) = tbA) := rfl
  have HT0 : Hid (tbA.take (4 * 0) = []) := rfl
  clear h
  unfold TwR
  generalize tbA = A at *
  generalize hS : ints A = S at HR HI HU
  have HS := hide hS
  clear hS
  go_enter Tryd.func6, Tryd.ntmps6
  go_wp2_with (refine wpList_load_mid rfl 47 (.global 0) rfl 0 0 rfl S _ HR.out tb_under rfl HU.out ?_)
  have hi := HI.out
  generalize S.toArray = T at *
  clear HR HU HI
  go_wp2_with fail
  go_loopw [1, 5] (fun s i wr => ∃ (v : Value) (k : Nat), v = s ∧ k ≤ 12 ∧ i = .int .i64 (k : Int) ∧ wr.ownsRow w.heap.size 30 4 v k (ints (A.take (4 * k))) ∧ Below w.heap.size w wr) (fun _ i _ => (12 - intOf i).toNat)
  case atStart => exact ⟨_, 0, rfl, by omega, rfl, by rw [HT0.out]; exact HO0.out, Below.refl _ _⟩
  case round =>
    obtain ⟨v, k, rfl, hk, rfl, ho, hb⟩ := hrel
    have HO := hide ho
    have HB := hide hb
    clear ho hb HO0
    by_cases hlt : k < 12
    · have hik := hi k hlt
      have HK := hide (HTA.out k hlt)
      obtain ⟨a, ha⟩ : ∃ a, a = A.getD (4 * k) 0 := ⟨_, rfl⟩
      obtain ⟨b, hb⟩ : ∃ b, b = A.getD (4 * k + 1) 0 := ⟨_, rfl⟩
      obtain ⟨c, hc⟩ : ∃ c, c = A.getD (4 * k + 2) 0 := ⟨_, rfl⟩
      obtain ⟨d, hd⟩ : ∃ d, d = A.getD (4 * k + 3) 0 := ⟨_, rfl⟩
      rw [← ha, ← hb, ← hc, ← hd] at hik HK
      clear ha hb hc hd hi
      have HOX := hide (owns_keptB HO.out (bnew wr (.cells #[.int .i64 a, .int .i64 b, .int .i64 c, .int .i64 d] 30)))
      have HBX := hide (HB.out.trans ((bnew wr (.cells #[.int .i64 a, .int .i64 b, .int .i64 c, .int .i64 d] 30)).mono HB.out.size))
      have HX := hide (Bx.new [.int .i64 a, .int .i64 b, .int .i64 c, .int .i64 d] 30 wr)
      go_upto_region 5 with fail
      generalize hwX : wr.alloc (.cells #[.int .i64 a, .int .i64 b, .int .i64 c, .int .i64 d] 30) = wX at *
      have HX' : Hid (Bx wr.heap.size [.int .i64 a, .int .i64 b, .int .i64 c, .int .i64 d] wX) := HX.out
      clear hwX HX
      generalize wr.heap.size = X at *
      obtain ⟨x0, x1, x2, x3⟩ : wX.cell? ⟨X, 0, none⟩ = some (.int .i64 a) ∧ wX.cell? ⟨X, 1, none⟩ = some (.int .i64 b) ∧ wX.cell? ⟨X, 2, none⟩ = some (.int .i64 c) ∧ wX.cell? ⟨X, 3, none⟩ = some (.int .i64 d) :=
        ⟨(HX'.out 0 _ rfl).1, (HX'.out 1 _ rfl).1, (HX'.out 2 _ rfl).1, (HX'.out 3 _ rfl).1⟩
      have HLX := hide HBX.out.size
      go_wp2_with (refine growTu _ rfl _ _ rfl w.heap.size v k (A.take (4 * k)) rfl w HOX.out HBX.out HLX.out a b c d rfl (by omega) ?_)
      intro v' w' ho' hb' hs2
      rw [← HK.out] at ho'
      have HO' := hide ho'
      have HB' := hide hb'
      clear ho' hb' hs2 HOX HBX HLX HO HB hik
      go_wp2_with fail
      exact ⟨⟨v', k + 1, rfl, by omega, by simp, HO'.out, HB'.out⟩, by simp [intOf] <;> omega⟩
    · obtain rfl : k = 12 := by omega
      rw [HAL.out, HS.out] at HO
      go_wp2_with fail
      go_ret
      exact ⟨_, rfl, HO.out, HB.out⟩
end Go.Proofs.YtggiegfkmkaaeaaDoor

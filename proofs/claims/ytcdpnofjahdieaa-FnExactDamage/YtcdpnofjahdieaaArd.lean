/- Archives: the chain of the book, both sides. -/
import Derived.Test.YtcdpnofjahdieaaArc
import Derived.Deep.RegionHeld3
import Derived.Laws.AppendOwnNone
namespace Go.Proofs.Ytcdpnofjahdieaa
open Go.RowKit

theorem strCells_tx (s : ByteArray) : Lib.strCells s = bys (txL s) := by
  unfold Lib.strCells bys txL
  rw [List.map_map]
  rfl
/-- an append of a text to bytes of the call's own: the walk's step -/
theorem growUS (w : World) {ops : Array Oper} {rest : List Oper} {o : Oper} {a : Act} {Q : Exit → Act → World → Prop} (hgd : o.guard = none) (s x : Operand)
    (ho : o.op = .call { callee := .builtin .append, args := #[s, x], argTypes := #[82, 9] }) (B : Nat) (v : Value) (n : Nat) (L : List Int) (hs : a.eval s = v) (w0 : World) (hown : w.ownsRow B 5 1 v n (bys L)) (hb : Below B w0 w) (hB : B ≤ w.heap.size)
    (t : ByteArray) (hx : a.eval x = .string t) (hn : n + t.size ≤ 2000000000)
    (h : ∀ v' w', w'.ownsRow B 5 1 v' (n + t.size) (bys (L ++ txL t)) → Below B w0 w' → wpList Try.prog ops Q rest (a.put o.dst v') w') :
    wpList Try.prog ops Q (o :: rest) a w := by
  obtain ⟨ti, hi1, hi2, hi3, hi4⟩ := info5
  refine Lib.wpList_append_own_string w hgd s x 82 9 ho B 5 ti Try.underlying82 Try.underlying9 hi1 hi2 hi3 hi4 v n (bys L) hs hown t hx (by unfold maxLen; omega) (by omega) hB ?_
  intro v' w' h1 h2 _
  have hr3 : ∀ q, Value.ownBlock v = some q → B ≤ q := fun q hq => (hown.lt q hq).1
  refine h v' w' ?_ (hb.trans ((Below.refl _ _).grown h2 hB hr3))
  rw [bys_append, ← strCells_tx]; exact h1

/-- byte k of a number -/
def b8 (x : Int) (k : Nat) : Int := x / 2 ^ (8 * k) % 256
theorem b8_low (x : Int) : fl (b8 x) 8 = lowL (IntKind.u64.wrap x) 8 := by
  have hu : IntKind.u64.wrap x = x % 18446744073709551616 := by simp [IntKind.wrap, IntKind.signed, IntKind.bits]
  rw [hu]
  simp only [fl, lowL, List.nil_append, List.cons_append, b8]
  simp only [Nat.mul_zero, Nat.mul_one, Nat.reduceMul, Int.reducePow, List.cons.injEq, and_true]
  refine ⟨?_, ?_, ?_, ?_, ?_, ?_, ?_, ?_⟩ <;> omega
def cat4 (g : Nat → Int) : Nat → List Int
  | 0 => []
  | j + 1 => cat4 g j ++ lowL (IntKind.u64.wrap (g j)) 8
theorem cat4_len (g : Nat → Int) : ∀ j, (cat4 g j).length = 8 * j
  | 0 => rfl
  | j + 1 => by simp only [cat4, List.length_append, cat4_len g j, lowL_len]; omega
theorem own_pxU {w : World} {B n : Nat} {v : Value} {L : List Int} (h : w.ownsRow B 5 1 v n (bys L)) : ∃ a cap, v = .slice a n cap ∧ PxU a n (fun k => L.getD k 0) w := by
  have h' := h
  obtain ⟨hlen, hv | ⟨b, cap, cur, hv, hg, hcur, _, hm, _, _⟩⟩ := h'
  · obtain ⟨rfl, h0⟩ := hv
    exact ⟨none, 0, by rw [h0], .inl h0⟩
  · subst hv
    refine ⟨_, cap, rfl, .inr ⟨b, 0, rfl, fun k hk => ?_⟩⟩
    rw [Nat.zero_add, h.cellAt k (by omega)]
    rw [bys_length] at hlen
    exact bys_at L k (by omega)
theorem getD_by {L : List Int} (h : ∀ x ∈ L, 0 ≤ x ∧ x ≤ 255) (k : Nat) (hk : k < L.length) : 0 ≤ L.getD k 0 ∧ L.getD k 0 ≤ 255 := by
  have e : L.getD k 0 = L[k] := by rw [List.getD_eq_getElem?_getD, List.getElem?_eq_getElem hk]; rfl
  rw [e]
  exact h _ (List.getElem_mem hk)

set_option maxRecDepth 100000 in
set_option maxHeartbeats 2000000 in
theorem chainOf_any (last tick kind : Int) (nm : ByteArray) (ver chain : Int) (hs : nm.size ≤ 1048000) (w : World) :
    Calls Try.prog 60 #[.int .i64 last, vNote tick kind nm ver chain] w fun e w' => e = .returned (.int .i64 (chV last tick kind ver nm)) ∧ Below w.heap.size w w' := by
  obtain ⟨g, hg⟩ : ∃ g : Nat → Int, g = fun j => if j = 0 then last else if j = 1 then tick else if j = 2 then kind else ver := ⟨_, rfl⟩
  obtain ⟨W, hW⟩ : ∃ W, W = (w.alloc (.cells #[.int .i64 tick, .int .i64 kind, .string nm, .int .i64 ver, .int .i64 chain] 68)).alloc (.cells #[.int .i64 last, .int .i64 tick, .int .i64 kind, .int .i64 ver] 2) := ⟨_, rfl⟩
  have HWB : Hid (Below w.heap.size w W) := by show Below _ _ _; rw [hW]; exact (bnew _ _).alloc (by simp) _
  have hWs : Hid (W.heap.size = w.heap.size + 2) := by show _ = _; rw [hW]; simp
  have i2 : W.cell? ⟨w.heap.size, 2, none⟩ = some (.string nm) := by rw [hW]; simp [go_sem]
  have hG : ∀ j, j < 4 → W.cell? ⟨w.heap.size + 1, j, none⟩ = some (.int .i64 (g j)) := fun j hj => by
    obtain rfl | rfl | rfl | rfl : j = 0 ∨ j = 1 ∨ j = 2 ∨ j = 3 := by omega
    all_goals (rw [hW, hg]; simp [go_sem])
  have HCL : Hid (chL last tick kind ver nm = cat4 g 4 ++ txL nm) := by show _ = _; rw [hg]; rfl
  have HI2 := hide i2
  have HG := hide hG
  have hW' := hW.symm
  clear hW hg i2 hG
  go_enter Try.func60, Try.ntmps60
  go_wp2_with fail
  clear hW'
  go_loopw [5, 7, 8, 18] (fun u _ _ i wr => ∃ j : Nat, j ≤ 4 ∧ i = .int .i64 j ∧ wr.ownsRow W.heap.size 5 1 u (8 * j) (bys (cat4 g j)) ∧ Below W.heap.size W wr) (fun _ _ _ i _ => 4 - (intOf i).toNat)
  case atStart => exact ⟨0, by omega, rfl, World.ownsRow_nil _ _ _ _, Below.refl _ _⟩
  case round =>
    obtain ⟨j, hj, rfl, ho, hb⟩ := hrel
    have HO := hide ho
    have HB := hide hb
    clear ho hb
    by_cases hlt : j < 4
    · have hlt4 : ((j : Nat) : Int) < 4 := by omega
      have hz : wr.cell? ⟨w.heap.size + 1, j, none⟩ = some (.int .i64 (g j)) := (HB.out.cell (p := ⟨w.heap.size + 1, j, none⟩) (by show w.heap.size + 1 < _; have := hWs.out; omega)).trans (HG.out j hlt)
      have HC4 : Hid (cat4 g (j + 1) = cat4 g j ++ fl (b8 (g j)) 8) := by show _ = _; rw [b8_low]; rfl
      have HL4 := hide (cat4_len g j)
      generalize g j = x at *
      generalize cat4 g j = X at *
      go_wp2_with fail
      go_loopw [5, 8, 22] (fun u _ i wr => ∃ k : Nat, k ≤ 8 ∧ i = .int .i64 k ∧ wr.ownsRow W.heap.size 5 1 u (8 * j + k) (bys (X ++ fl (b8 x) k)) ∧ Below W.heap.size W wr) (fun _ _ i _ => 8 - (intOf i).toNat)
      case atStart => exact ⟨0, by omega, rfl, by simpa [fl] using HO.out, HB.out⟩
      case round =>
        obtain ⟨k, hk, rfl, ho, hb⟩ := hrel
        clear HO HB hz
        have HO := hide ho
        have HB := hide hb
        have HS : Hid (W.heap.size ≤ wr.heap.size) := hb.size
        clear ho hb
        by_cases hk8 : k < 8
        · have HZ : Hid (X ++ fl (b8 x) (k + 1) = X ++ fl (b8 x) k ++ [b8 x k]) := by show _ = _; simp only [fl]; rw [List.append_assoc]
          have HN : Hid (8 * j + k + 1 ≤ 2000000000) := by show _ ≤ _; omega
          have h8 : IntKind.i64.wrap (8 * (k : Int)) = 8 * (k : Int) := by rw [IntKind.wrap_i64]; omega
          have h8b : ¬ 8 * (k : Int) < 0 := by omega
          have h8c : (8 * (k : Int)).toNat = 8 * k := by omega
          have HV : Hid (IntKind.u8.wrap (x / 2 ^ (8 * k)) = b8 x k) := by show _ = _; rw [IntKind.wrap_u8]; rfl
          have hV := HV.out
          generalize X ++ fl (b8 x) k = Y at *
          generalize b8 x k = V at *
          go_upto_region 8 with fail
          go_wp2_with (refine growUG _ rfl _ _ rfl W.heap.size _ (8 * j + k) Y rfl W HO.out HB.out HS.out [V] 1 rfl rfl HN.out ?_)
          intro v' w' ho' hb' hs'
          have HO' : Hid (w'.ownsRow W.heap.size 5 1 v' (8 * j + (k + 1)) (bys (X ++ fl (b8 x) (k + 1)))) := by show World.ownsRow _ _ _ _ _ _ _; rw [HZ.out]; exact ho'
          have HB' := hide hb'
          clear ho' hb' hs' HO HB HS hV HV HN
          go_wp2_with fail
          go_roundw
          case rel => exact ⟨k + 1, by omega, by go_num, HO'.out, HB'.out⟩
          case measure => simp [intOf]; omega
        · obtain rfl : k = 8 := by omega
          have HO' : Hid (wr.ownsRow W.heap.size 5 1 u5 (8 * (j + 1)) (bys (cat4 g (j + 1)))) := by show World.ownsRow _ _ _ _ _ _ _; rw [HC4.out, Nat.mul_add]; exact HO.out
          clear HO
          go_wp2_with fail
          go_roundw
          case rel => exact ⟨j + 1, by omega, by go_num, HO'.out, HB.out⟩
          case measure => simp [intOf]; omega
    · obtain rfl : j = 4 := by omega
      have hz : wr.cell? ⟨w.heap.size, 2, none⟩ = some (.string nm) := (HB.out.cell (p := ⟨w.heap.size, 2, none⟩) (by show w.heap.size < _; have := hWs.out; omega)).trans HI2.out
      have HS : Hid (W.heap.size ≤ wr.heap.size) := HB.out.size
      clear HG HI2
      go_wp2_with (refine growUS _ rfl _ _ rfl W.heap.size _ (8 * 4) (cat4 g 4) rfl W HO.out HB.out HS.out nm rfl (by omega) ?_)
      intro v' w' ho' hb'
      rw [← HCL.out] at ho'
      obtain ⟨a2, cap2, rfl, hU⟩ := own_pxU ho'
      have hlen := chL_len last tick kind ver nm
      have c := implDigest_any a2 (8 * 4 + nm.size) cap2 (fun k => (chL last tick kind ver nm).getD k 0) (by omega) (fun k hk => getD_by (chL_by last tick kind ver nm) k (by omega)) w' hU
      have HE : Hid (chV last tick kind ver nm = dig (fun k => (chL last tick kind ver nm).getD k 0) ((8 * 4 + nm.size : Nat) : Int) (8 * 4 + nm.size)) := by
        show _ = _
        unfold chV dgL
        rw [hlen]
      have HBF : Hid (Below w.heap.size w w') := bnext HWB.out (Nat.le_refl _) hb'
      clear hlen hU ho' hb' HO HB HS hz
      go_wp2_with fail
      refine c.mono ?_
      rintro e w'' ⟨rfl, hb''⟩
      have HBG := hide (bnext HBF.out (Nat.le_refl _) hb'')
      clear c hb'' HBF
      go_wp2_with fail
      go_ret
      exact ⟨by rw [HE.out]; rfl, HBG.out⟩

end Go.Proofs.Ytcdpnofjahdieaa

/- The draw of bounds. -/
import Derived.Test.YtadbniademamhaaDbg
import Derived.Test.YtadbniademamhaaDrg
import Derived.BigRegion
import Derived.Deep.RegionHeld3
import Derived.Deep.AppendLies
import Derived.Deep.RegionLaw
import Derived.Deep.RegionWith
import Derived.Deep.DeepCutAuto
import Derived.Deep.CutBlock
namespace Go.Proofs.Ytadbniademamhaa
open Go.RowKit

/-- the bound at hand: its box at q, its list in a block of its own behind it -/
structure OC (q : Nat) (id : Int) (L : List Int) (af : Option Addr) (cf : Nat) (w : World) : Prop where
  z0 : w.cell? ⟨q, 0, none⟩ = some (.slice af L.length cf)
  z1 : w.cell? ⟨q, 1, none⟩ = some (.int .i64 id)
  f0 : w.frozen? ⟨q, 0, none⟩ = false
  f1 : w.frozen? ⟨q, 1, none⟩ = false
  own : w.ownsRow (q + 1) 2 1 (.slice af L.length cf) L.length (ints L)
theorem OC.kept {q p : Nat} {id : Int} {L : List Int} {af : Option Addr} {cf : Nat} {w w' : World} (h : OC q id L af cf w) (hk : Kept p w w') (hp : p < q) : OC q id L af cf w' :=
  ⟨hk.cell (a := ⟨q, 0, none⟩) (by show q ≠ p; omega) h.z0, hk.cell (a := ⟨q, 1, none⟩) (by show q ≠ p; omega) h.z1, (hk.frozen (a := ⟨q, 0, none⟩) (by show q ≠ p; omega) h.z0).trans h.f0, (hk.frozen (a := ⟨q, 1, none⟩) (by show q ≠ p; omega) h.z1).trans h.f1,
    owns_keep h.own (fun b hb => hk.block b (owns_lt h.own b hb) (by have := owns_ge h.own b hb; omega))⟩
theorem OC.new (q : Nat) (id : Int) (w : World) (hq : q = w.heap.size) : OC q id [] none 0 (w.alloc (.cells #[.slice none 0 0, .int .i64 id] 30)) := by
  subst hq
  exact ⟨by simp [go_sem], by simp [go_sem], by simp [go_sem], by simp [go_sem], World.ownsRow_nil _ _ _ _⟩
theorem Kept.setNew {p : Nat} {w w' : World} (h : Kept p w w') {a : Addr} (ha : w.heap.size ≤ a.block) (v : Value) : Kept p w (w'.setCell a v) := by
  have k : Kept a.block w' (w'.setCell a v) := (Kept.refl _ _).setCell rfl v
  exact ⟨k.os.trans h.os, k.tape.trans h.tape, k.output.trans h.output, Nat.le_trans h.size k.size, fun j hj hp => (k.block j (Nat.lt_of_lt_of_le hj h.size) (by omega)).trans (h.block j hj hp)⟩
theorem Kept.belowNew {p : Nat} {w w' w'' : World} (h : Kept p w w') (hb : Below w.heap.size w' w'') : Kept p w w'' := ⟨hb.os.trans h.os, hb.tape.trans h.tape, hb.output.trans h.output, Nat.le_trans h.size hb.size, fun j hj hp => (hb.block j hj).trans (h.block j hj hp)⟩
theorem OC.set0 {q : Nat} {id : Int} {L L' : List Int} {af af' : Option Addr} {cf cf' : Nat} {w w' : World} (h : OC q id L af cf w) (hb : Below (q + 1) w w') (ho : w'.ownsRow (q + 1) 2 1 (.slice af' L'.length cf') L'.length (ints L')) : OC q id L' af' cf' (w'.setCell ⟨q, 0, none⟩ (.slice af' L'.length cf')) := by
  have e0 : w'.cell? ⟨q, 1, none⟩ = some (.int .i64 id) := (hb.cell (p := ⟨q, 1, none⟩) (by show q < q + 1; omega)).trans h.z1
  have e1 : w'.cell? ⟨q, 0, none⟩ = some (.slice af L.length cf) := (hb.cell (p := ⟨q, 0, none⟩) (by show q < q + 1; omega)).trans h.z0
  have g0 : w'.frozen? ⟨q, 1, none⟩ = false := (hb.frozen (p := ⟨q, 1, none⟩) (by show q < q + 1; omega)).trans h.f1
  have g1 : w'.frozen? ⟨q, 0, none⟩ = false := (hb.frozen (p := ⟨q, 0, none⟩) (by show q < q + 1; omega)).trans h.f0
  have k : Kept q w' (w'.setCell ⟨q, 0, none⟩ (.slice af' L'.length cf')) := Kept.setCell (Kept.refl q w') (a := ⟨q, 0, none⟩) rfl _
  refine ⟨World.cell?_setCell_same _ _ _ e1, by rw [World.cell?_setCell_other _ _ _ _ (by simp)]; exact e0, by simpa using g1, by simpa using g0, owns_keep ho (fun b hb' => k.block b (owns_lt ho b hb') (by have := owns_ge ho b hb'; omega))⟩
theorem Cur.kpB {p : Nat} {a : Option Addr} {len cap B : Nat} {v : Value} {w w' : World} (h : Cur p a len cap w) (hk : KpV v w w') (hp : p < B) (hw : B ≤ w.heap.size) (hv : ∀ b, v.ownBlock = some b → B ≤ b) (hab : len = 0 ∨ ∀ b off, a = some ⟨b, off, none⟩ → b < B) : Cur p a len cap w' := by
  obtain ⟨h0, ⟨i, hi, h1⟩, ⟨y, h2⟩, f1, f2, hs, hby⟩ := h
  have e : w'.heap[p]? = w.heap[p]? := hk p (by omega) (fun e => by have := hv p e; omega)
  refine ⟨(World.cell?_of_block (a := ⟨p, 0, none⟩) e).trans h0, ⟨i, hi, (World.cell?_of_block (a := ⟨p, 1, none⟩) e).trans h1⟩, ⟨y, (World.cell?_of_block (a := ⟨p, 2, none⟩) e).trans h2⟩, (World.frozen?_of_block (a := ⟨p, 1, none⟩) e).trans f1, (World.frozen?_of_block (a := ⟨p, 2, none⟩) e).trans f2, hs, ?_⟩
  rcases hab with h0 | hab
  · exact .inl h0
  rcases hby with hby | ⟨b, off, ha, hne, hby⟩
  · exact .inl hby
  · refine .inr ⟨b, off, ha, hne, fun k hk' => ?_⟩
    obtain ⟨z, z0, z1, hz⟩ := hby k hk'
    have hbp := hab b off ha
    exact ⟨z, z0, z1, (World.cell?_of_block (a := ⟨b, off + k, none⟩) (hk b (by omega) (fun e => by have := hv b e; omega))).trans hz⟩
theorem Cur.setBox {p q j : Nat} {a : Option Addr} {len cap B : Nat} {w : World} (h : Cur p a len cap w) (hp : p < B) (hab : len = 0 ∨ ∀ b off, a = some ⟨b, off, none⟩ → b < B) (hq : B ≤ q) (v : Value) : Cur p a len cap (w.setCell ⟨q, j, none⟩ v) := by
  have hb : Below B w (w.setCell ⟨q, j, none⟩ v) := (Below.refl _ _).setCell hq _
  exact h.belowB hb hp hab
/-- what is known while bounds are being drawn -/
structure DB (p : Nat) (a : Option Addr) (len cap : Nat) (w : World) (Q N : Nat) (v : Value) (k : Nat) (wr : World) : Prop where
  cur : Cur p a len cap wr
  kept : Kept p w wr
  bl : BL w.heap.size Q N v k wr
theorem DB.step {p : Nat} {a : Option Addr} {len cap : Nat} {w : World} {Q N : Nat} {v : Value} {k : Nat} {wr w' : World} (h : DB p a len cap w Q N v k wr) (hp : p < w.heap.size) (hc : Cur p a len cap w') (hk : Kept p wr w') : DB p a len cap w Q N v k w' :=
  ⟨hc, h.kept.trans hk, h.bl.kept hk hp⟩
theorem DB.alloc {p : Nat} {a : Option Addr} {len cap : Nat} {w : World} {Q N : Nat} {v : Value} {k : Nat} {wr : World} (h : DB p a len cap w Q N v k wr) (hp : p < w.heap.size) (o : Obj) : DB p a len cap w Q N v k (wr.alloc o) :=
  h.step hp (h.cur.below (bnew _ _)) (Kept.of_below (bnew _ _))
theorem DB.up {p : Nat} {a : Option Addr} {len cap : Nat} {w : World} {Q N : Nat} {v : Value} {k : Nat} {wr : World} (h : DB p a len cap w Q N v k wr) : DB p a len cap w wr.heap.size N v k wr := ⟨h.cur, h.kept, h.bl.up⟩
theorem DB.more {p : Nat} {a : Option Addr} {len cap : Nat} {w : World} {Q N N' : Nat} {v : Value} {k : Nat} {wr : World} (h : DB p a len cap w Q N v k wr) (hN : N ≤ N') : DB p a len cap w Q N' v k wr := ⟨h.cur, h.kept, h.bl.more hN⟩
/-- bounds are drawn -/
def DBR (p : Nat) (a : Option Addr) (len cap : Nat) (w : World) (e : Ending) (w' : World) : Prop := ∃ v k Q, e = .returned v ∧ k ≤ 6 ∧ DB p a len cap w Q 5 v k w'
/-- a table of three that lies in a new block, behind draws -/
theorem tab3b {w w' : World} {p : Nat} {x0 x1 x2 : Int} (hp : p < w.heap.size) (hk : Kept p (w.alloc (.cells #[.int .i64 x0, .int .i64 x1, .int .i64 x2] 2)) w') : w'.cell? ⟨w.heap.size, 0, none⟩ = some (.int .i64 x0) ∧ w'.cell? ⟨w.heap.size, 1, none⟩ = some (.int .i64 x1) ∧ w'.cell? ⟨w.heap.size, 2, none⟩ = some (.int .i64 x2) := by
  have hb := Bx.new [.int .i64 x0, .int .i64 x1, .int .i64 x2] 2 w
  have hb' := hb.kept hk (by omega)
  exact ⟨(hb' 0 _ rfl).1, (hb' 1 _ rfl).1, (hb' 2 _ rfl).1⟩
theorem abLt {a : Option Addr} {len B B' : Nat} (h : len = 0 ∨ ∀ b off, a = some ⟨b, off, none⟩ → b < B) (hB : B ≤ B') : len = 0 ∨ ∀ b off, a = some ⟨b, off, none⟩ → b < B' := h.imp id fun h b off e => Nat.lt_of_lt_of_le (h b off e) hB
theorem wrap_small {N : Nat} (h : N ≤ 1000) : wrap64 (N : Int) = (N : Int) := by unfold wrap64; omega
theorem meas_w {N : Nat} (h : wrap64 (N : Int) = (N : Int)) : (intOf (Value.int IntKind.i64 (wrap64 (N : Int)))).toNat < (intOf (Value.int IntKind.i64 ((N + 1 : Nat) : Int))).toNat := by
  rw [h]
  show (N : Int).toNat < ((N + 1 : Nat) : Int).toNat
  rw [Int.toNat_natCast, Int.toNat_natCast]; exact Nat.lt_succ_self _

set_option maxRecDepth 100000 in
set_option maxHeartbeats 8000000 in
theorem drawBounds_any (p : Nat) (a : Option Addr) (len cap : Nat) (w : World) (h : Cur p a len cap w) (hp : p < w.heap.size) (hab : len = 0 ∨ ∀ b off, a = some ⟨b, off, none⟩ → b < w.heap.size) :
    Calls Try.prog 10 #[.pointer (some ⟨p, 0, none⟩)] w (DBR p a len cap w) := by
  have HAB := hide hab
  have hd := below_any p a len cap w h 4 (by omega) (by omega)
  clear h hab
  go_enter Try.func10, Try.ntmps10
  go_wp2_with fail
  refine hd.mono ?_
  rintro e w1 ⟨x, rfl, hx0, hx1, hc1, hk1⟩
  have hw1 : IntKind.i64.wrap (1 + x) = 1 + x := by rw [IntKind.wrap_i64]; omega
  obtain ⟨n, hn⟩ : ∃ n : Nat, 1 + x = (n : Int) := ⟨(1 + x).toNat, by omega⟩
  rw [hn] at hw1
  have HN : Hid (1 ≤ n ∧ n ≤ 4) := by show _ ∧ _; omega
  have HD1 : Hid (DB p a len cap w (w1.heap.size + 1) 4 (.slice (some ⟨w1.heap.size, 0, none⟩) 0 0) 0 (w1.alloc (.cells #[] 30))) := ⟨hc1.below (bnew _ _), hk1.trans (Kept.of_below (bnew _ _)), BL.nil _ _ _ hk1.size⟩
  have hd2 := below_any p a len cap _ HD1.out.cur 4 (by omega) (by omega)
  clear hd hc1 hk1 hx0 hx1
  have hwx : IntKind.i64.wrap (1 + x) = (n : Int) := by rw [hn]; exact hw1
  clear hn hw1
  go_wp2_with fail
  generalize hw2 : w1.alloc (.cells #[] 30) = w2 at *
  clear hw2
  refine hd2.mono ?_
  rintro e w3 ⟨y, rfl, hy0, hy1, hc3, hk3⟩
  have hwy : IntKind.i64.wrap (1 + y) = 1 + y := by rw [IntKind.wrap_i64]; omega
  obtain ⟨K0, hK0⟩ : ∃ K0 : Nat, 1 + y = (K0 : Int) := ⟨(1 + y).toNat, by omega⟩
  rw [hK0] at hwy
  have HK0 : Hid (1 ≤ K0 ∧ K0 ≤ 4) := by show _ ∧ _; omega
  have hwy' : IntKind.i64.wrap (1 + y) = (K0 : Int) := by rw [hK0]; exact hwy
  have HD3 := hide (HD1.out.step hp hc3 hk3)
  clear hd2 hc3 hk3 hy0 hy1 hK0 hwy HD1
  generalize Value.slice (some ⟨w1.heap.size, 0, none⟩) 0 0 = v0 at *
  go_wp2_with fail
  clear hwx hwy'
  go_loopw [4, 5] (fun v i wr => ∃ (k N Q : Nat), k + N = K0 ∧ i = .int .i64 N ∧ DB p a len cap w Q 4 v k wr) (fun _ i _ => (intOf i).toNat)
  case atStart => exact ⟨0, K0, _, by omega, rfl, HD3.out⟩
  case round =>
    obtain ⟨k, N, Q, hkN, rfl, hD⟩ := hrel
    have HD := hide hD.up
    have HkN := hide hkN
    clear HD3 hD hkN
    generalize wr = wr0 at *
    cases N with
    | zero =>
      have q0 : ¬ (0 : Int) < ((0 : Nat) : Int) := by omega
      have hk0 : 0 < k := by have := HkN.out; have := HK0.out; omega
      have HkB : Hid (k ≤ 4) := by have := HkN.out; have := HK0.out; show _ ≤ _; omega
      clear HkN
      have hd := once_any p a len cap _ HD.out.cur 2 (by omega) (by omega)
      go_upto_if 42 with (first | (refine hd.mono ?_; rintro e w5 ⟨b5, rfl, hc5, hk5⟩; have HD5 := hide (HD.out.step hp hc5 hk5); clear hd hc5 hk5 HD))
      go_cut [4] (fun s wc => ∃ k Q, 1 ≤ k ∧ k ≤ 5 ∧ DB p a len cap w Q 4 s k wc)
      case first =>
        cases b5
        · go_wp2_with fail
          go_meet
          exact ⟨k, _, hk0, by have := HkB.out; omega, HD5.out⟩
        · obtain ⟨bv, cpv, c, cx, L0, z, hv, y0, y1, -, -, hBb, hbQ, hbw, hL1, hL4, hBc, hcQ, hcw, hbc, hcl, -, -, -, -⟩ := HD5.out.bl.head hk0
          subst hv
          have hki : (0 : Int) < (k : Int) := by omega
          have HD6 := hide (HD5.out.alloc hp (.cells #[.slice (some ⟨c, 0, none⟩) L0.length cx, .int .i64 z] 30)).up
          have HX6 : Hid (Bx w5.heap.size [.slice (some ⟨c, 0, none⟩) L0.length cx, .int .i64 z] (w5.alloc (.cells #[.slice (some ⟨c, 0, none⟩) L0.length cx, .int .i64 z] 30))) := Bx.new [.slice (some ⟨c, 0, none⟩) L0.length cx, .int .i64 z] 30 w5
          have HP6 : Hid (p < w5.heap.size) := Nat.lt_of_lt_of_le hp HD5.out.kept.size
          have HXw : Hid (w5.heap.size < (w5.alloc (.cells #[.slice (some ⟨c, 0, none⟩) L0.length cx, .int .i64 z] 30)).heap.size) := by show _ < _; simp
          have HL0 : Hid ((1 ≤ L0.length ∧ L0.length ≤ 4) ∧ c ≠ p ∧ ∀ q, q < L0.length → (w5.alloc (.cells #[.slice (some ⟨c, 0, none⟩) L0.length cx, .int .i64 z] 30)).cell? ⟨c, q, none⟩ = some (.int .i64 (L0.getD q 0))) := ⟨⟨hL1, hL4⟩, by omega, fun q hq => by rw [(bnew w5 _).cell (p := ⟨c, q, none⟩) hcw]; exact (hcl q hq).1⟩
          clear hBb hbQ hbw hL1 hL4 hBc hcQ hcw hbc hcl
          go_upto_region 14 with fail
          clear HD5 y0 y1
          generalize hw6 : w5.alloc (.cells #[.slice (some ⟨c, 0, none⟩) L0.length cx, .int .i64 z] 30) = w6 at *
          clear hw6
          generalize w5.heap.size = q1 at *
          have HBel : Hid (∀ w', Cur p a len cap w' → Calls Try.prog 11 #[.pointer (some ⟨p, 0, none⟩), .int .i64 3] w' (Drawn p a len cap w' 0 (3 - 1))) := fun w' h => below_any p a len cap w' h 3 (by omega) (by omega)
          have hq1 : q1 ≠ p := by have := HP6.out; omega
          have HZc : Hid (∀ w', Kept p w6 w' → w'.cell? ⟨q1, 1, none⟩ = some (.int .i64 z)) := fun w' hk => hk.cell (a := ⟨q1, 1, none⟩) hq1 (HX6.out 1 _ rfl).1
          have HCd : Hid (Cur p a len cap w6.drew) := HD6.out.cur.drewN 1
          have HP6w : Hid (p < w6.heap.size) := Nat.lt_trans HP6.out HXw.out
          obtain ⟨G, hG⟩ : ∃ G : Nat → Value → Prop, G = (fun j v => match j with | 0 => v = .pointer (some ⟨q1, 1, none⟩) | 1 => v = .int .i64 z | 2 => ∃ z : Int, v = .int .i64 z | 3 => ∃ z : Int, v = .int .i64 z | 4 => v = .pointer (some ⟨p, 0, none⟩) | 5 => ∃ z : Int, v = .int .i64 z | 6 => ∃ z : Int, v = .int .i64 z | 7 => ∃ z : Int, v = .agg #[.slice none 0 0, .int .i64 z] | _ => True) := ⟨_, rfl⟩
          have G0 : Hid (∀ v, G 0 v ↔ v = .pointer (some ⟨q1, 1, none⟩)) := fun v => by rw [hG]; exact Iff.rfl
          have G1 : Hid (∀ v, G 1 v ↔ v = .int .i64 z) := fun v => by rw [hG]; exact Iff.rfl
          have G2 : Hid (∀ v, G 2 v ↔ ∃ z : Int, v = .int .i64 z) := fun v => by rw [hG]; exact Iff.rfl
          have G3 : Hid (∀ v, G 3 v ↔ ∃ z : Int, v = .int .i64 z) := fun v => by rw [hG]; exact Iff.rfl
          have G4 : Hid (∀ v, G 4 v ↔ v = .pointer (some ⟨p, 0, none⟩)) := fun v => by rw [hG]; exact Iff.rfl
          have G5 : Hid (∀ v, G 5 v ↔ ∃ z : Int, v = .int .i64 z) := fun v => by rw [hG]; exact Iff.rfl
          have G6 : Hid (∀ v, G 6 v ↔ ∃ z : Int, v = .int .i64 z) := fun v => by rw [hG]; exact Iff.rfl
          have G7 : Hid (∀ v, G 7 v ↔ ∃ z : Int, v = .agg #[.slice none 0 0, .int .i64 z]) := fun v => by rw [hG]; exact Iff.rfl
          have G8 : Hid (∀ v, G 8 v) := fun v => by rw [hG]; trivial
          have G9 : Hid (∀ v, G 9 v) := fun v => by rw [hG]; trivial
          clear hG
          obtain ⟨PP, hPP⟩ : ∃ P : Nat → World → Prop, P = (fun M w => ∃ z : Int, Bx M [.slice none 0 0, .int .i64 z] w) := ⟨_, rfl⟩
          have HPP := hide hPP
          clear hPP
          refine region_opsV (cR p a len cap 8 9 [.slice none 0 0, .int .i64 0] w6) (cG 8 9 w6 G PP) (by kernel_rfl) (by kernel_rfl) (by kernel_rfl) (by kernel_rfl) ⟨HCd.out, (Kept.refl _ _).drewN 1, fun M hM => (not_ptr (by kernel_rfl) hM).elim⟩ ?_ ?_
          · refine ⟨?_, ?_, ?_, ?_, ?_, ?_, ?_, ?_, ?_, ?_, trivial⟩
            ·
              intro u w21 au hsl hel hu hF hp' K hK
              have t8 : au.tmps[8]?.getD undef = .pointer (some ⟨q1, 0, none⟩) := (hel.out 8 (by kernel_rfl)).trans (by kernel_rfl)
              refine step_plain rfl ?_
              go_simp
              exact hK.out (.pointer (some ⟨q1, 1, none⟩)) _ (cR_up HP6w.out hF hF.1 (Kept.refl _ _) 0 (by omega) (by omega) _) (cG_val 0 (by omega) (by omega) ((G0.out _).2 rfl)) (fun j hj hf h => cG_up 0 (by omega) _ j hj (fun e => by subst e; exact absurd (Eq.trans (Eq.symm (by kernel_rfl)) hf) Bool.false_ne_true) h)
            ·
              intro u w21 au hsl hel hu hF hp' K hK
              have h0 : u 0 = .pointer (some ⟨q1, 1, none⟩) := (G0.out _).1 (PreF.get hp' 0 (by kernel_rfl)).1
              have t46 : au.tmps[46]?.getD undef = u 0 := hsl.out 0 46 (by kernel_rfl)
              rw [h0] at t46
              have xc := HZc.out _ hF.2.1
              refine step_plain rfl ?_
              go_simp
              exact hK.out (.int .i64 z) _ (cR_up HP6w.out hF hF.1 (Kept.refl _ _) 1 (by omega) (by omega) _) (cG_val 1 (by omega) (by omega) ((G1.out _).2 rfl)) (fun j hj hf h => cG_up 1 (by omega) _ j hj (fun e => by subst e; exact absurd (Eq.trans (Eq.symm (by kernel_rfl)) hf) Bool.false_ne_true) h)
            ·
              intro u w21 au hsl hel hu hF hp' K hK
              have h1 : u 1 = .int .i64 z := (G1.out _).1 (PreF.get hp' 1 (by kernel_rfl)).1
              have t47 : au.tmps[47]?.getD undef = u 1 := hsl.out 1 47 (by kernel_rfl)
              rw [h1] at t47
              refine step_plain rfl ?_
              go_simp
              exact hK.out _ _ (cR_up HP6w.out hF hF.1 (Kept.refl _ _) 2 (by omega) (by omega) _) (cG_val 2 (by omega) (by omega) ((G2.out _).2 ⟨_, rfl⟩)) (fun j hj hf h => cG_up 2 (by omega) _ j hj (fun e => by subst e; exact absurd (Eq.trans (Eq.symm (by kernel_rfl)) hf) Bool.false_ne_true) h)
            ·
              intro u w21 au hsl hel hu hF hp' K hK
              obtain ⟨z2, h2⟩ := (G2.out _).1 (PreF.get hp' 2 (by kernel_rfl)).1
              have t48 : au.tmps[48]?.getD undef = u 2 := hsl.out 2 48 (by kernel_rfl)
              rw [h2] at t48
              refine step_plain rfl ?_
              go_simp
              exact hK.out _ _ (cR_up HP6w.out hF hF.1 (Kept.refl _ _) 3 (by omega) (by omega) _) (cG_val 3 (by omega) (by omega) ((G3.out _).2 ⟨_, rfl⟩)) (fun j hj hf h => cG_up 3 (by omega) _ j hj (fun e => by subst e; exact absurd (Eq.trans (Eq.symm (by kernel_rfl)) hf) Bool.false_ne_true) h)
            ·
              intro u w21 au hsl hel hu hF hp' K hK
              have t0 : au.tmps[0]?.getD undef = .pointer (some ⟨p, 0, none⟩) := (hel.out 0 (by kernel_rfl)).trans (by kernel_rfl)
              refine step_plain rfl ?_
              go_simp
              exact hK.out (.pointer (some ⟨p, 0, none⟩)) _ (cR_up HP6w.out hF hF.1 (Kept.refl _ _) 4 (by omega) (by omega) _) (cG_val 4 (by omega) (by omega) ((G4.out _).2 rfl)) (fun j hj hf h => cG_up 4 (by omega) _ j hj (fun e => by subst e; exact absurd (Eq.trans (Eq.symm (by kernel_rfl)) hf) Bool.false_ne_true) h)
            ·
              intro u w21 au hsl hel hu hF hp' K hK
              have h4 : u 4 = .pointer (some ⟨p, 0, none⟩) := (G4.out _).1 (PreF.get hp' 4 (by kernel_rfl)).1
              have t50 : au.tmps[50]?.getD undef = u 4 := hsl.out 4 50 (by kernel_rfl)
              rw [h4] at t50
              have hd := HBel.out w21 hF.1
              refine step_plain rfl ?_
              go_simp
              refine hd.mono ?_
              rintro e w22 ⟨y, rfl, hy0, hy1, hc22, hk22⟩
              exact hK.out (.int .i64 y) _ (cR_up HP6w.out hF hc22 hk22 5 (by omega) (by omega) _) (cG_val 5 (by omega) (by omega) ((G5.out _).2 ⟨_, rfl⟩)) (fun j hj hf h => cG_up 5 (by omega) _ j hj (fun e => by subst e; exact absurd (Eq.trans (Eq.symm (by kernel_rfl)) hf) Bool.false_ne_true) h)
            ·
              intro u w21 au hsl hel hu hF hp' K hK
              obtain ⟨z3, h3⟩ := (G3.out _).1 (PreF.get hp' 3 (by kernel_rfl)).1
              have t49 : au.tmps[49]?.getD undef = u 3 := hsl.out 3 49 (by kernel_rfl)
              rw [h3] at t49
              obtain ⟨z5, h5⟩ := (G5.out _).1 (PreF.get hp' 5 (by kernel_rfl)).1
              have t51 : au.tmps[51]?.getD undef = u 5 := hsl.out 5 51 (by kernel_rfl)
              rw [h5] at t51
              refine step_plain rfl ?_
              go_simp
              exact hK.out _ _ (cR_up HP6w.out hF hF.1 (Kept.refl _ _) 6 (by omega) (by omega) _) (cG_val 6 (by omega) (by omega) ((G6.out _).2 ⟨_, rfl⟩)) (fun j hj hf h => cG_up 6 (by omega) _ j hj (fun e => by subst e; exact absurd (Eq.trans (Eq.symm (by kernel_rfl)) hf) Bool.false_ne_true) h)
            ·
              intro u w21 au hsl hel hu hF hp' K hK
              obtain ⟨z6, h6⟩ := (G6.out _).1 (PreF.get hp' 6 (by kernel_rfl)).1
              have t52 : au.tmps[52]?.getD undef = u 6 := hsl.out 6 52 (by kernel_rfl)
              rw [h6] at t52
              refine step_plain rfl ?_
              go_simp
              exact hK.out _ _ (cR_up HP6w.out hF hF.1 (Kept.refl _ _) 7 (by omega) (by omega) _) (cG_val 7 (by omega) (by omega) ((G7.out _).2 ⟨_, rfl⟩)) (fun j hj hf h => cG_up 7 (by omega) _ j hj (fun e => by subst e; exact absurd (Eq.trans (Eq.symm (by kernel_rfl)) hf) Bool.false_ne_true) h)
            ·
              intro u w21 au hsl hel hu hF hp' K hK
              have HR := hide (cR_al (t := 30) hF)
              have hs := hF.2.1.size
              refine step_plain rfl ?_
              go_simp
              exact hK.out (.pointer (some ⟨w21.heap.size, 0, none⟩)) _ HR.out (cG_ptr (by omega) G8.out hs) (fun j hj hf h => cG_al j hj (fun e => by subst e; exact absurd (Eq.trans (Eq.symm (by kernel_rfl)) hf) Bool.false_ne_true) h)
            ·
              intro u w21 au hsl hel hu hF hp' K hK
              obtain ⟨z7, h7⟩ := (G7.out _).1 (PreF.get hp' 7 (by kernel_rfl)).1
              have t53 : au.tmps[53]?.getD undef = u 7 := hsl.out 7 53 (by kernel_rfl)
              rw [h7] at t53
              obtain ⟨M, hM, hMB⟩ := (PreF.get hp' 8 (by kernel_rfl)).2.1 rfl
              have t9 : au.tmps[9]?.getD undef = u 8 := hsl.out 8 9 (by kernel_rfl)
              rw [hM] at t9
              obtain ⟨hC, hKp, hX⟩ := hF
              have hX := (hX M hM hMB).resolve_left (fun h => h ((hu.out 9 (by decide) (.inl rfl)).trans (by kernel_rfl)))
              have HE : Hid (Bx M [.slice none 0 0, .int .i64 z7] ((w21.setCell ⟨M, 0, none⟩ (.slice none 0 0)).setCell ⟨M, 1, none⟩ (.int .i64 z7))) := (hX.1.set 0 (.slice none 0 0)).set 1 (.int .i64 z7)
              obtain ⟨xx0, xf0⟩ := hX.1 0 _ rfl
              obtain ⟨xx1, xf1⟩ := hX.1 1 _ rfl
              have hMP : w.heap.size ≤ M := Nat.le_trans HD6.out.kept.size hMB
              have HC := hide ((hC.setBox (q := M) (j := 0) hp HAB.out hMP (.slice none 0 0)).setBox (q := M) (j := 1) hp HAB.out hMP (.int .i64 z7))
              have HK := hide ((hKp.setNew (a := ⟨M, 0, none⟩) hMB (.slice none 0 0)).setNew (a := ⟨M, 1, none⟩) hMB (.int .i64 z7))
              have HM : Hid (M < ((w21.setCell ⟨M, 0, none⟩ (.slice none 0 0)).setCell ⟨M, 1, none⟩ (.int .i64 z7)).heap.size) := by have := hX.2; show _ < _; simpa using this
              clear hC hKp hX
              refine step_plain rfl ?_
              go_simp
              exact hK.out (.bool true) _ (cR_st HC.out HK.out (by simp [undef])) (cG_done (by omega) G9.out hM hMB HM.out (by rw [HPP.out]; exact ⟨_, HE.out⟩)) (fun j hj _ h => cG_st (by omega) j hj h)
          · intro u w30 hF hall
            obtain ⟨M, hM, hMB, hMw, hMP⟩ := (hall 9 (by decide)).2.2 rfl
            rw [HPP.out] at hMP
            obtain ⟨hC, hKp, -⟩ := hF
            obtain ⟨z9, hx⟩ := hMP
            have HE : Hid (OC M z9 [] none 0 w30) := ⟨(hx 0 _ rfl).1, (hx 1 _ rfl).1, (hx 0 _ rfl).2, (hx 1 _ rfl).2, World.ownsRow_nil _ _ _ _⟩
            have h8 : u 8 = .pointer (some ⟨M, 0, none⟩) := hM
            clear hall hx
            simp only [rgPut, Act.put]
            rw [h8]
            go_simp
            have HKs := hide hKp
            have HCs := hide hC
            have HZs : Hid (M + 1 ≤ w30.heap.size) := hMw
            have HMs : Hid (w6.heap.size ≤ M) := hMB
            clear hKp hC hMw hMB hM h8 HCd
            go_wp2_with fail
            go_loopw [10] (fun f wq => ∃ (j : Nat) (L : List Int) (af : Option Addr) (cf : Nat), j ≤ L0.length ∧ f = .int .i64 j ∧ L.length = j ∧ OC M z9 L af cf wq ∧ Kept p w6 wq ∧ Cur p a len cap wq ∧ M + 1 ≤ wq.heap.size) (fun f _ => L0.length - (intOf f).toNat)
            case atStart => exact ⟨0, [], none, 0, by omega, rfl, rfl, HE.out, HKs.out, HCs.out, HZs.out⟩
            case round =>
              obtain ⟨j, L, af, cf, hj, rfl, hL, hq, hk, hc, hz⟩ := hrel
              clear HE HKs HCs HZs
              have HQ := hide hq
              have HK4 := hide hk
              have HC4 := hide hc
              have HZ4 := hide hz
              have HL := hide hL
              clear hq hk hc hz hL
              have y0 : wr.cell? ⟨q1, 0, none⟩ = some (.slice (some ⟨c, 0, none⟩) L0.length cx) := HK4.out.cell (a := ⟨q1, 0, none⟩) hq1 (HX6.out 0 _ rfl).1
              have HPM : Hid (p < M) := by have := HP6w.out; have := HMs.out; show _ < _; omega
              by_cases hjn : j < L0.length
              · have q4 : (j : Int) < (L0.length : Int) := by omega
                obtain ⟨E, hE⟩ : ∃ E, E = L0.getD j 0 := ⟨_, rfl⟩
                have yc : wr.cell? ⟨c, j, none⟩ = some (.int .i64 E) := by rw [hE]; exact HK4.out.cell (a := ⟨c, j, none⟩) HL0.out.2.1 (HL0.out.2.2 j hjn)
                have HcP : Hid (c ≠ p) := HL0.out.2.1
                have hd := fun w' h => below_any p a len cap w' h 3 (by omega) (by omega)
                have z8 := HQ.out.z0
                have f8 := HQ.out.f0
                have HCd : Hid (Cur p a len cap wr.drew) := HC4.out.drewN 1
                obtain ⟨ti, hi1, hi2, hi3, hi4⟩ := info2
                have HI1 := hide hi1
                have HLn : Hid (L.length ≤ 4) := by have := HL.out; have := HL0.out.1.2; show _ ≤ _; omega
                have HJ1 : Hid (j + 1 ≤ L0.length) := by show _ ≤ _; omega
                have HMe : Hid (L0.length - (j + 1) < L0.length - j) := by show _ < _; omega
                have HjB : Hid (j ≤ 4) := by have := HL0.out.1.2; show _ ≤ _; omega
                clear hi1 hE
                go_upto_region 18 with fail
                go_region_law (first
                  | (refine step_append_lies _ (by rfl) _ _ _ (by rfl) (M + 1) 2 ti _ 1 8 Try.underlying25 HI1.out hi2 hi3 hi4 rfl (by omega) (.slice af L.length cf) L.length (ints L) (by rfl) (HQ10.out.own.alloc _) ⟨w10.heap.size, 0, none⟩ 1 1 [.int .i64 Z] (by rfl) (by rfl) (World.news_of_block (cs := #[.int .i64 Z]) (t := 2) (fr := (0, 0)) (heap_alloc_new w10 _)) (by simp [Value.oneCell']) (by omega) (by have := HLn.out; unfold maxLen; omega) (by have := HLn.out; omega) (by have := HZ10.out; simp; omega) (w10.heap.size + 1) (by simp) ?_; intro gg cap1 w11 hown1 hgrow hat hlt1; have hb11 : Below (M + 1) w10 w11 := ((Below.refl _ _).alloc HZ10.out _).trans ((Below.refl _ _).grown hgrow (by have := HZ10.out; simp; omega) (fun q' hq' => (HQ10.out.own.lt q' hq').1)); have z11 := (hb11.cell (p := ⟨M, 0, none⟩) (by show M < M + 1; omega)).trans z10; have f11 := (hb11.frozen (p := ⟨M, 0, none⟩) (by show M < M + 1; omega)).trans f10)
                  | (go_wp2_with fail; (with_reducible refine (hd _ HCd.out).mono ?_); rintro e w10 ⟨y, rfl, hy0, hy1, hc10, hk10⟩; have hk := ((Kept.refl p wr).drew).trans hk10; have HQ10 := hide (HQ.out.kept hk HPM.out); have HK10 := hide (HK4.out.trans hk); have HZ10 := hide (Nat.le_trans HZ4.out hk.size); have HC10 := hide hc10; have z10 := HQ10.out.z0; have f10 := HQ10.out.f0; have hq10 : M < w10.heap.size := HZ10.out; have y0 := hk.cell (a := ⟨q1, 0, none⟩) hq1 y0; have yc := hk.cell (a := ⟨c, j, none⟩) HcP.out yc; obtain ⟨Z, hZ⟩ : ∃ Z, IntKind.i64.wrap (y - E) = Z := ⟨_, rfl⟩; clear hc10 hk10 hk))
                all_goals
                  have e1 : L.length + 1 = (L ++ [Z]).length := by simp
                  have ho11 : w11.ownsRow (M + 1) 2 1 (.slice (some ⟨gg, 0, none⟩) (L ++ [Z]).length cap1) (L ++ [Z]).length (ints (L ++ [Z])) := by rw [ints_append, ← e1]; exact hown1
                  have HX : Hid (OC M z9 (L ++ [Z]) (some ⟨gg, 0, none⟩) cap1 (w11.setCell ⟨M, 0, none⟩ (.slice (some ⟨gg, 0, none⟩) (L.length + 1) cap1)) ∧ Kept p w6 (w11.setCell ⟨M, 0, none⟩ (.slice (some ⟨gg, 0, none⟩) (L.length + 1) cap1)) ∧ Cur p a len cap (w11.setCell ⟨M, 0, none⟩ (.slice (some ⟨gg, 0, none⟩) (L.length + 1) cap1)) ∧ M + 1 ≤ (w11.setCell ⟨M, 0, none⟩ (.slice (some ⟨gg, 0, none⟩) (L.length + 1) cap1)).heap.size) := by
                    rw [e1]
                    exact ⟨HQ10.out.set0 hb11 ho11, (HK10.out.belowB hb11 (by have := HMs.out; omega)).setNew (a := ⟨M, 0, none⟩) HMs.out _, (HC10.out.belowB hb11 (by have := HPM.out; omega) (abLt HAB.out (by have := HMs.out; have := HD6.out.kept.size; omega))).setBox (B := w.heap.size) hp HAB.out (by have := HMs.out; have := HD6.out.kept.size; omega) _, by have := Nat.le_trans HZ10.out hb11.size; simpa using this⟩
                  have HL9 : Hid ((L ++ [Z]).length = j + 1) := by have := HL.out; show _ = _; rw [← e1]; omega
                  have hjw : IntKind.i64.wrap ((j : Int) + 1) = (j : Int) + 1 := by have := HjB.out; rw [IntKind.wrap_i64]; omega
                  clear hown1 hgrow hat hlt1 hb11 z11 f11 ho11 e1 hd HCd HQ10 HK10 HC10 HZ10 z10 f10 HQ HK4 HC4 HZ4 z8 f8 HL hZ y0 yc
                  go_wp2_with fail
                  go_roundw
                  case rel => exact ⟨j + 1, _, _, _, HJ1.out, by simp, HL9.out, HX.out⟩
                  case measure => simpa [intOf] using HMe.out
              · obtain rfl : j = L0.length := by omega
                have q4 : ¬ (L0.length : Int) < (L0.length : Int) := by omega
                have z0 := HQ.out.z0
                have z1 := HQ.out.z1
                have hD9 := HD6.out.step hp HC4.out HK4.out
                have HBL := hide hD9.bl
                generalize Value.slice (some ⟨bv, 0, none⟩) k cpv = v4 at *
                have HLp : Hid (1 ≤ L.length ∧ L.length ≤ 4) := by have := HL.out; have := HL0.out.1; show _ ∧ _; omega
                have HOx : Hid (wr.ownsRow w6.heap.size 2 1 (.slice af L.length cf) L.length (ints L)) := owns_mono HQ.out.own (by have := HMs.out; omega)
                have HSz : Hid (w.heap.size ≤ wr.heap.size) := hD9.kept.size
                have HSq : Hid (w.heap.size ≤ w6.heap.size) := HD6.out.kept.size
                have HkM : Hid (k ≤ 1048576) := by have := HkB.out; show _ ≤ _; omega
                have HBr : Hid (Below w.heap.size wr wr) := Below.refl _ _
                have HKp := hide hD9.kept
                have HCc := hide HC4.out
                clear hD9 HQ HK4 HC4 HZ4 HD6
                go_wp2_with (refine growB wr rfl (.tmp 74) (.tmp 76) (by rfl) w.heap.size w6.heap.size 4 v4 k (by rfl) wr HBL.out HBr.out HSz.out HSq.out z9 (.slice af L.length cf) L HLp.out.1 HLp.out.2 HOx.out rfl (by rfl) HkM.out ?_)
                intro v' w12 ho12 hb12 hs12 hkv hmv
                have HD12 : Hid (DB p a len cap w w12.heap.size 4 v' (k + 1) w12) := ⟨HCc.out.belowB hb12 hp HAB.out, HKp.out.belowB hb12 (Nat.le_refl _), ho12⟩
                clear ho12 hb12 hs12 hkv hmv HBL HOx HBr HKp HCc z0 z1
                go_wp2_with fail
                go_meet
                exact ⟨k + 1, _, by omega, by have := HkB.out; omega, HD12.out⟩
      case rest =>
        obtain ⟨k2, Q2, hk1, hk5, hD⟩ := hcut
        clear HD5
        have HD5 := hide hD
        have HkR : Hid (1 ≤ k2 ∧ k2 ≤ 5) := ⟨hk1, hk5⟩
        clear hD hk1 hk5 HkB hk0
        have hd := once_any p a len cap _ HD5.out.cur 16 (by omega) (by omega)
        go_wp2_with fail
        refine hd.mono ?_
        rintro e w7 ⟨b7, rfl, hc7, hk7⟩
        have HD7 := hide (HD5.out.step hp hc7 hk7)
        clear hd hc7 hk7 HD5
        have HFIN : Hid (∀ v k' Q wr, k' ≤ 6 → DB p a len cap w Q 5 v k' wr → DBR p a len cap w (.returned v) wr) := fun v k' Q wr hk hD => ⟨v, k', Q, rfl, hk, hD⟩
        cases b7
        · go_wp2_with fail
          go_ret
          exact HFIN.out _ k2 Q2 _ (by have := HkR.out; omega) (HD7.out.more (by omega))
        · have hd := below_any p a len cap _ HD7.out.cur 4 (by omega) (by omega)
          go_wp2_with fail
          refine hd.mono ?_
          rintro e w8 ⟨x8, rfl, hx80, hx81, hc8, hk8⟩
          have HD8 := hide (HD7.out.step hp hc8 hk8)
          clear hd hc8 hk8 HD7
          have hx8 : x8 = 0 ∨ x8 = 1 ∨ x8 = 2 ∨ x8 = 3 := by omega
          clear hx80 hx81
          rcases hx8 with rfl | rfl | rfl | rfl
          · have HP8 : Hid (p < w8.heap.size) := Nat.lt_of_lt_of_le hp HD8.out.kept.size
            have HD9 := hide (HD8.out.alloc hp (.cells #[.int .i64 1000, .int .i64 1001, .int .i64 (-1001)] 2))
            have hd := below_any p a len cap _ HD9.out.cur 3 (by omega) (by omega)
            go_wp2_with fail
            refine hd.mono ?_
            rintro e w10 ⟨m, rfl, hm0, hm1, hc, hk⟩
            have HD10 := hide (HD9.out.step hp hc hk)
            obtain ⟨x0, x1, x2⟩ := tab3b HP8.out hk
            clear hd hc hk HD9 HD8
            obtain ⟨bv, cpv, c, cx, L0, z, hv, y0, y1, g0, g1, hBb, hbQ, hbw, hL1, hL4, hBc, hcQ, hcw, hbc, hcl, hown0, hset1, hsetc, happ⟩ := HD10.out.bl.head (by have := HkR.out; omega)
            subst hv
            have hki : (0 : Int) < (k2 : Int) := by have := HkR.out; omega
            have HS : Hid (∀ z : Int, DB p a len cap w Q2 4 (.slice (some ⟨bv, 0, none⟩) k2 cpv) k2 (w10.setCell ⟨bv, 1, none⟩ (.int .i64 z))) := fun z => ⟨HD10.out.cur.setBox (B := w.heap.size) hp HAB.out hBb _, HD10.out.kept.setNew (a := ⟨bv, 1, none⟩) hBb _, hset1 z⟩
            clear hBb hbQ hbw hL1 hL4 hBc hcQ hcw hbc hcl hown0 hset1 hsetc happ HD10 HP8
            generalize w8.heap.size = Tq at *
            obtain rfl | rfl | rfl : m = 0 ∨ m = 1 ∨ m = 2 := by omega
            all_goals
              go_wp2_with fail
              go_ret
              exact HFIN.out _ k2 Q2 _ (by have := HkR.out; omega) ((HS.out _).more (by omega))
          · obtain ⟨bv, cpv, c, cx, L0, z, hv, y0, y1, g0, g1, hBb, hbQ, hbw, hL1, hL4, hBc, hcQ, hcw, hbc, hcl, hown0, hset1, hsetc, happ⟩ := HD8.out.bl.head (by have := HkR.out; omega)
            subst hv
            have hkn : 0 < k2 := by have := HkR.out; omega
            have hLn : 0 < L0.length := by omega
            have HP8 : Hid (p < w8.heap.size) := Nat.lt_of_lt_of_le hp HD8.out.kept.size
            have HBel : Hid (∀ w', Cur p a len cap w' → Calls Try.prog 11 #[.pointer (some ⟨p, 0, none⟩), .int .i64 3] w' (Drawn p a len cap w' 0 (3 - 1))) := fun w' h => below_any p a len cap w' h 3 (by omega) (by omega)
            have HY0 : Hid (∀ w', Kept p w8 w' → w'.cell? ⟨bv, 0, none⟩ = some (.slice (some ⟨c, 0, none⟩) L0.length cx)) := fun w' hk => hk.cell (a := ⟨bv, 0, none⟩) (by show bv ≠ p; omega) y0
            have HYc : Hid (∀ w', Kept p w8 w' → w'.cell? ⟨c, 0, none⟩ = some (.int .i64 (L0.getD 0 0))) := fun w' hk => hk.cell (a := ⟨c, 0, none⟩) (by show c ≠ p; omega) (hcl 0 (by omega)).1
            have HYf : Hid (∀ w', Kept p w8 w' → w'.frozen? ⟨c, 0, none⟩ = false) := fun w' hk => (hk.frozen (a := ⟨c, 0, none⟩) (by show c ≠ p; omega) (hcl 0 (by omega)).1).trans (hcl 0 (by omega)).2
            have HS : Hid (∀ (w1 : World) (z : Int), Cur p a len cap w1 → Kept p w8 w1 → DB p a len cap w Q2 4 (.slice (some ⟨bv, 0, none⟩) k2 cpv) k2 (w1.setCell ⟨c, 0, none⟩ (.int .i64 z))) := fun w1 z hc hk => by
              have HD1 := HD8.out.step hp hc hk
              obtain ⟨bv', cpv', c', cx', L0', z', hv', y0', -, -, -, -, -, -, -, -, -, -, -, -, -, -, -, hsetc', -⟩ := HD1.bl.head (by have := HkR.out; omega)
              cases hv'
              have e := (Value.slice.inj (Option.some.inj ((HY0.out w1 hk).symm.trans y0'))).1
              cases e
              exact ⟨hc.setBox (B := w.heap.size) hp HAB.out hBc _, HD1.kept.setNew (a := ⟨c, 0, none⟩) hBc _, hsetc' z⟩
            clear hBb hbQ hbw hL1 hL4 hBc hcQ hcw hbc hcl hown0 hset1 hsetc happ y0 y1 g0 g1
            go_upto_region 25 with fail
            obtain ⟨G, hG⟩ : ∃ G : Nat → Value → Prop, G = (fun j v => match j with | 0 => v = .slice (some ⟨bv, 0, none⟩) k2 cpv | 1 => v = .pointer (some ⟨bv, 0, none⟩) | 2 => v = .pointer (some ⟨bv, 0, none⟩) | 3 => v = .slice (some ⟨c, 0, none⟩) L0.length cx | 5 => v = .pointer (some ⟨p, 0, none⟩) | 6 => ∃ z : Nat, z < 3 ∧ v = .int .i64 ((z : Nat) : Int) | 8 => ∃ z : Int, v = .int .i64 z | 9 => v = .pointer (some ⟨c, 0, none⟩) | _ => True) := ⟨_, rfl⟩
            have G0 : Hid (∀ v, G 0 v ↔ v = .slice (some ⟨bv, 0, none⟩) k2 cpv) := fun v => by rw [hG]; exact Iff.rfl
            have G1 : Hid (∀ v, G 1 v ↔ v = .pointer (some ⟨bv, 0, none⟩)) := fun v => by rw [hG]; exact Iff.rfl
            have G2 : Hid (∀ v, G 2 v ↔ v = .pointer (some ⟨bv, 0, none⟩)) := fun v => by rw [hG]; exact Iff.rfl
            have G3 : Hid (∀ v, G 3 v ↔ v = .slice (some ⟨c, 0, none⟩) L0.length cx) := fun v => by rw [hG]; exact Iff.rfl
            have G4 : Hid (∀ v, G 4 v) := fun v => by rw [hG]; trivial
            have G5 : Hid (∀ v, G 5 v ↔ v = .pointer (some ⟨p, 0, none⟩)) := fun v => by rw [hG]; exact Iff.rfl
            have G6 : Hid (∀ v, G 6 v ↔ ∃ z : Nat, z < 3 ∧ v = .int .i64 ((z : Nat) : Int)) := fun v => by rw [hG]; exact Iff.rfl
            have G7 : Hid (∀ v, G 7 v) := fun v => by rw [hG]; trivial
            have G8 : Hid (∀ v, G 8 v ↔ ∃ z : Int, v = .int .i64 z) := fun v => by rw [hG]; exact Iff.rfl
            have G9 : Hid (∀ v, G 9 v ↔ v = .pointer (some ⟨c, 0, none⟩)) := fun v => by rw [hG]; exact Iff.rfl
            have G10 : Hid (∀ v, G 10 v) := fun v => by rw [hG]; trivial
            clear hG
            obtain ⟨PP, hPP⟩ : ∃ P : World → Prop, P = (fun w => ∃ (w1 : World) (z : Int), w = w1.setCell ⟨c, 0, none⟩ (.int .i64 z) ∧ Cur p a len cap w1 ∧ Kept p w8 w1) := ⟨_, rfl⟩
            have HPP := hide hPP
            clear hPP
            refine region_opsV (tR p a len cap 10 w8) (tF 4 7 10 3 w8 G PP) (by kernel_rfl) (by kernel_rfl) (by kernel_rfl) (by kernel_rfl) (fun _ => ⟨HD8.out.cur.drewN 1, (Kept.refl _ _).drewN 1⟩) ?_ ?_
            · refine ⟨?_, ?_, ?_, ?_, ?_, ?_, ?_, ?_, ?_, ?_, ?_, trivial⟩
              ·
                intro u w21 au hsl hel hu hF hp' K hK
                have hU : u 10 = undef := (hu.out 10 (by decide) (.inr (by kernel_rfl))).trans (by kernel_rfl)
                obtain ⟨hC, hKp⟩ := hF hU
                have HU := hide hU
                have t4 : au.tmps[4]?.getD undef = .slice (some ⟨bv, 0, none⟩) k2 cpv := (hel.out 4 (by kernel_rfl)).trans (by kernel_rfl)
                clear hU
                refine step_plain rfl ?_
                go_simp
                exact hK.out (.slice (some ⟨bv, 0, none⟩) k2 cpv) _ (tR_up hF id (Kept.refl _ _) 0 (by omega) _) (tF_val 0 (by omega) (by omega) (by omega) ((G0.out _).2 rfl)) (fun j hj hf h => tF_up HP8.out (Kept.refl _ _) 0 (by omega) _ j hj (fun e => by subst e; exact absurd (Eq.trans (Eq.symm (by kernel_rfl)) hf) Bool.false_ne_true) h)
              ·
                intro u w21 au hsl hel hu hF hp' K hK
                have hU : u 10 = undef := (hu.out 10 (by decide) (.inr (by kernel_rfl))).trans (by kernel_rfl)
                obtain ⟨hC, hKp⟩ := hF hU
                have HU := hide hU
                have h0 : u 0 = .slice (some ⟨bv, 0, none⟩) k2 cpv := (G0.out _).1 (PreF.get hp' 0 (by kernel_rfl)).1
                have t94 : au.tmps[94]?.getD undef = u 0 := hsl.out 0 94 (by kernel_rfl)
                rw [h0] at t94
                clear hU
                refine step_plain rfl ?_
                go_simp
                exact hK.out (.pointer (some ⟨bv, 0, none⟩)) _ (tR_up hF id (Kept.refl _ _) 1 (by omega) _) (tF_val 1 (by omega) (by omega) (by omega) ((G1.out _).2 rfl)) (fun j hj hf h => tF_up HP8.out (Kept.refl _ _) 1 (by omega) _ j hj (fun e => by subst e; exact absurd (Eq.trans (Eq.symm (by kernel_rfl)) hf) Bool.false_ne_true) h)
              ·
                intro u w21 au hsl hel hu hF hp' K hK
                have hU : u 10 = undef := (hu.out 10 (by decide) (.inr (by kernel_rfl))).trans (by kernel_rfl)
                obtain ⟨hC, hKp⟩ := hF hU
                have HU := hide hU
                have h1 : u 1 = .pointer (some ⟨bv, 0, none⟩) := (G1.out _).1 (PreF.get hp' 1 (by kernel_rfl)).1
                have t95 : au.tmps[95]?.getD undef = u 1 := hsl.out 1 95 (by kernel_rfl)
                rw [h1] at t95
                clear hU
                refine step_plain rfl ?_
                go_simp
                exact hK.out (.pointer (some ⟨bv, 0, none⟩)) _ (tR_up hF id (Kept.refl _ _) 2 (by omega) _) (tF_val 2 (by omega) (by omega) (by omega) ((G2.out _).2 rfl)) (fun j hj hf h => tF_up HP8.out (Kept.refl _ _) 2 (by omega) _ j hj (fun e => by subst e; exact absurd (Eq.trans (Eq.symm (by kernel_rfl)) hf) Bool.false_ne_true) h)
              ·
                intro u w21 au hsl hel hu hF hp' K hK
                have hU : u 10 = undef := (hu.out 10 (by decide) (.inr (by kernel_rfl))).trans (by kernel_rfl)
                obtain ⟨hC, hKp⟩ := hF hU
                have HU := hide hU
                have h2 : u 2 = .pointer (some ⟨bv, 0, none⟩) := (G2.out _).1 (PreF.get hp' 2 (by kernel_rfl)).1
                have t96 : au.tmps[96]?.getD undef = u 2 := hsl.out 2 96 (by kernel_rfl)
                rw [h2] at t96
                clear hU
                have xc := HY0.out _ hKp
                refine step_plain rfl ?_
                go_simp
                exact hK.out (.slice (some ⟨c, 0, none⟩) L0.length cx) _ (tR_up hF id (Kept.refl _ _) 3 (by omega) _) (tF_val 3 (by omega) (by omega) (by omega) ((G3.out _).2 rfl)) (fun j hj hf h => tF_up HP8.out (Kept.refl _ _) 3 (by omega) _ j hj (fun e => by subst e; exact absurd (Eq.trans (Eq.symm (by kernel_rfl)) hf) Bool.false_ne_true) h)
              ·
                intro u w21 au hsl hel hu hF hp' K hK
                have hU : u 10 = undef := (hu.out 10 (by decide) (.inr (by kernel_rfl))).trans (by kernel_rfl)
                obtain ⟨hC, hKp⟩ := hF hU
                have HU := hide hU
                clear hU
                have hb := bnew w21 (.cells #[.int .i64 1000, .int .i64 1001, .int .i64 (-1001)] 2)
                have HT : Hid (TabC 3 w21.heap.size (w21.alloc (.cells #[.int .i64 1000, .int .i64 1001, .int .i64 (-1001)] 2))) := tab_lit [(1000 : Int), (1001 : Int), (-1001 : Int)]
                have HS := hide hKp.size
                refine step_plain rfl ?_
                go_simp
                exact hK.out (.slice (some ⟨w21.heap.size, 0, none⟩) 3 3) _ (tR_up hF (fun h => h.below hb) (Kept.of_below hb) 4 (by omega) _) (tF_tab (by omega) (by omega) G4.out HS.out HT.out) (fun j hj hf h => tF_up HP8.out (Kept.of_below hb) 4 (by omega) _ j hj (fun e => by subst e; exact absurd (Eq.trans (Eq.symm (by kernel_rfl)) hf) Bool.false_ne_true) h)
              ·
                intro u w21 au hsl hel hu hF hp' K hK
                have hU : u 10 = undef := (hu.out 10 (by decide) (.inr (by kernel_rfl))).trans (by kernel_rfl)
                obtain ⟨hC, hKp⟩ := hF hU
                have HU := hide hU
                have t0 : au.tmps[0]?.getD undef = .pointer (some ⟨p, 0, none⟩) := (hel.out 0 (by kernel_rfl)).trans (by kernel_rfl)
                clear hU
                refine step_plain rfl ?_
                go_simp
                exact hK.out (.pointer (some ⟨p, 0, none⟩)) _ (tR_up hF id (Kept.refl _ _) 5 (by omega) _) (tF_val 5 (by omega) (by omega) (by omega) ((G5.out _).2 rfl)) (fun j hj hf h => tF_up HP8.out (Kept.refl _ _) 5 (by omega) _ j hj (fun e => by subst e; exact absurd (Eq.trans (Eq.symm (by kernel_rfl)) hf) Bool.false_ne_true) h)
              ·
                intro u w21 au hsl hel hu hF hp' K hK
                have hU : u 10 = undef := (hu.out 10 (by decide) (.inr (by kernel_rfl))).trans (by kernel_rfl)
                obtain ⟨hC, hKp⟩ := hF hU
                have HU := hide hU
                have h5 : u 5 = .pointer (some ⟨p, 0, none⟩) := (G5.out _).1 (PreF.get hp' 5 (by kernel_rfl)).1
                have t99 : au.tmps[99]?.getD undef = u 5 := hsl.out 5 99 (by kernel_rfl)
                rw [h5] at t99
                clear hU
                have hd := HBel.out w21 hC
                refine step_plain rfl ?_
                go_simp
                refine hd.mono ?_
                rintro e w22 ⟨y, rfl, hy0, hy1, hc22, hk22⟩
                obtain ⟨Y, rfl⟩ : ∃ Y : Nat, y = (Y : Int) := ⟨y.toNat, by omega⟩
                have hYN : Y < 3 := by omega
                exact hK.out (.int .i64 (Y : Int)) _ (tR_up hF (fun _ => hc22) hk22 6 (by omega) _) (tF_val 6 (by omega) (by omega) (by omega) ((G6.out _).2 ⟨Y, hYN, rfl⟩)) (fun j hj hf h => tF_up HP8.out hk22 6 (by omega) _ j hj (fun e => by subst e; exact absurd (Eq.trans (Eq.symm (by kernel_rfl)) hf) Bool.false_ne_true) h)
              ·
                intro u w21 au hsl hel hu hF hp' K hK
                have hU : u 10 = undef := (hu.out 10 (by decide) (.inr (by kernel_rfl))).trans (by kernel_rfl)
                obtain ⟨hC, hKp⟩ := hF hU
                have HU := hide hU
                obtain ⟨b4, h4, hb4, ht4⟩ := (PreF.get hp' 4 (by kernel_rfl)).2.1 rfl
                have ht4 := ht4 hU
                have t98 : au.tmps[98]?.getD undef = u 4 := hsl.out 4 98 (by kernel_rfl)
                rw [h4] at t98
                obtain ⟨z6, hy6, h6⟩ := (G6.out _).1 (PreF.get hp' 6 (by kernel_rfl)).1
                have t100 : au.tmps[100]?.getD undef = u 6 := hsl.out 6 100 (by kernel_rfl)
                rw [h6] at t100
                clear hU
                have hz := ht4 z6 hy6
                have hyi : (z6 : Int) < 3 := by omega
                refine step_plain rfl ?_
                go_simp
                exact hK.out (.pointer (some ⟨b4, z6, none⟩)) _ (tR_up hF id (Kept.refl _ _) 7 (by omega) _) (tF_ix (by omega) (by omega) G7.out hb4 hz) (fun j hj hf h => tF_up HP8.out (Kept.refl _ _) 7 (by omega) _ j hj (fun e => by subst e; exact absurd (Eq.trans (Eq.symm (by kernel_rfl)) hf) Bool.false_ne_true) h)
              ·
                intro u w21 au hsl hel hu hF hp' K hK
                have hU : u 10 = undef := (hu.out 10 (by decide) (.inr (by kernel_rfl))).trans (by kernel_rfl)
                obtain ⟨hC, hKp⟩ := hF hU
                have HU := hide hU
                obtain ⟨b7, y7, h7, hb7, ht7⟩ := (PreF.get hp' 7 (by kernel_rfl)).2.2.1 rfl
                obtain ⟨z7, hz7⟩ := ht7 hU
                have t101 : au.tmps[101]?.getD undef = u 7 := hsl.out 7 101 (by kernel_rfl)
                rw [h7] at t101
                clear hU
                refine step_plain rfl ?_
                go_simp
                exact hK.out _ _ (tR_up hF id (Kept.refl _ _) 8 (by omega) _) (tF_val 8 (by omega) (by omega) (by omega) ((G8.out _).2 ⟨_, rfl⟩)) (fun j hj hf h => tF_up HP8.out (Kept.refl _ _) 8 (by omega) _ j hj (fun e => by subst e; exact absurd (Eq.trans (Eq.symm (by kernel_rfl)) hf) Bool.false_ne_true) h)
              ·
                intro u w21 au hsl hel hu hF hp' K hK
                have hU : u 10 = undef := (hu.out 10 (by decide) (.inr (by kernel_rfl))).trans (by kernel_rfl)
                obtain ⟨hC, hKp⟩ := hF hU
                have HU := hide hU
                have h3 : u 3 = .slice (some ⟨c, 0, none⟩) L0.length cx := (G3.out _).1 (PreF.get hp' 3 (by kernel_rfl)).1
                have t97 : au.tmps[97]?.getD undef = u 3 := hsl.out 3 97 (by kernel_rfl)
                rw [h3] at t97
                clear hU
                refine step_plain rfl ?_
                go_simp
                exact hK.out (.pointer (some ⟨c, 0, none⟩)) _ (tR_up hF id (Kept.refl _ _) 9 (by omega) _) (tF_val 9 (by omega) (by omega) (by omega) ((G9.out _).2 rfl)) (fun j hj hf h => tF_up HP8.out (Kept.refl _ _) 9 (by omega) _ j hj (fun e => by subst e; exact absurd (Eq.trans (Eq.symm (by kernel_rfl)) hf) Bool.false_ne_true) h)
              ·
                intro u w21 au hsl hel hu hF hp' K hK
                have hU : u 10 = undef := (hu.out 10 (by decide) (.inl rfl)).trans (by kernel_rfl)
                obtain ⟨hC, hKp⟩ := hF hU
                have HU := hide hU
                have h9 : u 9 = .pointer (some ⟨c, 0, none⟩) := (G9.out _).1 (PreF.get hp' 9 (by kernel_rfl)).1
                have t103 : au.tmps[103]?.getD undef = u 9 := hsl.out 9 103 (by kernel_rfl)
                rw [h9] at t103
                obtain ⟨z8, h8⟩ := (G8.out _).1 (PreF.get hp' 8 (by kernel_rfl)).1
                have t102 : au.tmps[102]?.getD undef = u 8 := hsl.out 8 102 (by kernel_rfl)
                rw [h8] at t102
                clear hU
                refine step_plain rfl ?_
                have xc := HYc.out _ hKp
                have xf := HYf.out _ hKp
                have HP : Hid (∃ (w1 : World) (z : Int), w21.setCell ⟨c, 0, none⟩ (.int .i64 z8) = w1.setCell ⟨c, 0, none⟩ (.int .i64 z) ∧ Cur p a len cap w1 ∧ Kept p w8 w1) := ⟨w21, z8, rfl, hC, hKp⟩
                clear hC hKp
                go_simp
                exact hK.out (.bool true) _ (tR_st (by simp [undef])) (tF_done (by omega) (by omega) G10.out (by rw [HPP.out]; exact HP.out)) (fun j hj _ h => tF_st (by simp [undef]) j hj (by omega) (by omega) h)
            · intro u w30 hF hall
              have hP := (hall 10 (by decide)).2.2.2 rfl
              rw [HPP.out] at hP
              obtain ⟨w1, z', rfl, hC, hKp⟩ := hP
              have HE := hide (HFIN.out _ k2 Q2 _ (by have := HkR.out; omega) ((HS.out w1 z' hC hKp).more (by omega)))
              clear hall hF hC hKp HD8
              simp only [rgPut, Act.put]
              go_simp
              go_wp2_with fail
              go_ret
              exact HE.out
          · obtain ⟨bv, cpv, c, cx, L0, z, hv, y0, y1, g0, g1, hBb, hbQ, hbw, hL1, hL4, hBc, hcQ, hcw, hbc, hcl, hown0, hset1, hsetc, happ⟩ := HD8.out.bl.head (by have := HkR.out; omega)
            subst hv
            have hki : (0 : Int) < (k2 : Int) := by have := HkR.out; omega
            obtain ⟨xv, hxv⟩ : ∃ xv, xv = Value.slice (some ⟨c, 0, none⟩) L0.length cx := ⟨_, rfl⟩
            rw [← hxv] at y0 hown0
            have HXv := hide hxv
            have HOx := hide hown0
            have HBr : Hid (Below w.heap.size w8 w8) := Below.refl _ _
            have HSz : Hid (w.heap.size ≤ w8.heap.size) := HD8.out.kept.size
            have HLm : Hid (L0.length ≤ 1048576) := by show _ ≤ _; omega
            have HAp := hide happ
            have HNe : Hid (bv < w8.heap.size ∧ bv ≠ c ∧ 1 ≤ L0.length ∧ L0.length ≤ 4 ∧ w.heap.size ≤ bv) := ⟨hbw, hbc, hL1, hL4, hBb⟩
            clear hxv hown0 hBb hbQ hbw hL1 hL4 hBc hcQ hcw hbc hcl hset1 hsetc happ
            go_wp2_with (refine growN w8 rfl (.tmp 110) (.tmp 111) (by rfl) w.heap.size xv L0.length L0 (by rfl) w8 HOx.out HBr.out HSz.out 1 (by rfl) HLm.out ?_)
            intro v' w12 ho12 hb12 hs12 hkv hmv
            obtain ⟨g, cg, rfl, -, -⟩ := own_partsL ho12 (by omega)
            have hbl : w12.heap[bv]? = w8.heap[bv]? := hkv bv HNe.out.1 (by rw [HXv.out]; intro e; exact HNe.out.2.1 (Option.some.inj e).symm)
            have y0' := (World.cell?_of_block (a := ⟨bv, 0, none⟩) hbl).trans y0
            have g0' := (World.frozen?_of_block (a := ⟨bv, 0, none⟩) hbl).trans g0
            have hAp := HAp.out g cg (L0 ++ [1]) w12 (fun b hb hne => hkv b hb (by rw [HXv.out]; intro e; exact hne (Option.some.inj e).symm)) ((hmv g rfl).imp (fun e => by rw [HXv.out] at e; exact (Option.some.inj e).symm) id) (Nat.le_of_lt hs12) (by rw [List.length_append]; exact ho12) (by simp) (by have := HNe.out; simp; omega)
            rw [show (L0 ++ [(1 : Int)]).length = L0.length + 1 by simp] at hAp
            have HD12 : Hid (DB p a len cap w _ 5 (.slice (some ⟨bv, 0, none⟩) k2 cpv) k2 (w12.setCell ⟨bv, 0, none⟩ (.slice (some ⟨g, 0, none⟩) (L0.length + 1) cg))) := ⟨(HD8.out.cur.belowB hb12 hp HAB.out).setBox (B := w.heap.size) hp HAB.out HNe.out.2.2.2.2 _, (HD8.out.kept.belowB hb12 (Nat.le_refl _)).setNew (a := ⟨bv, 0, none⟩) HNe.out.2.2.2.2 _, hAp⟩
            clear ho12 hb12 hs12 hkv hmv hbl hAp HAp HNe HXv HOx HBr HD8 y0 g0
            go_wp2_with fail
            go_ret
            exact HFIN.out _ k2 _ _ (by have := HkR.out; omega) HD12.out
          · have HD9 : Hid (DB p a len cap w (w8.heap.size + 1) 5 (.slice (some ⟨w8.heap.size, 0, none⟩) 0 0) 0 (w8.alloc (.cells #[] 30))) := ⟨HD8.out.cur.below (bnew _ _), HD8.out.kept.trans (Kept.of_below (bnew _ _)), BL.nil _ _ _ HD8.out.kept.size⟩
            clear HD8
            go_wp2_with fail
            go_ret
            exact HFIN.out _ 0 _ _ (by omega) HD9.out
    | succ N =>
      have q0 : (0 : Int) < ((N + 1 : Nat) : Int) := by omega
      have hd := from_any p a len cap _ HD.out.cur (-6) 20 (by omega) (by omega) (by omega)
      go_wp2_with fail
      refine hd.mono ?_
      rintro e w4 ⟨id, rfl, -, -, hc4, hk4⟩
      have hb4 := bnew w4 (.cells #[.slice none 0 0, .int .i64 id] 30)
      have HQ : Hid (OC w4.heap.size id [] none 0 (w4.alloc (.cells #[.slice none 0 0, .int .i64 id] 30))) := OC.new _ _ _ rfl
      have HK4 : Hid (Kept p wr0 (w4.alloc (.cells #[.slice none 0 0, .int .i64 id] 30))) := hk4.trans (Kept.of_below hb4)
      have HC4 : Hid (Cur p a len cap (w4.alloc (.cells #[.slice none 0 0, .int .i64 id] 30))) := hc4.below hb4
      have HZ4 : Hid (w4.heap.size + 1 ≤ (w4.alloc (.cells #[.slice none 0 0, .int .i64 id] 30)).heap.size) := by show _ ≤ _; simp
      have HW4 : Hid (wr0.heap.size ≤ w4.heap.size) := hk4.size
      have HPQ : Hid (p < w4.heap.size) := Nat.lt_of_lt_of_le hp (Nat.le_trans HD.out.kept.size hk4.size)
      clear hd hc4 hk4 hb4
      go_wp2_with fail
      generalize hw5 : w4.alloc (.cells #[.slice none 0 0, .int .i64 id] 30) = w5 at *
      clear hw5
      generalize w4.heap.size = q at *
      go_loopw [7] (fun f wq => ∃ (j : Nat) (L : List Int) (af : Option Addr) (cf : Nat), j ≤ n ∧ f = .int .i64 j ∧ L.length = j ∧ OC q id L af cf wq ∧ Kept p wr0 wq ∧ Cur p a len cap wq ∧ q + 1 ≤ wq.heap.size) (fun f _ => n - (intOf f).toNat)
      case atStart => exact ⟨0, [], none, 0, by omega, rfl, rfl, HQ.out, HK4.out, HC4.out, HZ4.out⟩
      case round =>
        obtain ⟨j, L, af, cf, hj, rfl, hL, hq, hk, hc, hz⟩ := hrel
        clear HQ HK4 HC4 HZ4
        have HQ := hide hq
        have HK4 := hide hk
        have HC4 := hide hc
        have HZ4 := hide hz
        have HL := hide hL
        clear hq hk hc hz hL
        by_cases hjn : j < n
        · have q4 : (j : Int) < (n : Int) := by omega
          have hd := fun w' h => from_any p a len cap w' h (-4) 6 (by omega) (by omega) (by omega)
          have z8 := HQ.out.z0
          have f8 := HQ.out.f0
          have HCd : Hid (Cur p a len cap wr.drew) := HC4.out.drewN 1
          obtain ⟨ti, hi1, hi2, hi3, hi4⟩ := info2
          have HI1 := hide hi1
          have HLn : Hid (L.length ≤ 4) := by have := HL.out; have := HN.out; show _ ≤ _; omega
          clear hi1
          go_upto_region 10 with fail
          go_region_law (first
            | (refine step_append_lies _ (by rfl) _ _ _ (by rfl) (q + 1) 2 ti _ 1 8 Try.underlying25 HI1.out hi2 hi3 hi4 rfl (by omega) (.slice af L.length cf) L.length (ints L) (by rfl) (HQ10.out.own.alloc _) ⟨w10.heap.size, 0, none⟩ 1 1 [.int .i64 y] (by rfl) (by rfl) (World.news_of_block (cs := #[.int .i64 y]) (t := 2) (fr := (0, 0)) (heap_alloc_new w10 _)) (by simp [Value.oneCell']) (by omega) (by have := HLn.out; unfold maxLen; omega) (by have := HLn.out; omega) (by have := HZ10.out; simp; omega) (w10.heap.size + 1) (by simp) ?_; intro gg cap1 w11 hown1 hgrow hat hlt1; have hb11 : Below (q + 1) w10 w11 := ((Below.refl _ _).alloc HZ10.out _).trans ((Below.refl _ _).grown hgrow (by have := HZ10.out; simp; omega) (fun q' hq' => (HQ10.out.own.lt q' hq').1)); have z11 := (hb11.cell (p := ⟨q, 0, none⟩) (by show q < q + 1; omega)).trans z10; have f11 := (hb11.frozen (p := ⟨q, 0, none⟩) (by show q < q + 1; omega)).trans f10)
            | (go_wp2_with fail; (with_reducible refine (hd _ HCd.out).mono ?_); rintro e w10 ⟨y, rfl, hy0, hy1, hc10, hk10⟩; have hk := ((Kept.refl p wr).drew).trans hk10; have HQ10 := hide (HQ.out.kept hk HPQ.out); have HK10 := hide (HK4.out.trans hk); have HZ10 := hide (Nat.le_trans HZ4.out hk.size); have HC10 := hide hc10; have z10 := HQ10.out.z0; have f10 := HQ10.out.f0; have hq10 : q < w10.heap.size := HZ10.out; clear hc10 hk10 hk))
          all_goals
            have e1 : L.length + 1 = (L ++ [y]).length := by simp
            have ho11 : w11.ownsRow (q + 1) 2 1 (.slice (some ⟨gg, 0, none⟩) (L ++ [y]).length cap1) (L ++ [y]).length (ints (L ++ [y])) := by rw [ints_append, ← e1]; exact hown1
            have HX : Hid (OC q id (L ++ [y]) (some ⟨gg, 0, none⟩) cap1 (w11.setCell ⟨q, 0, none⟩ (.slice (some ⟨gg, 0, none⟩) (L.length + 1) cap1)) ∧ Kept p wr0 (w11.setCell ⟨q, 0, none⟩ (.slice (some ⟨gg, 0, none⟩) (L.length + 1) cap1)) ∧ Cur p a len cap (w11.setCell ⟨q, 0, none⟩ (.slice (some ⟨gg, 0, none⟩) (L.length + 1) cap1)) ∧ q + 1 ≤ (w11.setCell ⟨q, 0, none⟩ (.slice (some ⟨gg, 0, none⟩) (L.length + 1) cap1)).heap.size) := by
              rw [e1]
              exact ⟨HQ10.out.set0 hb11 ho11, (HK10.out.belowB hb11 (by have := HW4.out; omega)).setNew (a := ⟨q, 0, none⟩) HW4.out _, (HC10.out.belowB hb11 (by have := HPQ.out; omega) (abLt HAB.out (by have := HPQ.out; have := HW4.out; have := HD.out.kept.size; omega))).setBox (B := w.heap.size) hp HAB.out (by have := HW4.out; have := HD.out.kept.size; omega) _, by have := Nat.le_trans HZ10.out hb11.size; simpa using this⟩
            have HL9 : Hid ((L ++ [y]).length = j + 1) := by have := HL.out; show _ = _; rw [← e1]; omega
            have HJ1 : Hid (j + 1 ≤ n) := by show _ ≤ _; omega
            have HMs : Hid (n - (j + 1) < n - j) := by show _ < _; omega
            have hjw : IntKind.i64.wrap ((j : Int) + 1) = (j : Int) + 1 := by have := HN.out; rw [IntKind.wrap_i64]; omega
            clear hown1 hgrow hat hlt1 hb11 z11 f11 ho11 e1 hd HCd HQ10 HK10 HC10 HZ10 z10 f10 HQ HK4 HC4 HZ4 z8 f8 HL
            go_wp2_with fail
            go_roundw
            case rel => exact ⟨j + 1, _, _, _, HJ1.out, by simp, HL9.out, HX.out⟩
            case measure => simpa [intOf] using HMs.out
        · obtain rfl : j = n := by omega
          have q4 : ¬ (j : Int) < (j : Int) := by omega
          have z0 := HQ.out.z0
          have z1 := HQ.out.z1
          have hD9 := HD.out.step hp HC4.out HK4.out
          have HBL := hide hD9.bl
          have HLp : Hid (1 ≤ L.length ∧ L.length ≤ 4) := by have := HL.out; have := HN.out; show _ ∧ _; omega
          have HOx : Hid (wr.ownsRow wr0.heap.size 2 1 (.slice af L.length cf) L.length (ints L)) := owns_mono HQ.out.own (by have := HW4.out; omega)
          have HSz : Hid (w.heap.size ≤ wr.heap.size) := hD9.kept.size
          have HSq : Hid (w.heap.size ≤ wr0.heap.size) := HD.out.kept.size
          have HkM : Hid (k ≤ 1048576) := by have := HkN.out; have := HK0.out; show _ ≤ _; omega
          have HBr : Hid (Below w.heap.size wr wr) := Below.refl _ _
          have HKp := hide hD9.kept
          have HCc := hide HC4.out
          clear hD9 HQ HK4 HC4 HZ4 HD
          go_wp2_with (refine growB wr rfl (.tmp 37) (.tmp 39) (by rfl) w.heap.size wr0.heap.size 4 u4 k (by rfl) wr HBL.out HBr.out HSz.out HSq.out id (.slice af L.length cf) L HLp.out.1 HLp.out.2 HOx.out rfl (by rfl) HkM.out ?_)
          intro v' w12 ho12 hb12 hs12 hkv hmv
          have HD12 : Hid (DB p a len cap w w12.heap.size 4 v' (k + 1) w12) := ⟨HCc.out.belowB hb12 hp HAB.out, HKp.out.belowB hb12 (Nat.le_refl _), ho12⟩
          have HN1k : Hid (N ≤ 1000) := by have := HkN.out; have := HK0.out; show _ ≤ _; omega
          have HwN : Hid (wrap64 (N : Int) = (N : Int)) := wrap_small HN1k.out
          have HkN2 : Hid (k + 1 + N = K0) := by have := HkN.out; show _ = _; omega
          clear ho12 hb12 hs12 hkv hmv HBL HOx HBr HKp HCc HkN z0 z1
          go_wp2_with fail
          go_roundw
          case rel => exact ⟨k + 1, N, _, HkN2.out, by simpa using HwN.out, HD12.out⟩
          case measure => exact meas_w HwN.out


end Go.Proofs.Ytadbniademamhaa

/- The draw of a cube and a turn. -/
import Derived.Test.YtkgkdhocmglklaaDoorIls
import Derived.Test.YtkgkdhocmglklaaDoorDtm
import Derived.Test.YtkgkdhocmglklaaDoorRVol
import Derived.BigRegion
import Derived.Deep.RegionHeld3
import Derived.Deep.AppendLies
import Derived.Deep.RegionLaw
import Derived.Test.YtkgkdhocmglklaaDoorRgi
namespace Go.Proofs.YtkgkdhocmglklaaDoor
open Go.RowKit

/-- a list of numbers of the call's own, by its list -/
theorem own_partsL {w : World} {B n : Nat} {v : Value} {L : List Int} (h : w.ownsRow B 2 1 v n (ints L)) (hn : 0 < n) :
    ∃ b cap, v = .slice (some ⟨b, 0, none⟩) n cap ∧ B ≤ b ∧ ∀ k, k < n → w.cell? ⟨b, k, none⟩ = some (.int .i64 (L.getD k 0)) ∧ w.frozen? ⟨b, k, none⟩ = false := by
  obtain ⟨a, cap, b, hv, ho, hB, _⟩ := ow_of_some h hn
  rcases ho with h0 | ⟨ha, hr⟩
  · omega
  · exact ⟨b, cap, by rw [hv, ha], hB, fun k hk => hr k (by omega)⟩
theorem own_setL {w : World} {B n b cap : Nat} {L : List Int} (h : w.ownsRow B 2 1 (.slice (some ⟨b, 0, none⟩) n cap) n (ints L)) (k : Nat) (z : Int) :
    (w.setCell ⟨b, k, none⟩ (.int .i64 z)).ownsRow B 2 1 (.slice (some ⟨b, 0, none⟩) n cap) n (ints (L.set k z)) := by
  obtain ⟨h1, h2⟩ := h
  refine ⟨by rw [ints_length] at h1 ⊢; rw [List.length_set]; exact h1, ?_⟩
  rcases h2 with ⟨hv, _⟩ | ⟨b', cap', cur, hv, hB, hh, hn, hc, hs, ht⟩
  · cases hv
  · cases hv
    refine .inr ⟨b, cap, cur.setIfInBounds k (.int .i64 z), rfl, hB, ?_, hn, hc, by rw [Array.size_setIfInBounds]; exact hs, ?_⟩
    · rw [heap_setCell_same w b k cur 2 _ hh]
    · rw [Array.toList_setIfInBounds, List.take_set, ht]
      unfold ints
      rw [List.map_set]
theorem growL (w : World) {ops : Array Oper} {rest : List Oper} {o : Oper} {a : Act} {Q : Exit → Act → World → Prop} (hgd : o.guard = none) (s x : Operand)
    (ho : o.op = .call { callee := .builtin .append, args := #[s, x], argTypes := #[24, 24] }) (B : Nat) (v : Value) (n : Nat) (L : List Int) (hs : a.eval s = v) (w0 : World) (hown : w.ownsRow B 2 1 v n (ints L))
    (hb : Below B w0 w) (hB : B ≤ w.heap.size) (z : Int) (hx : a.eval x = .slice (some ⟨w.heap.size, 0, none⟩) 1 1) (hn : n ≤ 1048576)
    (h : ∀ v' w', w'.ownsRow B 2 1 v' (n + 1) (ints (L ++ [z])) → Below B w0 w' → w.heap.size < w'.heap.size → wpList Tryd.prog ops Q rest (a.put o.dst v') w') :
    wpList Tryd.prog ops Q (o :: rest) a (w.alloc (.cells #[.int .i64 z] 2)) := by
  obtain ⟨ti, hi1, hi2, hi3, hi4⟩ := info2
  exact grow w hgd s x 24 ho B 2 ti (.int .i64 0) 1 8 Tryd.underlying24 hi1 hi2 hi3 hi4 rfl (by omega) v n L hs w0 hown hb hB [z] 1 1 hx rfl (by unfold maxLen; omega) (by omega) h

end Go.Proofs.YtkgkdhocmglklaaDoor

namespace Go.Proofs.YtkgkdhocmglklaaDoor
open Go.RowKit

theorem owns_keepV {w w' : World} {B n m : Nat} {e : TypeId} {v : Value} {xs : List Value} (h : w.ownsRow B e m v n xs) (hk : ∀ b, B ≤ b → b < w.heap.size → w'.heap[b]? = w.heap[b]?) : w'.ownsRow B e m v n xs := by
  have hl := h.lt
  obtain ⟨h1, h2⟩ := h
  refine ⟨h1, ?_⟩
  rcases h2 with h2 | ⟨g, cap, cur, hv, hB, hg, hr⟩
  · exact .inl h2
  · exact .inr ⟨g, cap, cur, hv, hB, (hk g hB (hl g (by rw [hv]; rfl)).2).trans hg, hr⟩
theorem own_isV {w : World} {B n m : Nat} {e : TypeId} {v : Value} {xs : List Value} (h : w.ownsRow B e m v n xs) : ∃ a cap, v = .slice a n cap := by
  obtain ⟨_, ⟨rfl, rfl⟩ | ⟨g, cap, cur, hv, _⟩⟩ := h
  · exact ⟨none, 0, rfl⟩
  · exact ⟨_, cap, hv⟩
/-- the volume at hand: its box at q, its list in a block of its own behind it; the answer's box at R -/
structure VD (p : Nat) (a : Option Addr) (len cap : Nat) (w : World) (R q : Nat) (X Y Z : Int) (L : List Int) (af : Option Addr) (cf : Nat) (wr : World) : Prop where
  z : Bx q [.int .i64 X, .int .i64 Y, .int .i64 Z, .slice af L.length cf] wr
  own : wr.ownsRow (q + 1) 2 1 (.slice af L.length cf) L.length (ints L)
  res : Bx R [.int .i64 0, .int .i64 0, .int .i64 0, .slice none 0 0] wr
  ck : CK p a len cap w wr
  sz : q + 1 ≤ wr.heap.size
structure VC (p : Nat) (a : Option Addr) (len : Nat) (w : World) (R q : Nat) : Prop where
  hp : p < w.heap.size
  hab : len = 0 ∨ ∀ b off, a = some ⟨b, off, none⟩ → b < w.heap.size
  hr : w.heap.size ≤ R
  hq : R < q
theorem VD.step {p : Nat} {a : Option Addr} {len cap : Nat} {w : World} {R q : Nat} {X Y Z : Int} {L : List Int} {af : Option Addr} {cf : Nat} {wr w' : World} (h : VD p a len cap w R q X Y Z L af cf wr) (hv : VC p a len w R q) (hc : Cur p a len cap w') (hk : Kept p wr w') : VD p a len cap w R q X Y Z L af cf w' := by
  have h1 := hv.hp; have h2 := hv.hr; have h3 := hv.hq
  exact ⟨h.z.kept hk (by omega), owns_keepV h.own (fun b hb hl => hk.block b hl (by omega)), h.res.kept hk (by omega), ⟨hc, h.ck.2.trans hk⟩, Nat.le_trans h.sz hk.size⟩
theorem VD.drew {p : Nat} {a : Option Addr} {len cap : Nat} {w : World} {R q : Nat} {X Y Z : Int} {L : List Int} {af : Option Addr} {cf : Nat} {wr : World} (h : VD p a len cap w R q X Y Z L af cf wr) : VD p a len cap w R q X Y Z L af cf wr.drew :=
  ⟨h.z, h.own, h.res, ⟨h.ck.1.drewN 1, h.ck.2.drewN 1⟩, h.sz⟩
theorem Bx.setIn {b : Nat} {vs : List Value} {w : World} (h : Bx b vs w) {k : Nat} (hk : k < vs.length) (v : Value) : Bx b (vs.set k v) (w.setCell ⟨b, k, none⟩ v) := fun j u hu => by
  by_cases e : j = k
  · subst e
    rw [List.getElem?_set_self hk] at hu
    cases hu
    have := h j _ (List.getElem?_eq_getElem hk)
    exact ⟨World.cell?_setCell_same _ _ _ this.1, by simpa using this.2⟩
  · rw [List.getElem?_set_ne (Ne.symm e)] at hu
    have := h j u hu
    refine ⟨?_, by simpa using this.2⟩
    rw [World.cell?_setCell_other _ _ _ _ (by intro e'; exact e (congrArg Addr.off e').symm)]
    exact this.1
theorem Bx.farC {b : Nat} {vs : List Value} {w : World} (h : Bx b vs w) {c k : Nat} (hc : c ≠ b) (v : Value) : Bx b vs (w.setCell ⟨c, k, none⟩ v) := fun j u hu => by
  have := h j u hu
  refine ⟨?_, by simpa using this.2⟩
  rw [World.cell?_setCell_other _ _ _ _ (by intro e; exact hc (congrArg Addr.block e))]
  exact this.1
theorem owns_farC {w : World} {B n m : Nat} {e : TypeId} {v : Value} {xs : List Value} (h : w.ownsRow B e m v n xs) {c k : Nat} (hc : c < B) (x : Value) : (w.setCell ⟨c, k, none⟩ x).ownsRow B e m v n xs :=
  owns_keepV h (fun b hb _ => by
    have k' : Kept c w (w.setCell ⟨c, k, none⟩ x) := (Kept.refl c w).setCell (a := ⟨c, k, none⟩) rfl x
    exact k'.block b (by assumption) (by omega))
/-- the list behind the box has grown -/
theorem VD.grown {p : Nat} {a : Option Addr} {len cap : Nat} {w : World} {R q : Nat} {X Y Z : Int} {L L' : List Int} {af af' : Option Addr} {cf cf' : Nat} {wr w' : World} (h : VD p a len cap w R q X Y Z L af cf wr) (hv : VC p a len w R q) (hb : Below (q + 1) wr w') (ho : w'.ownsRow (q + 1) 2 1 (.slice af' L'.length cf') L'.length (ints L')) :
    VD p a len cap w R q X Y Z L' af' cf' (w'.setCell ⟨q, 3, none⟩ (.slice af' L'.length cf')) := by
  have h1 := hv.hp; have h2 := hv.hr; have h3 := hv.hq
  have hz : Bx q [.int .i64 X, .int .i64 Y, .int .i64 Z, .slice af L.length cf] w' := h.z.below hb (by omega)
  refine ⟨hz.setIn (k := 3) (by simp) _, owns_farC ho (by omega) _, (h.res.below hb (by omega)).farC (by omega) _, ?_, by have := Nat.le_trans h.sz hb.size; simpa using this⟩
  exact CK.set ⟨h.ck.1.belowB hb (by omega) (hv.hab.imp id fun h b off e => by have := h b off e; omega), h.ck.2.belowB hb (by omega)⟩ h1 hv.hab (q := ⟨q, 3, none⟩) (by show w.heap.size ≤ q; omega) _

/-- a volume is drawn -/
def DrV (p : Nat) (a : Option Addr) (len cap : Nat) (w : World) (e : Ending) (w' : World) : Prop :=
  ∃ (X Y Z : Int) (L : List Int) (af : Option Addr) (cf : Nat), e = .returned (vVolume X Y Z af L.length cf) ∧ L.length ≤ 1000 ∧ w'.ownsRow w.heap.size 2 1 (.slice af L.length cf) L.length (ints L) ∧ CK p a len cap w w'
theorem own_mono {w : World} {B B' n m : Nat} {e : TypeId} {v : Value} {xs : List Value} (h : w.ownsRow B e m v n xs) (hB : B' ≤ B) : w.ownsRow B' e m v n xs := by
  obtain ⟨h1, h2⟩ := h
  refine ⟨h1, ?_⟩
  rcases h2 with h2 | ⟨g, cap, cur, hv, hg, hr⟩
  · exact .inl h2
  · exact .inr ⟨g, cap, cur, hv, Nat.le_trans hB hg, hr⟩
theorem VD.out {p : Nat} {a : Option Addr} {len cap : Nat} {w : World} {R q : Nat} {X Y Z : Int} {L : List Int} {af : Option Addr} {cf : Nat} {wr : World} (h : VD p a len cap w R q X Y Z L af cf wr) (hv : VC p a len w R q) (hL : L.length ≤ 1000) :
    DrV p a len cap w (.returned (vVolume X Y Z af L.length cf)) (set4 wr R (.int .i64 X) (.int .i64 Y) (.int .i64 Z) (.slice af L.length cf)) := by
  have h1 := hv.hp; have h2 := hv.hr; have h3 := hv.hq
  exact ⟨X, Y, Z, L, af, cf, rfl, hL, own_mono (owns_farC (owns_farC (owns_farC (owns_farC h.own (by omega) _) (by omega) _) (by omega) _) (by omega) _) (by omega), h.ck.set4 h1 hv.hab h2 _ _ _ _⟩

set_option maxRecDepth 100000 in
set_option maxHeartbeats 2000000 in
theorem l10DrawCube_any (p : Nat) (a : Option Addr) (len cap : Nat) (n : Nat) (hn : n ≤ 10) (w : World) (h : Cur p a len cap w) (hp : p < w.heap.size) (hab : len = 0 ∨ ∀ b off, a = some ⟨b, off, none⟩ → b < w.heap.size) :
    Calls Tryd.prog 45 #[.pointer (some ⟨p, 0, none⟩), .int .i64 (n : Int)] w (DrV p a len cap w) := by
  have hnn : n * n * n ≤ 1000 := Nat.mul_le_mul (Nat.mul_le_mul hn hn) hn
  obtain ⟨m, hm⟩ : ∃ m : Nat, m = n * n * n := ⟨_, rfl⟩
  have hnn2 : n * n ≤ 100 := Nat.mul_le_mul hn hn
  have e1 : IntKind.i64.wrap ((n : Int) * n) = (n : Int) * n := by
    rw [show (n : Int) * n = ((n * n : Nat) : Int) by simp, IntKind.wrap_i64]; omega
  have e2 : IntKind.i64.wrap ((n : Int) * n * n) = (m : Int) := by
    rw [show (n : Int) * n * n = ((n * n * n : Nat) : Int) by simp, ← hm, IntKind.wrap_i64]; omega
  have hm1 : m ≤ 1000 := by rw [hm]; exact hnn
  clear hm hnn hnn2
  obtain ⟨w1, hw1⟩ : ∃ w1, w1 = (w.alloc (.cells #[.int .i64 0, .int .i64 0, .int .i64 0, .slice none 0 0] 26)).alloc (.cells #[.int .i64 n, .int .i64 n, .int .i64 n, .slice none 0 0] 26) := ⟨_, rfl⟩
  have hb1 : Below w.heap.size w w1 := by rw [hw1]; exact (bnew _ _).alloc (by simp) _
  have HV : Hid (VC p a len w w.heap.size (w.heap.size + 1)) := ⟨hp, hab, Nat.le_refl _, by omega⟩
  have HD : Hid (VD p a len cap w w.heap.size (w.heap.size + 1) n n n [] none 0 w1) := by
    refine ⟨?_, ⟨rfl, .inl ⟨rfl, rfl⟩⟩, ?_, ⟨h.below hb1, Kept.of_below hb1⟩, by rw [hw1]; simp⟩
    · rw [hw1]
      have := Bx.new [.int .i64 n, .int .i64 n, .int .i64 n, .slice none 0 0] 26 (w.alloc (.cells #[.int .i64 0, .int .i64 0, .int .i64 0, .slice none 0 0] 26))
      rwa [show (w.alloc (.cells #[.int .i64 0, .int .i64 0, .int .i64 0, .slice none 0 0] 26)).heap.size = w.heap.size + 1 by simp] at this
    · rw [hw1]; exact (Bx.new [.int .i64 0, .int .i64 0, .int .i64 0, .slice none 0 0] 26 w).below (bnew _ _) (by simp)
  clear h hab hb1
  go_enter Tryd.func45, Tryd.ntmps45
  go_upto_region 2 with fail
  rw [← hw1]
  clear hw1
  generalize hq : w.heap.size + 1 = q at *
  clear hq
  go_wp2_with fail
  clear e1 e2
  obtain ⟨ti, hi1, hi2, hi3, hi4⟩ := info2
  have HI1 := hide hi1
  clear hi1
  go_loopw [6] (fun i wr => ∃ (j : Nat) (L : List Int) (af : Option Addr) (cf : Nat), i = .int .i64 j ∧ L.length + j = m ∧ VD p a len cap w w.heap.size q n n n L af cf wr) (fun i _ => (intOf i).toNat)
  case atStart => exact ⟨m, [], none, 0, rfl, by simp, HD.out⟩
  case round =>
    obtain ⟨j, L, af, cf, rfl, hj, hd⟩ := hrel
    clear HD
    have HD := hide hd
    clear hd
    have HL : Hid (L.length ≤ 1000) := by show _ ≤ _; omega
    have HJ := hide hj
    clear hj
    by_cases hlt : 0 < j
    · have c1 := once_any p a len cap _ HD.out.ck.1 3 (by omega) (by omega)
      have hj1 : j ≤ 1000 := by have := HJ.out; omega
      go_wp2_with fail
      refine c1.mono ?_
      rintro e w2 ⟨b, rfl, hc, hk⟩
      have HD2 := hide (HD.out.step HV.out hc hk)
      clear c1 hc hk HD
      cases b
      · have z3 := HD2.out.z 3 _ rfl
        obtain ⟨z3, f3⟩ := z3
        have HSZ := hide HD2.out.sz
        have HOX := hide HD2.out.own
        have HBX : Hid (Below (q + 1) w2 w2) := Below.refl _ _
        go_wp2_with (refine growL _ rfl _ _ rfl (q + 1) _ L.length L rfl w2 HOX.out HBX.out HSZ.out 0 rfl (Nat.le_trans HL.out (by omega)) ?_)
        intro v' w3 ho3 hb3 _
        obtain ⟨af', cf', rfl⟩ := own_isV ho3
        have g3 := (hb3.cell (p := ⟨q, 3, none⟩) (by show q < q + 1; omega)).trans z3
        have k3 := (hb3.frozen (p := ⟨q, 3, none⟩) (by show q < q + 1; omega)).trans f3
        have el : L.length + 1 = (L ++ [(0 : Int)]).length := by simp
        rw [el] at ho3
        rw [el]
        have HG := hide (HD2.out.grown HV.out hb3 ho3)
        clear z3 f3 HOX HBX HSZ HD2 ho3 hb3
        generalize (L ++ [(0 : Int)]) = L' at *
        go_wp2_with fail
        exact ⟨⟨j - 1, L', af', cf', by congr 1; omega, by have := HJ.out; omega, HG.out⟩, by simp [intOf] <;> omega⟩
      · have hd := fun w' h => from_any p a len cap w' h (-9) 60 (by omega) (by omega) (by omega)
        obtain ⟨z8, f8⟩ := HD2.out.z 3 _ rfl
        have HCd : Hid (Cur p a len cap w2.drew) := HD2.out.ck.1.drewN 1
        have HLn : Hid (L.length ≤ 1000) := HL
        go_upto_region 6 with fail
        go_region_law (first
          | (refine step_append_lies _ (by rfl) _ _ _ (by rfl) (q + 1) 2 ti _ 1 8 Tryd.underlying24 HI1.out hi2 hi3 hi4 rfl (by omega) (.slice af L.length cf) L.length (ints L) (by rfl) (HQ10.out.own.alloc _) ⟨w10.heap.size, 0, none⟩ 1 1 [.int .i64 y] (by rfl) (by rfl) (World.news_of_block (cs := #[.int .i64 y]) (t := 2) (fr := (0, 0)) (heap_alloc_new w10 _)) (by simp [Value.oneCell']) (by omega) (by have := HLn.out; unfold maxLen; omega) (by have := HLn.out; omega) (by have := HQ10.out.sz; simp; omega) (w10.heap.size + 1) (by simp) ?_; intro gg cap1 w11 hown1 hgrow hat hlt1; have hb11 : Below (q + 1) w10 w11 := ((Below.refl _ _).alloc HQ10.out.sz _).trans ((Below.refl _ _).grown hgrow (by have := HQ10.out.sz; simp; omega) (fun q' hq' => (HQ10.out.own.lt q' hq').1)); have z11 := (hb11.cell (p := ⟨q, 3, none⟩) (by show q < q + 1; omega)).trans z10; have f11 := (hb11.frozen (p := ⟨q, 3, none⟩) (by show q < q + 1; omega)).trans f10)
          | (go_wp2_with fail; (with_reducible refine (hd _ HCd.out).mono ?_); rintro e w10 ⟨y, rfl, hy0, hy1, hc10, hk10⟩; have hk := ((Kept.refl p w2).drew).trans hk10; have HQ10 := hide (HD2.out.step HV.out hc10 hk); obtain ⟨z10, f10⟩ := HQ10.out.z 3 _ rfl; have hq10 : q < w10.heap.size := HQ10.out.sz; clear hc10 hk10 hk))
        all_goals
          have el : L.length + 1 = (L ++ [y]).length := by simp
          have ho11 : w11.ownsRow (q + 1) 2 1 (.slice (some ⟨gg, 0, none⟩) (L ++ [y]).length cap1) (L ++ [y]).length (ints (L ++ [y])) := by rw [ints_append, ← el]; exact hown1
          have HG := hide (HQ10.out.grown HV.out hb11 ho11)
          rw [← el] at HG
          have HL9 : Hid ((L ++ [y]).length + (j - 1) = m) := by have := HJ.out; show _ = _; rw [← el]; omega
          clear hown1 hgrow hat hlt1 hb11 z11 f11 ho11 hd HCd HQ10 z10 f10 HD2 z8 f8 el
          go_wp2_with fail
          exact ⟨⟨j - 1, L ++ [y], some ⟨gg, 0, none⟩, cap1, by congr 1; omega, HL9.out, HG.out⟩, by simp [intOf] <;> omega⟩
    · obtain rfl : j = 0 := by omega
      obtain ⟨z0, f0⟩ := HD.out.z 0 _ rfl
      obtain ⟨z1, f1⟩ := HD.out.z 1 _ rfl
      obtain ⟨z2, f2⟩ := HD.out.z 2 _ rfl
      obtain ⟨z3, f3⟩ := HD.out.z 3 _ rfl
      obtain ⟨g0, d0⟩ := HD.out.res 0 _ rfl
      obtain ⟨g1, d1⟩ := HD.out.res 1 _ rfl
      obtain ⟨g2, d2⟩ := HD.out.res 2 _ rfl
      obtain ⟨g3, d3⟩ := HD.out.res 3 _ rfl
      go_wp2_with fail
      exact bodyPost_ret (v := vVolume n n n af L.length cf) (by simp [results, Tryd.results45, go_sem, g0, g1, g2, g3]) rfl (HD.out.out HV.out HL.out)

end Go.Proofs.YtkgkdhocmglklaaDoor

namespace Go.Proofs.YtkgkdhocmglklaaDoor
open Go.RowKit

theorem VD.setNum {p : Nat} {a : Option Addr} {len cap : Nat} {w : World} {R q : Nat} {X Y Z : Int} {L : List Int} {af : Option Addr} {cf : Nat} {wr : World} (h : VD p a len cap w R q X Y Z L af cf wr) (hv : VC p a len w R q) (k : Nat) (hk : k < 4) (v : Value) {X' Y' Z' : Int} (e : [.int .i64 X, .int .i64 Y, .int .i64 Z, .slice af L.length cf].set k v = [.int .i64 X', .int .i64 Y', .int .i64 Z', .slice af L.length cf]) :
    VD p a len cap w R q X' Y' Z' L af cf (wr.setCell ⟨q, k, none⟩ v) := by
  have h1 := hv.hp; have h2 := hv.hr; have h3 := hv.hq
  refine ⟨?_, owns_farC h.own (by omega) _, h.res.farC (by omega) _, h.ck.set h1 hv.hab (q := ⟨q, k, none⟩) (by show w.heap.size ≤ q; omega) _, by simpa using h.sz⟩
  rw [← e]
  exact h.z.setIn (by simpa using hk) v
theorem VD.below {p : Nat} {a : Option Addr} {len cap : Nat} {w : World} {R q : Nat} {X Y Z : Int} {L : List Int} {af : Option Addr} {cf : Nat} {wr w' : World} (h : VD p a len cap w R q X Y Z L af cf wr) (hv : VC p a len w R q) (hb : Below wr.heap.size wr w') : VD p a len cap w R q X Y Z L af cf w' :=
  h.step hv (h.ck.1.below hb) (Kept.of_below hb)

theorem own_setG {w : World} {B n b cap m : Nat} {e : TypeId} {L : List Int} (h : w.ownsRow B e m (.slice (some ⟨b, 0, none⟩) n cap) n (ints L)) (k : Nat) (z : Int) :
    (w.setCell ⟨b, k, none⟩ (.int .i64 z)).ownsRow B e m (.slice (some ⟨b, 0, none⟩) n cap) n (ints (L.set k z)) := by
  obtain ⟨h1, h2⟩ := h
  refine ⟨by rw [ints_length] at h1 ⊢; rw [List.length_set]; exact h1, ?_⟩
  rcases h2 with ⟨hv, _⟩ | ⟨b', cap', cur, hv, hB, hh, hn, hc, hs, ht⟩
  · cases hv
  · cases hv
    refine .inr ⟨b, cap, cur.setIfInBounds k (.int .i64 z), rfl, hB, ?_, hn, hc, by rw [Array.size_setIfInBounds]; exact hs, ?_⟩
    · rw [heap_setCell_same w b k cur e _ hh]
    · rw [Array.toList_setIfInBounds, List.take_set, ht]
      unfold ints
      rw [List.map_set]

/-- a number of the list is written -/
theorem VD.setList {p : Nat} {a : Option Addr} {len cap : Nat} {w : World} {R q : Nat} {X Y Z : Int} {L : List Int} {b cf : Nat} {wr : World} (h : VD p a len cap w R q X Y Z L (some ⟨b, 0, none⟩) cf wr) (hv : VC p a len w R q) (hb : q < b) (k : Nat) (z : Int) :
    VD p a len cap w R q X Y Z (L.set k z) (some ⟨b, 0, none⟩) cf (wr.setCell ⟨b, k, none⟩ (.int .i64 z)) := by
  have h1 := hv.hp; have h2 := hv.hr; have h3 := hv.hq
  have el : (L.set k z).length = L.length := List.length_set
  refine ⟨?_, ?_, h.res.farC (by omega) _, h.ck.set h1 hv.hab (q := ⟨b, k, none⟩) (by show w.heap.size ≤ b; omega) _, by simpa using h.sz⟩
  · rw [el]; exact h.z.farC (by omega) _
  · rw [el]; exact own_setG h.own k z
/-- what each operation leaves, where one number of the list is written -/
def dvF (p q bl m cf : Nat) (j : Nat) (u : Nat → Value) (w : World) : Prop :=
  match j with
  | 0 => u 0 = .pointer (some ⟨q, 3, none⟩)
  | 1 => u 1 = .slice (some ⟨bl, 0, none⟩) m cf
  | 2 => u 2 = .pointer (some ⟨p, 0, none⟩)
  | 3 => u 3 = .pointer (some ⟨q, 3, none⟩)
  | 4 => u 4 = .slice (some ⟨bl, 0, none⟩) m cf
  | 5 => u 5 = .int .i64 (m : Int)
  | 6 => ∃ k : Nat, k < m ∧ u 6 = .int .i64 (k : Int)
  | 7 => ∃ t, u 7 = .slice (some ⟨t, 0, none⟩) 4 4 ∧ t ≠ bl ∧ t ≠ p ∧ ∀ Y, Y < 4 → ∃ z, w.cell? ⟨t, Y, none⟩ = some (.int .i64 z)
  | 8 => u 8 = .pointer (some ⟨p, 0, none⟩)
  | 9 => ∃ Y : Nat, Y < 4 ∧ u 9 = .int .i64 (Y : Int)
  | 10 => ∃ t Y, u 10 = .pointer (some ⟨t, Y, none⟩) ∧ t ≠ bl ∧ t ≠ p ∧ ∃ z, w.cell? ⟨t, Y, none⟩ = some (.int .i64 z)
  | 11 => ∃ z, u 11 = .int .i64 z
  | 12 => ∃ k : Nat, k < m ∧ u 12 = .pointer (some ⟨bl, k, none⟩)
  | _ => True
theorem dvF_stab {p q bl m cf : Nat} {w w' : World} (u : Nat → Value) (i : Nat) (v : Value) (j : Nat) (hj : j ≠ i) (kc : ∀ t Y (z : Int), t ≠ bl → t ≠ p → w.cell? ⟨t, Y, none⟩ = some (.int .i64 z) → w'.cell? ⟨t, Y, none⟩ = some (.int .i64 z)) (h : dvF p q bl m cf j u w) : dvF p q bl m cf j (upU u i v) w' := by
  have up : upU u i v j = u j := upU_other u v hj
  match j, up, h with
  | 0, up, h => exact up.trans h
  | 1, up, h => exact up.trans h
  | 2, up, h => exact up.trans h
  | 3, up, h => exact up.trans h
  | 4, up, h => exact up.trans h
  | 5, up, h => exact up.trans h
  | 6, up, h => obtain ⟨k, hk, e⟩ := h; exact ⟨k, hk, up.trans e⟩
  | 7, up, h => obtain ⟨t, e, h1, h2, h3⟩ := h; exact ⟨t, up.trans e, h1, h2, fun Y hY => by obtain ⟨z, hz⟩ := h3 Y hY; exact ⟨z, kc t Y z h1 h2 hz⟩⟩
  | 8, up, h => exact up.trans h
  | 9, up, h => obtain ⟨k, hk, e⟩ := h; exact ⟨k, hk, up.trans e⟩
  | 10, up, h => obtain ⟨t, Y, e, h1, h2, z, hz⟩ := h; exact ⟨t, Y, up.trans e, h1, h2, z, kc t Y z h1 h2 hz⟩
  | 11, up, h => obtain ⟨z, e⟩ := h; exact ⟨z, up.trans e⟩
  | 12, up, h => obtain ⟨k, hk, e⟩ := h; exact ⟨k, hk, up.trans e⟩
  | _ + 13, _, _ => trivial

set_option maxRecDepth 100000 in
set_option maxHeartbeats 4000000 in
theorem l7DrawVolume_any (p : Nat) (a : Option Addr) (len cap : Nat) (w : World) (h : Cur p a len cap w) (hp : p < w.heap.size) (hab : len = 0 ∨ ∀ b off, a = some ⟨b, off, none⟩ → b < w.heap.size) :
    Calls Tryd.prog 46 #[.pointer (some ⟨p, 0, none⟩), .int .i64 3, .int .i64 0, .int .i64 9] w (DrV p a len cap w) := by
  have hb0 := bnew w (.cells #[.int .i64 0, .int .i64 0, .int .i64 0, .slice none 0 0] 26)
  have HR0 : Hid (Bx w.heap.size [.int .i64 0, .int .i64 0, .int .i64 0, .slice none 0 0] (w.alloc (.cells #[.int .i64 0, .int .i64 0, .int .i64 0, .slice none 0 0] 26))) := Bx.new [.int .i64 0, .int .i64 0, .int .i64 0, .slice none 0 0] 26 w
  have HCK0 : Hid (CK p a len cap w (w.alloc (.cells #[.int .i64 0, .int .i64 0, .int .i64 0, .slice none 0 0] 26))) := ⟨h.below hb0, Kept.of_below hb0⟩
  have HZ0 : Hid (w.heap.size < (w.alloc (.cells #[.int .i64 0, .int .i64 0, .int .i64 0, .slice none 0 0] 26)).heap.size) := by show _ < _; simp
  have HAB := hide hab
  have hne : w.heap.size ≠ p := by omega
  clear h hab hb0
  go_enter Tryd.func46, Tryd.ntmps46
  go_upto_region 1 with fail
  generalize hw1 : w.alloc (.cells #[.int .i64 0, .int .i64 0, .int .i64 0, .slice none 0 0] 26) = w1 at *
  clear hw1
  have c1 := below_any p a len cap _ HCK0.out.1 3 (by omega) (by omega)
  go_wp2_with fail
  refine c1.mono ?_
  rintro e w2 ⟨x, rfl, x0, x1, hc, hk⟩
  obtain ⟨X, hX⟩ : ∃ X : Nat, (X : Int) = 1 + x := ⟨(1 + x).toNat, by omega⟩
  have u1 : IntKind.i64.wrap (1 + x) = (X : Int) := by rw [IntKind.wrap_i64]; omega
  have HHX : Hid (1 ≤ X ∧ X ≤ 3) := by show _ ∧ _; omega
  clear hX x0 x1
  have HR2 := hide (HR0.out.kept hk hne)
  have HCK2 : Hid (CK p a len cap w w2) := ⟨hc, HCK0.out.2.trans hk⟩
  have HZ2 := hide (Nat.lt_of_lt_of_le HZ0.out hk.size)
  clear c1 hc hk HR0 HCK0 HZ0
  have c1 := below_any p a len cap _ HCK2.out.1 3 (by omega) (by omega)
  go_wp2_with fail
  refine c1.mono ?_
  rintro e w3 ⟨y, rfl, y0, y1, hc, hk⟩
  obtain ⟨Y, hY⟩ : ∃ Y : Nat, (Y : Int) = 1 + y := ⟨(1 + y).toNat, by omega⟩
  have u2 : IntKind.i64.wrap (1 + y) = (Y : Int) := by rw [IntKind.wrap_i64]; omega
  have HHY : Hid (1 ≤ Y ∧ Y ≤ 3) := by show _ ∧ _; omega
  clear hY y0 y1
  have HR3 := hide (HR2.out.kept hk hne)
  have HCK3 : Hid (CK p a len cap w w3) := ⟨hc, HCK2.out.2.trans hk⟩
  have HZ3 := hide (Nat.lt_of_lt_of_le HZ2.out hk.size)
  clear c1 hc hk HR2 HCK2 HZ2
  have c1 := below_any p a len cap _ HCK3.out.1 3 (by omega) (by omega)
  go_wp2_with fail
  refine c1.mono ?_
  rintro e w4 ⟨z, rfl, z0, z1, hc, hk⟩
  obtain ⟨Z, hZ⟩ : ∃ Z : Nat, (Z : Int) = 1 + z := ⟨(1 + z).toNat, by omega⟩
  have u3 : IntKind.i64.wrap (1 + z) = (Z : Int) := by rw [IntKind.wrap_i64]; omega
  have HHZ : Hid (1 ≤ Z ∧ Z ≤ 3) := by show _ ∧ _; omega
  clear hZ z0 z1
  have HR4 := hide (HR3.out.kept hk hne)
  have HCK4 : Hid (CK p a len cap w w4) := ⟨hc, HCK3.out.2.trans hk⟩
  have HZ4 := hide (Nat.lt_of_lt_of_le HZ3.out hk.size)
  clear c1 hc hk HR3 HCK3 HZ3
  obtain ⟨m, hm⟩ : ∃ m : Nat, m = X * Y * Z := ⟨_, rfl⟩
  have hXY : 1 * 1 ≤ X * Y ∧ X * Y ≤ 3 * 3 := ⟨Nat.mul_le_mul HHX.out.1 HHY.out.1, Nat.mul_le_mul HHX.out.2 HHY.out.2⟩
  have hm1 : 1 * 1 * 1 ≤ m ∧ m ≤ 3 * 3 * 3 := by rw [hm]; exact ⟨Nat.mul_le_mul hXY.1 HHZ.out.1, Nat.mul_le_mul hXY.2 HHZ.out.2⟩
  have e1 : IntKind.i64.wrap ((X : Int) * Y) = (X : Int) * Y := by
    rw [show (X : Int) * Y = ((X * Y : Nat) : Int) by simp, IntKind.wrap_i64]; omega
  have e2 : IntKind.i64.wrap ((X : Int) * Y * Z) = (m : Int) := by
    rw [show (X : Int) * Y * Z = ((X * Y * Z : Nat) : Int) by simp, ← hm, IntKind.wrap_i64]; omega
  have hm2 : 1 ≤ m ∧ m ≤ 27 := by omega
  clear hm hXY hm1
  go_upto_region 2 with fail
  have hb5 := bnew w4 (.cells #[.int .i64 X, .int .i64 Y, .int .i64 Z, .slice none 0 0] 26)
  have HV : Hid (VC p a len w w.heap.size w4.heap.size) := ⟨hp, HAB.out, Nat.le_refl _, HZ4.out⟩
  have HD : Hid (VD p a len cap w w.heap.size w4.heap.size X Y Z [] none 0 (w4.alloc (.cells #[.int .i64 X, .int .i64 Y, .int .i64 Z, .slice none 0 0] 26))) :=
    ⟨Bx.new [.int .i64 X, .int .i64 Y, .int .i64 Z, .slice none 0 0] 26 w4, ⟨rfl, .inl ⟨rfl, rfl⟩⟩, HR4.out.below hb5 HZ4.out, ⟨HCK4.out.1.below hb5, HCK4.out.2.trans (Kept.of_below hb5)⟩, by simp⟩
  clear hb5 HR4 HCK4 HZ4 u1 u2 u3
  generalize hw5 : w4.alloc (.cells #[.int .i64 X, .int .i64 Y, .int .i64 Z, .slice none 0 0] 26) = w5 at *
  clear hw5
  generalize w4.heap.size = q at *
  obtain ⟨z0, f0⟩ := HD.out.z 0 _ rfl
  obtain ⟨z1, f1⟩ := HD.out.z 1 _ rfl
  obtain ⟨z2, f2⟩ := HD.out.z 2 _ rfl
  go_wp2_with fail
  clear e1 e2 z0 f0 z1 f1 z2 f2
  obtain ⟨ti, hi1, hi2, hi3, hi4⟩ := info2
  have HI1 := hide hi1
  clear hi1
  go_loopw [10] (fun i wr => ∃ (j : Nat) (L : List Int) (af : Option Addr) (cf : Nat), i = .int .i64 j ∧ L.length + j = m ∧ VD p a len cap w w.heap.size q X Y Z L af cf wr) (fun i _ => (intOf i).toNat)
  case atStart => exact ⟨m, [], none, 0, rfl, by simp, HD.out⟩
  case round =>
    obtain ⟨j, L, af, cf, rfl, hj, hd⟩ := hrel
    clear HD
    have HD2 := hide hd
    clear hd
    have HLn : Hid (L.length ≤ 27) := by show _ ≤ _; omega
    have HJ := hide hj
    have HM2 := hide hm2
    clear hj hm2
    by_cases hlt : 0 < j
    · have hj1 : j ≤ 1000 := by have := HJ.out; have := HM2.out; omega
      have hd := fun w' h => from_any p a len cap w' h 0 9 (by omega) (by omega) (by omega)
      obtain ⟨z8, f8⟩ := HD2.out.z 3 _ rfl
      have HCd : Hid (Cur p a len cap wr.drew) := HD2.out.ck.1.drewN 1
      go_upto_region 5 with fail
      go_region_law (first
        | (refine step_append_lies _ (by rfl) _ _ _ (by rfl) (q + 1) 2 ti _ 1 8 Tryd.underlying24 HI1.out hi2 hi3 hi4 rfl (by omega) (.slice af L.length cf) L.length (ints L) (by rfl) (HQ10.out.own.alloc _) ⟨w10.heap.size, 0, none⟩ 1 1 [.int .i64 y9] (by rfl) (by rfl) (World.news_of_block (cs := #[.int .i64 y9]) (t := 2) (fr := (0, 0)) (heap_alloc_new w10 _)) (by simp [Value.oneCell']) (by omega) (by have := HLn.out; unfold maxLen; omega) (by have := HLn.out; omega) (by have := HQ10.out.sz; simp; omega) (w10.heap.size + 1) (by simp) ?_; intro gg cap1 w11 hown1 hgrow hat hlt1; have hb11 : Below (q + 1) w10 w11 := ((Below.refl _ _).alloc HQ10.out.sz _).trans ((Below.refl _ _).grown hgrow (by have := HQ10.out.sz; simp; omega) (fun q' hq' => (HQ10.out.own.lt q' hq').1)); have z11 := (hb11.cell (p := ⟨q, 3, none⟩) (by show q < q + 1; omega)).trans z10; have f11 := (hb11.frozen (p := ⟨q, 3, none⟩) (by show q < q + 1; omega)).trans f10)
        | (go_wp2_with fail; (with_reducible refine (hd _ HCd.out).mono ?_); rintro e w10 ⟨y9, rfl, hy0, hy1, hc10, hk10⟩; have hk := ((Kept.refl p wr).drew).trans hk10; have HQ10 := hide (HD2.out.step HV.out hc10 hk); obtain ⟨z10, f10⟩ := HQ10.out.z 3 _ rfl; have hq10 : q < w10.heap.size := HQ10.out.sz; clear hc10 hk10 hk))
      all_goals
        have el : L.length + 1 = (L ++ [y9]).length := by simp
        have ho11 : w11.ownsRow (q + 1) 2 1 (.slice (some ⟨gg, 0, none⟩) (L ++ [y9]).length cap1) (L ++ [y9]).length (ints (L ++ [y9])) := by rw [ints_append, ← el]; exact hown1
        have HG := hide (HQ10.out.grown HV.out hb11 ho11)
        rw [← el] at HG
        have HL9 : Hid ((L ++ [y9]).length + (j - 1) = m) := by have := HJ.out; show _ = _; rw [← el]; omega
        clear hown1 hgrow hat hlt1 hb11 z11 f11 ho11 hd HCd HQ10 z10 f10 HD2 z8 f8 el
        go_wp2_with fail
        exact ⟨⟨j - 1, L ++ [y9], some ⟨gg, 0, none⟩, cap1, by congr 1; omega, HL9.out, HG.out⟩, by simp [intOf] <;> omega⟩
    · obtain rfl : j = 0 := by omega
      have HLm : Hid (1 ≤ L.length) := by have := HJ.out; have := HM2.out; show _ ≤ _; omega
      clear HI1 hi2 hi3 hi4 hlt
      have c1 := once_any p a len cap _ HD2.out.ck.1 16 (by omega) (by omega)
      go_upto_if 46 with (first | (refine c1.mono ?_; rintro e w6 ⟨b, rfl, hc6, hk6⟩; have HD6 := hide (HD2.out.step HV.out hc6 hk6); clear hc6 hk6 c1 HD2))
      go_cut [] (fun wc => ∃ (X Y Z : Int) (L : List Int) (af : Option Addr) (cf : Nat), L.length ≤ 1000 ∧ VD p a len cap w w.heap.size q X Y Z L af cf wc)
      case first =>
        cases b
        · go_wp2_with fail
          go_meet
          exact ⟨_, _, _, L, af, cf, Nat.le_trans HLn.out (by omega), HD6.out⟩
        · have c1 := below_any p a len cap _ HD6.out.ck.1 4 (by omega) (by omega)
          go_wp2_with fail
          refine c1.mono ?_
          rintro e w7 ⟨x, rfl, x0, x1, hc, hk⟩
          have HD7 := hide (HD6.out.step HV.out hc hk)
          clear c1 hc hk HD6
          have hx : x = 0 ∨ x = 1 ∨ x = 2 ∨ x = 3 := by omega
          clear x0 x1
          rcases hx with rfl | rfl | rfl | rfl
          · have hb8 := bnew w7 (.cells #[.int .i64 0, .int .i64 (-1), .int .i64 33, .int .i64 1099511627776] 2)
            have HT8 : Hid (Bx w7.heap.size [.int .i64 0, .int .i64 (-1), .int .i64 33, .int .i64 1099511627776] (w7.alloc (.cells #[.int .i64 0, .int .i64 (-1), .int .i64 33, .int .i64 1099511627776] 2))) := Bx.new [.int .i64 0, .int .i64 (-1), .int .i64 33, .int .i64 1099511627776] 2 w7
            have HD8 := hide (HD7.out.below HV.out hb8)
            have c2 := below_any p a len cap _ HD8.out.ck.1 4 (by omega) (by omega)
            clear hb8
            go_wp2_with fail
            refine c2.mono ?_
            rintro e w9 ⟨y, rfl, y0, y1, hc, hk⟩
            obtain ⟨Y9, rfl⟩ : ∃ Y9 : Nat, y = Y9 := ⟨y.toNat, by omega⟩
            have HD9 := hide (HD8.out.step HV.out hc hk)
            have hTp : w7.heap.size ≠ p := by have := HD7.out.sz; have := HV.out.hq; have := HV.out.hr; omega
            have HT9 := hide (HT8.out.kept hk hTp)
            obtain ⟨zz, hz⟩ : ∃ zz : Int, w9.cell? ⟨w7.heap.size, Y9, none⟩ = some (.int .i64 zz) := by
              have hY : Y9 = 0 ∨ Y9 = 1 ∨ Y9 = 2 ∨ Y9 = 3 := by omega
              rcases hY with rfl | rfl | rfl | rfl
              · exact ⟨_, (HT9.out 0 _ rfl).1⟩
              · exact ⟨_, (HT9.out 1 _ rfl).1⟩
              · exact ⟨_, (HT9.out 2 _ rfl).1⟩
              · exact ⟨_, (HT9.out 3 _ rfl).1⟩
            obtain ⟨z0, f0⟩ := HD9.out.z 0 _ rfl
            have hYl : Y9 < 4 := by omega
            clear c2 hc hk HD7 HD8 HT8 HT9 y0 y1
            go_wp2_with fail
            go_meet
            exact ⟨zz, Y, Z, L, af, cf, Nat.le_trans HLn.out (by omega), HD9.out.setNum HV.out 0 (by omega) _ rfl⟩
          · have ho := HD7.out.own
            obtain ⟨bl, cp, hsl, hbl, hrow⟩ := own_row ho (by have := HLm.out; omega)
            cases hsl
            have HD7' := HD7
            clear ho hrow
            have HBL : Hid (q < bl) := hbl
            clear hbl
            go_upto_region 11 with fail
            obtain ⟨m9, hm9⟩ : ∃ m9, m9 = L.length := ⟨_, rfl⟩
            have HM9 := hide hm9
            clear hm9
            refine region_ops (fun w' => ∃ L', L'.length = m9 ∧ VD p a len cap w w.heap.size q X Y Z L' (some ⟨bl, 0, none⟩) cf w') (dvF p q bl m9 cf) (by kernel_rfl) (by kernel_rfl) (by kernel_rfl) ?_ ?_ ?_
            · exact ⟨L, HM9.out.symm, HD7.out.drew⟩
            · refine ⟨?_, ?_, ?_, ?_, ?_, ?_, ?_, ?_, ?_, ?_, ?_, ?_, ?_, ?_, trivial⟩
              · intro u w8 au hau _ hF hp' K hK
                obtain ⟨L', hL', hD⟩ := hF
                have HL' := hide hL'
                clear hL'
                have t9 : au.tmps[9]?.getD undef = .pointer (some ⟨q, 0, none⟩) := by rw [hau.out]; kernel_rfl
                refine step_plain rfl ?_
                go_simp
                exact hK.out (.pointer (some ⟨q, 3, none⟩)) _ ⟨L', HL'.out, hD⟩ (upU_same _ _ _) (fun j hj _ h => dvF_stab u 0 _ j hj (fun _ _ _ _ _ h => h) h)
              · intro u w8 au hau _ hF hp' K hK
                obtain ⟨L', hL', hD⟩ := hF
                have HL' := hide hL'
                clear hL'
                have h0 : u 0 = .pointer (some ⟨q, 3, none⟩) := PreF.get hp' 0 (by kernel_rfl)
                have t59 : au.tmps[59]?.getD undef = u 0 := by rw [hau.out]; kernel_rfl
                rw [h0] at t59
                obtain ⟨z3, f3⟩ := hD.z 3 _ rfl
                rw [HL'.out] at z3
                refine step_plain rfl ?_
                go_simp
                exact hK.out (.slice (some ⟨bl, 0, none⟩) m9 cf) _ ⟨L', HL'.out, hD⟩ (upU_same _ _ _) (fun j hj _ h => dvF_stab u 1 _ j hj (fun _ _ _ _ _ h => h) h)
              · intro u w8 au hau _ hF hp' K hK
                obtain ⟨L', hL', hD⟩ := hF
                have HL' := hide hL'
                clear hL'
                have t0 : au.tmps[0]?.getD undef = .pointer (some ⟨p, 0, none⟩) := by rw [hau.out]; kernel_rfl
                refine step_plain rfl ?_
                go_simp
                exact hK.out (.pointer (some ⟨p, 0, none⟩)) _ ⟨L', HL'.out, hD⟩ (upU_same _ _ _) (fun j hj _ h => dvF_stab u 2 _ j hj (fun _ _ _ _ _ h => h) h)
              · intro u w8 au hau _ hF hp' K hK
                obtain ⟨L', hL', hD⟩ := hF
                have HL' := hide hL'
                clear hL'
                have t9 : au.tmps[9]?.getD undef = .pointer (some ⟨q, 0, none⟩) := by rw [hau.out]; kernel_rfl
                refine step_plain rfl ?_
                go_simp
                exact hK.out (.pointer (some ⟨q, 3, none⟩)) _ ⟨L', HL'.out, hD⟩ (upU_same _ _ _) (fun j hj _ h => dvF_stab u 3 _ j hj (fun _ _ _ _ _ h => h) h)
              · intro u w8 au hau _ hF hp' K hK
                obtain ⟨L', hL', hD⟩ := hF
                have HL' := hide hL'
                clear hL'
                have h0 : u 3 = .pointer (some ⟨q, 3, none⟩) := PreF.get hp' 3 (by kernel_rfl)
                have t62 : au.tmps[62]?.getD undef = u 3 := by rw [hau.out]; kernel_rfl
                rw [h0] at t62
                obtain ⟨z3, f3⟩ := hD.z 3 _ rfl
                rw [HL'.out] at z3
                refine step_plain rfl ?_
                go_simp
                exact hK.out (.slice (some ⟨bl, 0, none⟩) m9 cf) _ ⟨L', HL'.out, hD⟩ (upU_same _ _ _) (fun j hj _ h => dvF_stab u 4 _ j hj (fun _ _ _ _ _ h => h) h)
              · intro u w8 au hau _ hF hp' K hK
                obtain ⟨L', hL', hD⟩ := hF
                have HL' := hide hL'
                clear hL'
                have h0 : u 4 = .slice (some ⟨bl, 0, none⟩) m9 cf := PreF.get hp' 4 (by kernel_rfl)
                have t63 : au.tmps[63]?.getD undef = u 4 := by rw [hau.out]; kernel_rfl
                rw [h0] at t63
                refine step_plain rfl ?_
                go_simp
                exact hK.out (.int .i64 (m9 : Int)) _ ⟨L', HL'.out, hD⟩ (upU_same _ _ _) (fun j hj _ h => dvF_stab u 5 _ j hj (fun _ _ _ _ _ h => h) h)
              · intro u w8 au hau _ hF hp' K hK
                obtain ⟨L', hL', hD⟩ := hF
                have HL' := hide hL'
                clear hL'
                have h0 : u 2 = .pointer (some ⟨p, 0, none⟩) := PreF.get hp' 2 (by kernel_rfl)
                have t61 : au.tmps[61]?.getD undef = u 2 := by rw [hau.out]; kernel_rfl
                rw [h0] at t61
                have h1 : u 5 = .int .i64 (m9 : Int) := PreF.get hp' 5 (by kernel_rfl)
                have t64 : au.tmps[64]?.getD undef = u 5 := by rw [hau.out]; kernel_rfl
                rw [h1] at t64
                have c := below_any p a len cap w8 hD.ck.1 (m9 : Int) (by have := HLm.out; have := HM9.out; omega) (by have := HLn.out; have := HM9.out; omega)
                refine step_plain rfl ?_
                go_simp
                refine c.mono ?_
                rintro e w9 ⟨x9, rfl, x90, x91, hc, hk⟩
                exact hK.out (.int .i64 x9) _ ⟨L', HL'.out, hD.step HV.out hc hk⟩ ⟨x9.toNat, by omega, (upU_same _ _ _).trans (by rw [show ((x9.toNat : Nat) : Int) = x9 by omega])⟩ (fun j hj _ h => dvF_stab u 6 _ j hj (fun t Y9 z9 _ ht h => hk.cell (a := ⟨t, Y9, none⟩) ht h) h)
              · intro u w8 au hau _ hF hp' K hK
                obtain ⟨L', hL', hD⟩ := hF
                have HL' := hide hL'
                clear hL'
                have hb := bnew w8 (.cells #[.int .i64 4095, .int .i64 4096, .int .i64 (-4095), .int .i64 (-4096)] 2)
                have HT : Hid (Bx w8.heap.size [.int .i64 4095, .int .i64 4096, .int .i64 (-4095), .int .i64 (-4096)] (w8.alloc (.cells #[.int .i64 4095, .int .i64 4096, .int .i64 (-4095), .int .i64 (-4096)] 2))) := Bx.new [.int .i64 4095, .int .i64 4096, .int .i64 (-4095), .int .i64 (-4096)] 2 w8
                have hlt := (hD.own.lt bl rfl).2
                have hpz := hD.sz
                have hv1 := HV.out.hp
                have hv2 := HV.out.hr
                have hv3 := HV.out.hq
                have HN : Hid (w8.heap.size ≠ bl ∧ w8.heap.size ≠ p) := ⟨by omega, by omega⟩
                clear hlt hpz hv1 hv2 hv3
                refine step_plain rfl ?_
                go_simp
                exact hK.out (.slice (some ⟨w8.heap.size, 0, none⟩) 4 4) _ ⟨L', HL'.out, hD.below HV.out hb⟩ ⟨_, upU_same _ _ _, HN.out.1, HN.out.2, fun Y9 hY => by
                  have hY' : Y9 = 0 ∨ Y9 = 1 ∨ Y9 = 2 ∨ Y9 = 3 := by omega
                  rcases hY' with rfl | rfl | rfl | rfl
                  · exact ⟨_, (HT.out 0 _ rfl).1⟩
                  · exact ⟨_, (HT.out 1 _ rfl).1⟩
                  · exact ⟨_, (HT.out 2 _ rfl).1⟩
                  · exact ⟨_, (HT.out 3 _ rfl).1⟩⟩ (fun j hj _ h => dvF_stab u 7 _ j hj (fun t Y9 z9 _ _ h => (hb.cell (p := ⟨t, Y9, none⟩) (World.block_lt_of_cell? w8 _ h)).trans h) h)
              · intro u w8 au hau _ hF hp' K hK
                obtain ⟨L', hL', hD⟩ := hF
                have HL' := hide hL'
                clear hL'
                have t0 : au.tmps[0]?.getD undef = .pointer (some ⟨p, 0, none⟩) := by rw [hau.out]; kernel_rfl
                refine step_plain rfl ?_
                go_simp
                exact hK.out (.pointer (some ⟨p, 0, none⟩)) _ ⟨L', HL'.out, hD⟩ (upU_same _ _ _) (fun j hj _ h => dvF_stab u 8 _ j hj (fun _ _ _ _ _ h => h) h)
              · intro u w8 au hau _ hF hp' K hK
                obtain ⟨L', hL', hD⟩ := hF
                have HL' := hide hL'
                clear hL'
                have h0 : u 8 = .pointer (some ⟨p, 0, none⟩) := PreF.get hp' 8 (by kernel_rfl)
                have t67 : au.tmps[67]?.getD undef = u 8 := by rw [hau.out]; kernel_rfl
                rw [h0] at t67
                have c := below_any p a len cap w8 hD.ck.1 4 (by omega) (by omega)
                refine step_plain rfl ?_
                go_simp
                refine c.mono ?_
                rintro e w9 ⟨x9, rfl, x90, x91, hc, hk⟩
                exact hK.out (.int .i64 x9) _ ⟨L', HL'.out, hD.step HV.out hc hk⟩ ⟨x9.toNat, by omega, (upU_same _ _ _).trans (by rw [show ((x9.toNat : Nat) : Int) = x9 by omega])⟩ (fun j hj _ h => dvF_stab u 9 _ j hj (fun t Y9 z9 _ ht h => hk.cell (a := ⟨t, Y9, none⟩) ht h) h)
              · intro u w8 au hau _ hF hp' K hK
                obtain ⟨L', hL', hD⟩ := hF
                have HL' := hide hL'
                clear hL'
                obtain ⟨t9, h7, n1, n2, hz⟩ : dvF p q bl m9 cf 7 u w8 := PreF.get hp' 7 (by kernel_rfl)
                obtain ⟨Y9, hY9, h9⟩ : dvF p q bl m9 cf 9 u w8 := PreF.get hp' 9 (by kernel_rfl)
                have t66 : au.tmps[66]?.getD undef = u 7 := by rw [hau.out]; kernel_rfl
                rw [h7] at t66
                have t68 : au.tmps[68]?.getD undef = u 9 := by rw [hau.out]; kernel_rfl
                rw [h9] at t68
                have HZ := hide (hz Y9 hY9)
                have hYi : (Y9 : Int) < 4 := by omega
                clear hz
                refine step_plain rfl ?_
                go_simp
                exact hK.out (.pointer (some ⟨t9, Y9, none⟩)) _ ⟨L', HL'.out, hD⟩ ⟨t9, Y9, upU_same _ _ _, n1, n2, HZ.out⟩ (fun j hj _ h => dvF_stab u 10 _ j hj (fun _ _ _ _ _ h => h) h)
              · intro u w8 au hau _ hF hp' K hK
                obtain ⟨L', hL', hD⟩ := hF
                have HL' := hide hL'
                clear hL'
                obtain ⟨t9, Y9, h10, n1, n2, z9, hz⟩ : dvF p q bl m9 cf 10 u w8 := PreF.get hp' 10 (by kernel_rfl)
                have t69 : au.tmps[69]?.getD undef = u 10 := by rw [hau.out]; kernel_rfl
                rw [h10] at t69
                refine step_plain rfl ?_
                go_simp
                exact hK.out (.int .i64 z9) _ ⟨L', HL'.out, hD⟩ ⟨z9, upU_same _ _ _⟩ (fun j hj _ h => dvF_stab u 11 _ j hj (fun _ _ _ _ _ h => h) h)
              · intro u w8 au hau _ hF hp' K hK
                obtain ⟨L', hL', hD⟩ := hF
                have HL' := hide hL'
                clear hL'
                have h1 : u 1 = .slice (some ⟨bl, 0, none⟩) m9 cf := PreF.get hp' 1 (by kernel_rfl)
                obtain ⟨k9, hk9, h6⟩ : dvF p q bl m9 cf 6 u w8 := PreF.get hp' 6 (by kernel_rfl)
                have t60 : au.tmps[60]?.getD undef = u 1 := by rw [hau.out]; kernel_rfl
                rw [h1] at t60
                have t65 : au.tmps[65]?.getD undef = u 6 := by rw [hau.out]; kernel_rfl
                rw [h6] at t65
                refine step_plain rfl ?_
                go_simp
                exact hK.out (.pointer (some ⟨bl, k9, none⟩)) _ ⟨L', HL'.out, hD⟩ ⟨k9, hk9, upU_same _ _ _⟩ (fun j hj _ h => dvF_stab u 12 _ j hj (fun _ _ _ _ _ h => h) h)
              · intro u w8 au hau _ hF hp' K hK
                obtain ⟨L', hL', hD⟩ := hF
                have HL' := hide hL'
                clear hL'
                obtain ⟨k9, hk9, h12⟩ : dvF p q bl m9 cf 12 u w8 := PreF.get hp' 12 (by kernel_rfl)
                obtain ⟨z9, h11⟩ : dvF p q bl m9 cf 11 u w8 := PreF.get hp' 11 (by kernel_rfl)
                have t71 : au.tmps[71]?.getD undef = u 12 := by rw [hau.out]; kernel_rfl
                rw [h12] at t71
                have t70 : au.tmps[70]?.getD undef = u 11 := by rw [hau.out]; kernel_rfl
                rw [h11] at t70
                obtain ⟨b8, cp8, hsl, -, hrow⟩ := own_row hD.own (by have := HLm.out; have := HM9.out; have := HL'.out; omega)
                cases hsl
                obtain ⟨r1, r2⟩ := hrow k9 (by have := HL'.out; omega)
                clear hrow
                refine step_plain rfl ?_
                go_simp
                exact hK.out undef _ ⟨L'.set k9 z9, by rw [List.length_set]; exact HL'.out, hD.setList HV.out HBL.out k9 z9⟩ trivial (fun j hj _ h => dvF_stab u 13 _ j hj (fun t Y9 zz ht _ h => by rw [World.cell?_setCell_other _ _ _ _ (by intro e; exact ht (congrArg Addr.block e).symm)]; exact h) h)
            · intro u w8 hF hall
              obtain ⟨L', hL', hD⟩ := hF
              have HE := hide hD
              have HLE : Hid (L'.length ≤ 1000) := by have := HLn.out; have := HM9.out; show _ ≤ _; omega
              clear hall hD hL'
              simp only [rgPut, Act.put]
              go_simp
              go_wp2_with fail
              go_meet
              exact ⟨_, _, _, L', _, cf, HLE.out, HE.out⟩
          · obtain ⟨z3, f3⟩ := HD7.out.z 3 _ rfl
            have HSZ := hide HD7.out.sz
            have HOX := hide HD7.out.own
            have HBX : Hid (Below (q + 1) w7 w7) := Below.refl _ _
            go_wp2_with (refine growL _ rfl _ _ rfl (q + 1) _ L.length L rfl w7 HOX.out HBX.out HSZ.out 0 rfl (Nat.le_trans HLn.out (by omega)) ?_)
            intro v' w8 ho3 hb3 _
            obtain ⟨af', cf', rfl⟩ := own_isV ho3
            have g3 := (hb3.cell (p := ⟨q, 3, none⟩) (by show q < q + 1; omega)).trans z3
            have k3 := (hb3.frozen (p := ⟨q, 3, none⟩) (by show q < q + 1; omega)).trans f3
            have el : L.length + 1 = (L ++ [(0 : Int)]).length := by simp
            rw [el] at ho3
            have HLE : Hid ((L ++ [(0 : Int)]).length ≤ 1000) := by have := HLn.out; show _ ≤ _; rw [← el]; omega
            rw [el]
            have HG := hide (HD7.out.grown HV.out hb3 ho3)
            clear z3 f3 HOX HBX HSZ HD7 ho3 hb3
            generalize (L ++ [(0 : Int)]) = L' at *
            go_wp2_with fail
            go_meet
            exact ⟨_, _, _, L', af', cf', HLE.out, HG.out⟩
          · obtain ⟨z2, f2⟩ := HD7.out.z 2 _ rfl
            go_wp2_with fail
            go_meet
            exact ⟨_, _, _, L, af, cf, Nat.le_trans HLn.out (by omega), HD7.out.setNum HV.out 2 (by omega) _ rfl⟩
      case rest =>
        obtain ⟨X, Y, Z, L, af, cf, hL, hd⟩ := hcut
        have HD := hide hd
        clear hd HD6
        obtain ⟨z0, f0⟩ := HD.out.z 0 _ rfl
        obtain ⟨z1, f1⟩ := HD.out.z 1 _ rfl
        obtain ⟨z2, f2⟩ := HD.out.z 2 _ rfl
        obtain ⟨z3, f3⟩ := HD.out.z 3 _ rfl
        obtain ⟨g0, d0⟩ := HD.out.res 0 _ rfl
        obtain ⟨g1, d1⟩ := HD.out.res 1 _ rfl
        obtain ⟨g2, d2⟩ := HD.out.res 2 _ rfl
        obtain ⟨g3, d3⟩ := HD.out.res 3 _ rfl
        go_wp2_with fail
        exact bodyPost_ret (v := vVolume X Y Z af L.length cf) (by simp [results, Tryd.results46, go_sem, g0, g1, g2, g3]) rfl (HD.out.out HV.out hL)

end Go.Proofs.YtkgkdhocmglklaaDoor

namespace Go.Proofs.YtkgkdhocmglklaaDoor
open Go.RowKit

set_option maxRecDepth 100000 in
set_option maxHeartbeats 4000000 in
theorem l10DrawAnyCube_any (p : Nat) (a : Option Addr) (len cap : Nat) (w : World) (h : Cur p a len cap w) (hp : p < w.heap.size) (hab : len = 0 ∨ ∀ b off, a = some ⟨b, off, none⟩ → b < w.heap.size) :
    Calls Tryd.prog 18 #[.pointer (some ⟨p, 0, none⟩)] w (DrV p a len cap w) := by
  have hb0 := bnew w (.cells #[.int .i64 0, .int .i64 0, .int .i64 0, .slice none 0 0] 26)
  have HR0 : Hid (Bx w.heap.size [.int .i64 0, .int .i64 0, .int .i64 0, .slice none 0 0] (w.alloc (.cells #[.int .i64 0, .int .i64 0, .int .i64 0, .slice none 0 0] 26))) := Bx.new [.int .i64 0, .int .i64 0, .int .i64 0, .slice none 0 0] 26 w
  have HCK0 : Hid (CK p a len cap w (w.alloc (.cells #[.int .i64 0, .int .i64 0, .int .i64 0, .slice none 0 0] 26))) := ⟨h.below hb0, Kept.of_below hb0⟩
  have HZ0 : Hid (w.heap.size < (w.alloc (.cells #[.int .i64 0, .int .i64 0, .int .i64 0, .slice none 0 0] 26)).heap.size) := by show _ < _; simp
  have HAB := hide hab
  have hne : w.heap.size ≠ p := by omega
  clear h hab hb0
  go_enter Tryd.func18, Tryd.ntmps18
  go_upto_region 1 with fail
  generalize hw1 : w.alloc (.cells #[.int .i64 0, .int .i64 0, .int .i64 0, .slice none 0 0] 26) = w1 at *
  clear hw1
  have c1 := below_any p a len cap _ HCK0.out.1 4 (by omega) (by omega)
  go_wp2_with fail
  refine c1.mono ?_
  rintro e w2 ⟨x, rfl, x0, x1, hc, hk⟩
  obtain ⟨X, hX⟩ : ∃ X : Nat, (X : Int) = 1 + x := ⟨(1 + x).toNat, by omega⟩
  have u1 : IntKind.i64.wrap (1 + x) = (X : Int) := by rw [IntKind.wrap_i64]; omega
  have hX3 : X ≤ 10 := by omega
  have HR2 := hide (HR0.out.kept hk hne)
  have HCK2 : Hid (CK p a len cap w w2) := ⟨hc, HCK0.out.2.trans hk⟩
  have HZ2 := hide (Nat.lt_of_lt_of_le HZ0.out hk.size)
  clear c1 hc hk HR0 HCK0 HZ0 hX x0 x1
  have c1 := l10DrawCube_any p a len cap X hX3 w2 HCK2.out.1 (Nat.lt_trans hp HZ2.out) (HAB.out.imp id fun h b off e => Nat.lt_trans (h b off e) HZ2.out)
  go_wp2_with fail
  refine c1.mono ?_
  rintro e w3 ⟨V0, V1, V2, L, af, cf, rfl, hL, ho, hc, hk⟩
  have HR3 := hide (HR2.out.kept hk hne)
  have HCK3 : Hid (CK p a len cap w w3) := ⟨hc, HCK2.out.2.trans hk⟩
  have HZ3 := hide (Nat.lt_of_lt_of_le HZ2.out hk.size)
  have HO3 : Hid (w3.ownsRow (w.heap.size + 1) 2 1 (.slice af L.length cf) L.length (ints L)) := own_mono ho (by have := HZ2.out; omega)
  have HL3 := hide hL
  clear c1 hc hk ho hL HR2 HCK2 HZ2 u1 hX3
  go_upto_region 2 with fail
  have hb4 := bnew w3 (.cells #[.int .i64 V0, .int .i64 V1, .int .i64 V2, .slice af L.length cf] 26)
  have HQ4 : Hid (Bx w3.heap.size [.int .i64 V0, .int .i64 V1, .int .i64 V2, .slice af L.length cf] (w3.alloc (.cells #[.int .i64 V0, .int .i64 V1, .int .i64 V2, .slice af L.length cf] 26))) := Bx.new [.int .i64 V0, .int .i64 V1, .int .i64 V2, .slice af L.length cf] 26 w3
  have HR4 := hide (HR3.out.below hb4 HZ3.out)
  have HCK4 : Hid (CK p a len cap w (w3.alloc (.cells #[.int .i64 V0, .int .i64 V1, .int .i64 V2, .slice af L.length cf] 26))) := ⟨HCK3.out.1.below hb4, HCK3.out.2.trans (Kept.of_below hb4)⟩
  have HO4 : Hid ((w3.alloc (.cells #[.int .i64 V0, .int .i64 V1, .int .i64 V2, .slice af L.length cf] 26)).ownsRow (w.heap.size + 1) 2 1 (.slice af L.length cf) L.length (ints L)) := HO3.out.alloc _
  have HZ4 : Hid (w.heap.size < w3.heap.size ∧ w3.heap.size < (w3.alloc (.cells #[.int .i64 V0, .int .i64 V1, .int .i64 V2, .slice af L.length cf] 26)).heap.size) := ⟨HZ3.out, by simp⟩
  clear hb4 HR3 HCK3 HO3 HZ3
  generalize hw4 : w3.alloc (.cells #[.int .i64 V0, .int .i64 V1, .int .i64 V2, .slice af L.length cf] 26) = w4 at *
  clear hw4
  generalize w3.heap.size = q at *
  have c1 := once_any p a len cap _ HCK4.out.1 16 (by omega) (by omega)
  go_wp2_with fail
  refine c1.mono ?_
  rintro e w5 ⟨b, rfl, hc, hk⟩
  have hqp : q ≠ p := by have := HZ4.out; omega
  have HR5 := hide (HR4.out.kept hk hne)
  have HQ5 := hide (HQ4.out.kept hk hqp)
  have HCK5 : Hid (CK p a len cap w w5) := ⟨hc, HCK4.out.2.trans hk⟩
  have HO5 : Hid (w5.ownsRow (w.heap.size + 1) 2 1 (.slice af L.length cf) L.length (ints L)) := owns_keepV HO4.out (fun b hb hl => hk.block b hl (by omega))
  have HZ5 : Hid (w.heap.size < q ∧ q < w5.heap.size) := ⟨HZ4.out.1, Nat.lt_of_lt_of_le HZ4.out.2 hk.size⟩
  clear c1 hc hk HR4 HQ4 HCK4 HO4 HZ4
  have hqR : q ≠ w.heap.size := by have := HZ5.out; omega
  have hRq : w.heap.size ≠ q := hqR.symm
  cases b
  · obtain ⟨z0, f0⟩ := HQ5.out 0 _ rfl
    obtain ⟨z1, f1⟩ := HQ5.out 1 _ rfl
    obtain ⟨z2, f2⟩ := HQ5.out 2 _ rfl
    obtain ⟨z3, f3⟩ := HQ5.out 3 _ rfl
    obtain ⟨g0, d0⟩ := HR5.out 0 _ rfl
    obtain ⟨g1, d1⟩ := HR5.out 1 _ rfl
    obtain ⟨g2, d2⟩ := HR5.out 2 _ rfl
    obtain ⟨g3, d3⟩ := HR5.out 3 _ rfl
    go_wp2_with fail
    exact bodyPost_ret (v := vVolume V0 V1 V2 af L.length cf) (by simp [results, Tryd.results18, go_sem, g0, g1, g2, g3]) rfl
      ⟨V0, V1, V2, L, af, cf, rfl, HL3.out, own_mono (owns_farC (owns_farC (owns_farC (owns_farC HO5.out (by omega) _) (by omega) _) (by omega) _) (by omega) _) (by omega), HCK5.out.set4 hp HAB.out (Nat.le_refl _) _ _ _ _⟩
  · have c1 := l7DrawVolume_any p a len cap w5 HCK5.out.1 (Nat.lt_trans hp (Nat.lt_trans HZ5.out.1 HZ5.out.2)) (HAB.out.imp id fun h b off e => Nat.lt_trans (h b off e) (Nat.lt_trans HZ5.out.1 HZ5.out.2))
    go_wp2_with fail
    refine c1.mono ?_
    rintro e w6 ⟨U0, U1, U2, M, ag, cg, rfl, hM, ho, hc, hk⟩
    have HR6 := hide (HR5.out.kept hk hne)
    have HQ6 := hide (HQ5.out.kept hk hqp)
    have HCK6 : Hid (CK p a len cap w w6) := ⟨hc, HCK5.out.2.trans hk⟩
    have HO6 : Hid (w6.ownsRow (q + 1) 2 1 (.slice ag M.length cg) M.length (ints M)) := own_mono ho (by have := HZ5.out; omega)
    have HM := hide hM
    clear c1 hc hk ho hM HR5 HQ5 HCK5 HO5
    obtain ⟨z0, f0⟩ := HQ6.out 0 _ rfl
    obtain ⟨z1, f1⟩ := HQ6.out 1 _ rfl
    obtain ⟨z2, f2⟩ := HQ6.out 2 _ rfl
    obtain ⟨z3, f3⟩ := HQ6.out 3 _ rfl
    obtain ⟨g0, d0⟩ := HR6.out 0 _ rfl
    obtain ⟨g1, d1⟩ := HR6.out 1 _ rfl
    obtain ⟨g2, d2⟩ := HR6.out 2 _ rfl
    obtain ⟨g3, d3⟩ := HR6.out 3 _ rfl
    have HRl : Hid (w.heap.size < q) := HZ5.out.1
    go_wp2_with fail
    refine bodyPost_ret (v := vVolume U0 U1 U2 ag M.length cg) (by simp [results, Tryd.results18, go_sem, g0, g1, g2, g3]) rfl ?_
    have hRl := HRl.out
    have ho := owns_farC (owns_farC (owns_farC (owns_farC HO6.out (c := q) (k := 0) (by omega) (.int .i64 U0)) (c := q) (k := 1) (by omega) (.int .i64 U1)) (c := q) (k := 2) (by omega) (.int .i64 U2)) (c := q) (k := 3) (by omega) (.slice ag M.length cg)
    exact ⟨U0, U1, U2, M, ag, cg, rfl, HM.out, own_mono (owns_farC (owns_farC (owns_farC (owns_farC ho (by omega) _) (by omega) _) (by omega) _) (by omega) _) (by omega), (HCK6.out.set4 hp HAB.out (Nat.le_of_lt hRl) _ _ _ _).set4 hp HAB.out (Nat.le_refl _) _ _ _ _⟩

end Go.Proofs.YtkgkdhocmglklaaDoor

namespace Go.Proofs.YtkgkdhocmglklaaDoor
open Go.RowKit

/-- a volume and a turn are drawn -/
def DrW (w : World) (e : Ending) (w' : World) : Prop :=
  ∃ (V0 V1 V2 : Int) (L : List Int) (af : Option Addr) (cf : Nat) (y0 y1 y2 y3 : Int), e = .returned (.tuple #[vVolume V0 V1 V2 af L.length cf, tv y0 y1 y2 y3]) ∧ L.length ≤ 1000 ∧ w'.ownsRow w.heap.size 2 1 (.slice af L.length cf) L.length (ints L) ∧ I4 y0 y1 y2 y3 ∧ Below w.heap.size w w'

set_option maxRecDepth 100000 in
set_option maxHeartbeats 2000000 in
theorem drawTurnVolume_any (a : Option Addr) (len cap : Nat) (w : World) (h : Bytes a len w) :
    Calls Tryd.prog 6 #[.slice a len cap] w (DrW w) := by
  have HAB := hide (bytes_lt h (B := w.heap.size) (Nat.le_refl _))
  obtain ⟨w1, hw1⟩ : ∃ w1, w1 = (w.alloc (.cells #[.int .i64 0, .int .i64 0, .int .i64 0, .slice none 0 0] 26)).alloc (cTurn 0 0 0 0 28) := ⟨_, rfl⟩
  have hb1 : Below w.heap.size w w1 := by rw [hw1]; exact (bnew _ _).alloc (by simp) _
  have hs1 : w1.heap.size = w.heap.size + 2 := by rw [hw1]; simp
  have r1 : Bx w.heap.size [.int .i64 0, .int .i64 0, .int .i64 0, .slice none 0 0] w1 := by
    rw [hw1]; exact (Bx.new [.int .i64 0, .int .i64 0, .int .i64 0, .slice none 0 0] 26 w).below (bnew _ _) (by simp)
  have r2 : Bx (w.heap.size + 1) [.int .i64 0, .int .i64 0, .int .i64 0, .int .i64 0] w1 := by
    rw [hw1]
    have := Bx.new [.int .i64 0, .int .i64 0, .int .i64 0, .int .i64 0] 28 (w.alloc (.cells #[.int .i64 0, .int .i64 0, .int .i64 0, .slice none 0 0] 26))
    rwa [show (w.alloc (.cells #[.int .i64 0, .int .i64 0, .int .i64 0, .slice none 0 0] 26)).heap.size = w.heap.size + 1 by simp] at this
  have hy1 := h.below hb1
  have hn := new_any a len cap w1 hy1
  have HBY := hide hy1
  have HB1 := hide hb1
  have HR1 := hide r1
  have HR2 := hide r2
  have HS1 := hide hs1
  clear h hb1 r1 r2 hs1 hy1
  go_enter Tryd.func6, Tryd.ntmps6
  go_upto_region 1 with fail
  rw [← hw1]
  clear hw1
  go_wp2_with fail
  refine hn.mono ?_
  rintro e w2 ⟨x, rfl, rfl⟩
  have hc := cur_new a len cap w1 HBY.out x
  have hb2 := bnew w1 (.cells #[.slice a len cap, .int .i64 0, .int .i64 x] 74)
  have hs2 : (w1.alloc (.cells #[.slice a len cap, .int .i64 0, .int .i64 x] 74)).heap.size = w.heap.size + 3 := by have := HS1.out; simp; omega
  have hs1 := HS1.out
  have HB2 := hide (HB1.out.trans (hb2.mono (by omega)))
  have HR1' := hide (HR1.out.below hb2 (by omega))
  have HR2' := hide (HR2.out.below hb2 (by omega))
  have HC2 := hide hc
  have HS2 := hide hs2
  rw [hs1] at HC2
  rw [hs1]
  clear hn hc hb2 hs2 hs1 HBY HB1 HR1 HR2 HS1
  generalize hw2 : w1.alloc (.cells #[.slice a len cap, .int .i64 0, .int .i64 x] 74) = w2 at *
  clear hw2
  obtain ⟨p, hp⟩ : ∃ p, p = w.heap.size + 2 := ⟨_, rfl⟩
  rw [← hp] at HC2
  rw [← hp]
  have hpp : p < w2.heap.size := by have := HS2.out; omega
  have cD := fun w' h h1 h2 => l10DrawAny_any p a len cap w' h h1 h2
  have HP := hide hp
  have c1 := l10DrawAnyCube_any p a len cap w2 HC2.out hpp (HAB.out.imp id fun h b off e => by have := h b off e; have := HS2.out; omega)
  clear hp
  go_wp2_with fail
  refine c1.mono ?_
  rintro e w3 ⟨V0, V1, V2, L, af, cf, rfl, hL, ho, hc, hk⟩
  have hb3 := bnew w3 (.cells #[.int .i64 V0, .int .i64 V1, .int .i64 V2, .slice af L.length cf] 26)
  have hz := hk.size
  have hs2 := HS2.out
  have hp := HP.out
  have HBp : Hid (dpB w p a len w.heap.size (w.heap.size + 1) w3.heap.size) := ⟨rfl, rfl, hp, by omega, HAB.out⟩
  have HD : Hid (dpR w p a len cap w.heap.size (w.heap.size + 1) w3.heap.size (.int .i64 V0) (.int .i64 V1) (.int .i64 V2) (.slice af L.length cf) (w3.alloc (.cells #[.int .i64 V0, .int .i64 V1, .int .i64 V2, .slice af L.length cf] 26))) :=
    ⟨hc.below hb3, (HB2.out.trans (hk.below (by omega) (by omega))).trans (hb3.mono (by omega)), Bx.new [.int .i64 V0, .int .i64 V1, .int .i64 V2, .slice af L.length cf] 26 w3,
      ⟨_, _, _, _, (HR1'.out.kept hk (by omega)).below hb3 (by omega)⟩, ⟨_, _, _, _, (HR2'.out.kept hk (by omega)).below hb3 (by omega)⟩, by simp; omega⟩
  have HOW : Hid ((w3.alloc (.cells #[.int .i64 V0, .int .i64 V1, .int .i64 V2, .slice af L.length cf] 26)).ownsRow (w.heap.size + 3) 2 1 (.slice af L.length cf) L.length (ints L)) := own_mono (ho.alloc _) (by omega)
  have HLL := hide hL
  clear c1 hc hk hb3 hz hs2 hp ho hL HB2 HR1' HR2' HC2 HS2 hpp
  go_upto_region 3 with fail
  generalize hw4 : w3.alloc (.cells #[.int .i64 V0, .int .i64 V1, .int .i64 V2, .slice af L.length cf] 26) = w4 at *
  clear hw4
  generalize w3.heap.size = X at *
  generalize hR2 : w.heap.size + 1 = R2 at *
  have HR2 := hide hR2
  clear hR2
  refine region_ops (fun w' => dpR w p a len cap w.heap.size R2 X (.int .i64 V0) (.int .i64 V1) (.int .i64 V2) (.slice af L.length cf) w' ∧ w'.ownsRow (w.heap.size + 3) 2 1 (.slice af L.length cf) L.length (ints L)) (dpF p w.heap.size R2 (.int .i64 V0) (.int .i64 V1) (.int .i64 V2) (.slice af L.length cf)) (by kernel_rfl) (by kernel_rfl) (by kernel_rfl) ?_ ?_ ?_
  · exact ⟨HD.out.drew, HOW.out⟩
  · refine ⟨?_, ?_, ?_, ?_, ?_, trivial⟩
    · intro u w5 au hau _ hF0 hp' K hK
      obtain ⟨hF, hOw⟩ := hF0
      obtain ⟨x0, -⟩ := hF.x 0 _ rfl
      obtain ⟨x1, -⟩ := hF.x 1 _ rfl
      obtain ⟨x2, -⟩ := hF.x 2 _ rfl
      obtain ⟨x3, -⟩ := hF.x 3 _ rfl
      have t5 : au.tmps[5]?.getD undef = .pointer (some ⟨X, 0, none⟩) := by rw [hau.out]; kernel_rfl
      refine step_plain rfl ?_
      go_simp
      exact hK.out (vVolume V0 V1 V2 af L.length cf) _ ⟨hF, hOw⟩ (upU_same _ _ _) (fun j hj _ h => dpF_stab u 0 _ j hj (by omega) (fun _ _ h => h) (fun _ _ h => h) h)
    · intro u w5 au hau _ hF0 hp' K hK
      obtain ⟨hF, hOw⟩ := hF0
      have t4 : au.tmps[4]?.getD undef = .pointer (some ⟨p, 0, none⟩) := by rw [hau.out]; kernel_rfl
      refine step_plain rfl ?_
      go_simp
      exact hK.out (.pointer (some ⟨p, 0, none⟩)) _ ⟨hF, hOw⟩ (upU_same _ _ _) (fun j hj _ h => dpF_stab u 1 _ j hj (by omega) (fun _ _ h => h) (fun _ _ h => h) h)
    · intro u w5 au hau _ hF0 hp' K hK
      obtain ⟨hF, hOw⟩ := hF0
      obtain ⟨h1, -⟩ := hp'
      have h1' : u 1 = .pointer (some ⟨p, 0, none⟩) := h1
      have t11 : au.tmps[11]?.getD undef = u 1 := by rw [hau.out]; kernel_rfl
      rw [h1'] at t11
      have c := cD w5 hF.cur (by have := hF.sz; have := HBp.out.hp; omega) (HAB.out.imp id fun h b off e => by have := h b off e; have := hF.sz; omega)
      refine step_plain rfl ?_
      go_simp
      refine c.mono ?_
      rintro e w6 ⟨z0, z1, z2, z3, rfl, b0, b1, b2, b3, hc, hk⟩
      exact hK.out (tv z0 z1 z2 z3) _ ⟨hF.step HBp.out hc hk, owns_keepV hOw (fun b hb hl => hk.block b hl (by have := HBp.out.hp; omega))⟩ ⟨z0, z1, z2, z3, upU_same _ _ _, I4.of b0 b1 b2 b3⟩ (fun j hj hf h => dpF_stab u 2 _ j hj (fun e => by subst e; exact absurd (Eq.trans (Eq.symm (by kernel_rfl)) hf) Bool.false_ne_true) (fun _ _ h => h.kept hk (by have := HBp.out.hp; omega)) (fun _ _ h => h.kept hk (by have := HBp.out.hp; have := HBp.out.r2; omega)) h)
    · intro u w5 au hau _ hF0 hp' K hK
      obtain ⟨hF, hOw⟩ := hF0
      have h0 : u 0 = vVolume V0 V1 V2 af L.length cf := PreF.get hp' 0 (by kernel_rfl)
      have t2 : au.tmps[2]?.getD undef = .pointer (some ⟨w.heap.size, 0, none⟩) := by rw [hau.out]; kernel_rfl
      have t10 : au.tmps[10]?.getD undef = u 0 := by rw [hau.out]; kernel_rfl
      rw [h0] at t10
      obtain ⟨q0, q1, q2, q3, hq⟩ := hF.r1
      obtain ⟨x0, f0⟩ := hq 0 _ rfl
      obtain ⟨x1, f1⟩ := hq 1 _ rfl
      obtain ⟨x2, f2⟩ := hq 2 _ rfl
      obtain ⟨x3, f3⟩ := hq 3 _ rfl
      refine step_plain rfl ?_
      go_simp
      exact hK.out undef _ ⟨hF.set HBp.out (.inl rfl) _ _ _ _, owns_farC (owns_farC (owns_farC (owns_farC hOw (by omega) _) (by omega) _) (by omega) _) (by omega) _⟩ (hq.to4 _ _ _ _) (fun j hj _ h => dpF_stab u 3 _ j hj (by omega) (fun _ e => absurd e hj) (fun _ _ h => h.far4 (by have := HBp.out.r2; omega) _ _ _ _) h)
    · intro u w5 au hau _ hF0 hp' K hK
      obtain ⟨hF, hOw⟩ := hF0
      obtain ⟨z0, z1, z2, z3, h2, hz⟩ : ∃ z0 z1 z2 z3, u 2 = tv z0 z1 z2 z3 ∧ I4 z0 z1 z2 z3 := PreF.get hp' 2 (by kernel_rfl)
      have t3 : au.tmps[3]?.getD undef = .pointer (some ⟨R2, 0, none⟩) := by rw [hau.out]; kernel_rfl
      have t12 : au.tmps[12]?.getD undef = u 2 := by rw [hau.out]; kernel_rfl
      rw [h2] at t12
      obtain ⟨q0, q1, q2, q3, hq⟩ := hF.r2
      obtain ⟨x0, f0⟩ := hq 0 _ rfl
      obtain ⟨x1, f1⟩ := hq 1 _ rfl
      obtain ⟨x2, f2⟩ := hq 2 _ rfl
      obtain ⟨x3, f3⟩ := hq 3 _ rfl
      have HZ := hide hz
      clear hz
      refine step_plain rfl ?_
      go_simp
      exact hK.out undef _ ⟨hF.set HBp.out (.inr rfl) _ _ _ _, owns_farC (owns_farC (owns_farC (owns_farC hOw (by have := HBp.out.r2; omega) _) (by have := HBp.out.r2; omega) _) (by have := HBp.out.r2; omega) _) (by have := HBp.out.r2; omega) _⟩ ⟨z0, z1, z2, z3, (upU_other _ _ (by omega)).trans h2, HZ.out, hq.to4 _ _ _ _⟩ (fun j hj _ h => dpF_stab u 4 _ j hj (by omega) (fun _ _ h => h.far4 (by have := HBp.out.r2; omega) _ _ _ _) (fun _ e => absurd e hj) h)
  · intro u w5 hF0 hall
    obtain ⟨hF, hOw⟩ := hF0
    have HOE := hide (own_mono hOw (show w.heap.size ≤ w.heap.size + 3 by omega))
    clear hOw
    obtain ⟨x0, f0⟩ := (hall 3 (by decide) : Bx _ _ _) 0 _ rfl
    obtain ⟨x1, f1⟩ := (hall 3 (by decide) : Bx _ _ _) 1 _ rfl
    obtain ⟨x2, f2⟩ := (hall 3 (by decide) : Bx _ _ _) 2 _ rfl
    obtain ⟨x3, f3⟩ := (hall 3 (by decide) : Bx _ _ _) 3 _ rfl
    obtain ⟨z0, z1, z2, z3, h2, hz, hq⟩ : ∃ z0 z1 z2 z3, u 2 = tv z0 z1 z2 z3 ∧ I4 z0 z1 z2 z3 ∧ Bx R2 [.int .i64 z0, .int .i64 z1, .int .i64 z2, .int .i64 z3] w5 := hall 4 (by decide)
    obtain ⟨g0, d0⟩ := hq 0 _ rfl
    obtain ⟨g1, d1⟩ := hq 1 _ rfl
    obtain ⟨g2, d2⟩ := hq 2 _ rfl
    obtain ⟨g3, d3⟩ := hq 3 _ rfl
    have HZ := hide hz
    have HE := hide hF.below
    clear hF hall hq hz HD
    simp only [rgPut, Act.put]
    go_simp
    go_wp2_with fail
    exact bodyPost_ret (v := .tuple #[vVolume V0 V1 V2 af L.length cf, tv z0 z1 z2 z3]) (by simp [results, Tryd.results6, go_sem, x0, x1, x2, x3, g0, g1, g2, g3]) rfl ⟨V0, V1, V2, L, af, cf, z0, z1, z2, z3, rfl, HLL.out, HOE.out, HZ.out, HE.out⟩

end Go.Proofs.YtkgkdhocmglklaaDoor

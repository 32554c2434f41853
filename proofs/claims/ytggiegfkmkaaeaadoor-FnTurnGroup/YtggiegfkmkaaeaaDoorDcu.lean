/- Draws of volumes. -/
import Derived.Test.YtggiegfkmkaaeaaDoorDtm
import Derived.Test.YtggiegfkmkaaeaaDoorGrl
import Derived.Test.YtggiegfkmkaaeaaDoorRVol
import Derived.BigRegion
import Derived.Deep.RegionHeld3
import Derived.Deep.AppendLies
import Derived.Deep.RegionLaw
namespace Go.Proofs.YtggiegfkmkaaeaaDoor
open Go.RowKit

theorem owns_keepV {w w' : World} {B n m : Nat} {e : TypeId} {v : Value} {xs : List Value} (h : w.ownsRow B e m v n xs) (hk : ∀ b, B ≤ b → b < w.heap.size → w'.heap[b]? = w.heap[b]?) : w'.ownsRow B e m v n xs := by
  have hl := h.lt
  obtain ⟨h1, h2⟩ := h
  refine ⟨h1, ?_⟩
  rcases h2 with h2 | ⟨g, cap, cur, hv, hB, hg, hr⟩
  · exact .inl h2
  · exact .inr ⟨g, cap, cur, hv, hB, (hk g hB (hl g (by rw [hv]; rfl)).2).trans hg, hr⟩
theorem own_isV {w : World} {B n m : Nat} {e : TypeId} {v : Value} {xs : List Value} (h : w.ownsRow B e m v n xs) : ∃ a cap, v = .slice a n cap := by
  obtain ⟨_, ⟨rfl, rfl⟩ | ⟨g, cap, cur, hv, _⟩⟩ := h
  · exact ⟨none, 0, rfl⟩
  · exact ⟨_, cap, hv⟩
/-- the volume at hand: its box at q, its list in a block of its own behind it; the answer's box at R -/
structure VD (p : Nat) (a : Option Addr) (len cap : Nat) (w : World) (R q : Nat) (X Y Z : Int) (L : List Int) (af : Option Addr) (cf : Nat) (wr : World) : Prop where
  z : Bx q [.int .i64 X, .int .i64 Y, .int .i64 Z, .slice af L.length cf] wr
  own : wr.ownsRow (q + 1) 2 1 (.slice af L.length cf) L.length (ints L)
  res : Bx R [.int .i64 0, .int .i64 0, .int .i64 0, .slice none 0 0] wr
  ck : CK p a len cap w wr
  sz : q + 1 ≤ wr.heap.size
structure VC (p : Nat) (a : Option Addr) (len : Nat) (w : World) (R q : Nat) : Prop where
  hp : p < w.heap.size
  hab : len = 0 ∨ ∀ b off, a = some ⟨b, off, none⟩ → b < w.heap.size
  hr : w.heap.size ≤ R
  hq : R < q
theorem VD.step {p : Nat} {a : Option Addr} {len cap : Nat} {w : World} {R q : Nat} {X Y Z : Int} {L : List Int} {af : Option Addr} {cf : Nat} {wr w' : World} (h : VD p a len cap w R q X Y Z L af cf wr) (hv : VC p a len w R q) (hc : Cur p a len cap w') (hk : Kept p wr w') : VD p a len cap w R q X Y Z L af cf w' := by
  have h1 := hv.hp; have h2 := hv.hr; have h3 := hv.hq
  exact ⟨h.z.kept hk (by omega), owns_keepV h.own (fun b hb hl => hk.block b hl (by omega)), h.res.kept hk (by omega), ⟨hc, h.ck.2.trans hk⟩, Nat.le_trans h.sz hk.size⟩
theorem VD.drew {p : Nat} {a : Option Addr} {len cap : Nat} {w : World} {R q : Nat} {X Y Z : Int} {L : List Int} {af : Option Addr} {cf : Nat} {wr : World} (h : VD p a len cap w R q X Y Z L af cf wr) : VD p a len cap w R q X Y Z L af cf wr.drew :=
  ⟨h.z, h.own, h.res, ⟨h.ck.1.drewN 1, h.ck.2.drewN 1⟩, h.sz⟩
theorem Bx.setIn {b : Nat} {vs : List Value} {w : World} (h : Bx b vs w) {k : Nat} (hk : k < vs.length) (v : Value) : Bx b (vs.set k v) (w.setCell ⟨b, k, none⟩ v) := fun j u hu => by
  by_cases e : j = k
  · subst e
    rw [List.getElem?_set_self hk] at hu
    cases hu
    have := h j _ (List.getElem?_eq_getElem hk)
    exact ⟨World.cell?_setCell_same _ _ _ this.1, by simpa using this.2⟩
  · rw [List.getElem?_set_ne (Ne.symm e)] at hu
    have := h j u hu
    refine ⟨?_, by simpa using this.2⟩
    rw [World.cell?_setCell_other _ _ _ _ (by intro e'; exact e (congrArg Addr.off e').symm)]
    exact this.1
theorem Bx.farC {b : Nat} {vs : List Value} {w : World} (h : Bx b vs w) {c k : Nat} (hc : c ≠ b) (v : Value) : Bx b vs (w.setCell ⟨c, k, none⟩ v) := fun j u hu => by
  have := h j u hu
  refine ⟨?_, by simpa using this.2⟩
  rw [World.cell?_setCell_other _ _ _ _ (by intro e; exact hc (congrArg Addr.block e))]
  exact this.1
theorem owns_farC {w : World} {B n m : Nat} {e : TypeId} {v : Value} {xs : List Value} (h : w.ownsRow B e m v n xs) {c k : Nat} (hc : c < B) (x : Value) : (w.setCell ⟨c, k, none⟩ x).ownsRow B e m v n xs :=
  owns_keepV h (fun b hb _ => by
    have k' : Kept c w (w.setCell ⟨c, k, none⟩ x) := (Kept.refl c w).setCell (a := ⟨c, k, none⟩) rfl x
    exact k'.block b (by assumption) (by omega))
/-- the list behind the box has grown -/
theorem VD.grown {p : Nat} {a : Option Addr} {len cap : Nat} {w : World} {R q : Nat} {X Y Z : Int} {L L' : List Int} {af af' : Option Addr} {cf cf' : Nat} {wr w' : World} (h : VD p a len cap w R q X Y Z L af cf wr) (hv : VC p a len w R q) (hb : Below (q + 1) wr w') (ho : w'.ownsRow (q + 1) 2 1 (.slice af' L'.length cf') L'.length (ints L')) :
    VD p a len cap w R q X Y Z L' af' cf' (w'.setCell ⟨q, 3, none⟩ (.slice af' L'.length cf')) := by
  have h1 := hv.hp; have h2 := hv.hr; have h3 := hv.hq
  have hz : Bx q [.int .i64 X, .int .i64 Y, .int .i64 Z, .slice af L.length cf] w' := h.z.below hb (by omega)
  refine ⟨hz.setIn (k := 3) (by simp) _, owns_farC ho (by omega) _, (h.res.below hb (by omega)).farC (by omega) _, ?_, by have := Nat.le_trans h.sz hb.size; simpa using this⟩
  exact CK.set ⟨h.ck.1.belowB hb (by omega) (hv.hab.imp id fun h b off e => by have := h b off e; omega), h.ck.2.belowB hb (by omega)⟩ h1 hv.hab (q := ⟨q, 3, none⟩) (by show w.heap.size ≤ q; omega) _

/-- a volume is drawn -/
def DrV (p : Nat) (a : Option Addr) (len cap : Nat) (w : World) (e : Ending) (w' : World) : Prop :=
  ∃ (X Y Z : Int) (L : List Int) (af : Option Addr) (cf : Nat), e = .returned (vVolume X Y Z af L.length cf) ∧ L.length ≤ 1000 ∧ w'.ownsRow w.heap.size 2 1 (.slice af L.length cf) L.length (ints L) ∧ CK p a len cap w w'
theorem own_mono {w : World} {B B' n m : Nat} {e : TypeId} {v : Value} {xs : List Value} (h : w.ownsRow B e m v n xs) (hB : B' ≤ B) : w.ownsRow B' e m v n xs := by
  obtain ⟨h1, h2⟩ := h
  refine ⟨h1, ?_⟩
  rcases h2 with h2 | ⟨g, cap, cur, hv, hg, hr⟩
  · exact .inl h2
  · exact .inr ⟨g, cap, cur, hv, Nat.le_trans hB hg, hr⟩
theorem VD.out {p : Nat} {a : Option Addr} {len cap : Nat} {w : World} {R q : Nat} {X Y Z : Int} {L : List Int} {af : Option Addr} {cf : Nat} {wr : World} (h : VD p a len cap w R q X Y Z L af cf wr) (hv : VC p a len w R q) (hL : L.length ≤ 1000) :
    DrV p a len cap w (.returned (vVolume X Y Z af L.length cf)) (set4 wr R (.int .i64 X) (.int .i64 Y) (.int .i64 Z) (.slice af L.length cf)) := by
  have h1 := hv.hp; have h2 := hv.hr; have h3 := hv.hq
  exact ⟨X, Y, Z, L, af, cf, rfl, hL, own_mono (owns_farC (owns_farC (owns_farC (owns_farC h.own (by omega) _) (by omega) _) (by omega) _) (by omega) _) (by omega), h.ck.set4 h1 hv.hab h2 _ _ _ _⟩

set_option maxRecDepth 100000 in
set_option maxHeartbeats 2000000 in
theorem l10DrawCube_any (p : Nat) (a : Option Addr) (len cap : Nat) (n : Nat) (hn : n ≤ 10) (w : World) (h : Cur p a len cap w) (hp : p < w.heap.size) (hab : len = 0 ∨ ∀ b off, a = some ⟨b, off, none⟩ → b < w.heap.size) :
    Calls Tryd.prog 45 #[.pointer (some ⟨p, 0, none⟩), .int .i64 (n : Int)] w (DrV p a len cap w) := by
  have hnn : n * n * n ≤ 1000 := Nat.mul_le_mul (Nat.mul_le_mul hn hn) hn
  obtain ⟨m, hm⟩ : ∃ m : Nat, m = n * n * n := ⟨_, rfl⟩
  have hnn2 : n * n ≤ 100 := Nat.mul_le_mul hn hn
  have e1 : IntKind.i64.wrap ((n : Int) * n) = (n : Int) * n := by
    rw [show (n : Int) * n = ((n * n : Nat) : Int) by simp, IntKind.wrap_i64]; omega
  have e2 : IntKind.i64.wrap ((n : Int) * n * n) = (m : Int) := by
    rw [show (n : Int) * n * n = ((n * n * n : Nat) : Int) by simp, ← hm, IntKind.wrap_i64]; omega
  have hm1 : m ≤ 1000 := by rw [hm]; exact hnn
  clear hm hnn hnn2
  obtain ⟨w1, hw1⟩ : ∃ w1, w1 = (w.alloc (.cells #[.int .i64 0, .int .i64 0, .int .i64 0, .slice none 0 0] 35)).alloc (.cells #[.int .i64 n, .int .i64 n, .int .i64 n, .slice none 0 0] 35) := ⟨_, rfl⟩
  have hb1 : Below w.heap.size w w1 := by rw [hw1]; exact (bnew _ _).alloc (by simp) _
  have HV : Hid (VC p a len w w.heap.size (w.heap.size + 1)) := ⟨hp, hab, Nat.le_refl _, by omega⟩
  have HD : Hid (VD p a len cap w w.heap.size (w.heap.size + 1) n n n [] none 0 w1) := by
    refine ⟨?_, ⟨rfl, .inl ⟨rfl, rfl⟩⟩, ?_, ⟨h.below hb1, Kept.of_below hb1⟩, by rw [hw1]; simp⟩
    · rw [hw1]
      have := Bx.new [.int .i64 n, .int .i64 n, .int .i64 n, .slice none 0 0] 35 (w.alloc (.cells #[.int .i64 0, .int .i64 0, .int .i64 0, .slice none 0 0] 35))
      rwa [show (w.alloc (.cells #[.int .i64 0, .int .i64 0, .int .i64 0, .slice none 0 0] 35)).heap.size = w.heap.size + 1 by simp] at this
    · rw [hw1]; exact (Bx.new [.int .i64 0, .int .i64 0, .int .i64 0, .slice none 0 0] 35 w).below (bnew _ _) (by simp)
  clear h hab hb1
  go_enter Tryd.func45, Tryd.ntmps45
  go_upto_region 2 with fail
  rw [← hw1]
  clear hw1
  generalize hq : w.heap.size + 1 = q at *
  clear hq
  go_wp2_with fail
  clear e1 e2
  obtain ⟨ti, hi1, hi2, hi3, hi4⟩ := info2
  have HI1 := hide hi1
  clear hi1
  go_loopw [6] (fun i wr => ∃ (j : Nat) (L : List Int) (af : Option Addr) (cf : Nat), i = .int .i64 j ∧ L.length + j = m ∧ VD p a len cap w w.heap.size q n n n L af cf wr) (fun i _ => (intOf i).toNat)
  case atStart => exact ⟨m, [], none, 0, rfl, by simp, HD.out⟩
  case round =>
    obtain ⟨j, L, af, cf, rfl, hj, hd⟩ := hrel
    clear HD
    have HD := hide hd
    clear hd
    have HL : Hid (L.length ≤ 1000) := by show _ ≤ _; omega
    have HJ := hide hj
    clear hj
    by_cases hlt : 0 < j
    · have c1 := once_any p a len cap _ HD.out.ck.1 3 (by omega) (by omega)
      have hj1 : j ≤ 1000 := by have := HJ.out; omega
      go_wp2_with fail
      refine c1.mono ?_
      rintro e w2 ⟨b, rfl, hc, hk⟩
      have HD2 := hide (HD.out.step HV.out hc hk)
      clear c1 hc hk HD
      cases b
      · have z3 := HD2.out.z 3 _ rfl
        obtain ⟨z3, f3⟩ := z3
        have HSZ := hide HD2.out.sz
        have HOX := hide HD2.out.own
        have HBX : Hid (Below (q + 1) w2 w2) := Below.refl _ _
        go_wp2_with (refine growL _ rfl _ _ rfl (q + 1) _ L.length L rfl w2 HOX.out HBX.out HSZ.out 0 rfl (Nat.le_trans HL.out (by omega)) ?_)
        intro v' w3 ho3 hb3 _
        obtain ⟨af', cf', rfl⟩ := own_isV ho3
        have g3 := (hb3.cell (p := ⟨q, 3, none⟩) (by show q < q + 1; omega)).trans z3
        have k3 := (hb3.frozen (p := ⟨q, 3, none⟩) (by show q < q + 1; omega)).trans f3
        have el : L.length + 1 = (L ++ [(0 : Int)]).length := by simp
        rw [el] at ho3
        rw [el]
        have HG := hide (HD2.out.grown HV.out hb3 ho3)
        clear z3 f3 HOX HBX HSZ HD2 ho3 hb3
        generalize (L ++ [(0 : Int)]) = L' at *
        go_wp2_with fail
        exact ⟨⟨j - 1, L', af', cf', by congr 1; omega, by have := HJ.out; omega, HG.out⟩, by simp [intOf] <;> omega⟩
      · have hd := fun w' h => from_any p a len cap w' h (-9) 60 (by omega) (by omega) (by omega)
        obtain ⟨z8, f8⟩ := HD2.out.z 3 _ rfl
        have HCd : Hid (Cur p a len cap w2.drew) := HD2.out.ck.1.drewN 1
        have HLn : Hid (L.length ≤ 1000) := HL
        go_upto_region 6 with fail
        go_region_law (first
          | (refine step_append_lies _ (by rfl) _ _ _ (by rfl) (q + 1) 2 ti _ 1 8 Tryd.underlying33 HI1.out hi2 hi3 hi4 rfl (by omega) (.slice af L.length cf) L.length (ints L) (by rfl) (HQ10.out.own.alloc _) ⟨w10.heap.size, 0, none⟩ 1 1 [.int .i64 y] (by rfl) (by rfl) (World.news_of_block (cs := #[.int .i64 y]) (t := 2) (fr := (0, 0)) (heap_alloc_new w10 _)) (by simp [Value.oneCell']) (by omega) (by have := HLn.out; unfold maxLen; omega) (by have := HLn.out; omega) (by have := HQ10.out.sz; simp; omega) (w10.heap.size + 1) (by simp) ?_; intro gg cap1 w11 hown1 hgrow hat hlt1; have hb11 : Below (q + 1) w10 w11 := ((Below.refl _ _).alloc HQ10.out.sz _).trans ((Below.refl _ _).grown hgrow (by have := HQ10.out.sz; simp; omega) (fun q' hq' => (HQ10.out.own.lt q' hq').1)); have z11 := (hb11.cell (p := ⟨q, 3, none⟩) (by show q < q + 1; omega)).trans z10; have f11 := (hb11.frozen (p := ⟨q, 3, none⟩) (by show q < q + 1; omega)).trans f10)
          | (go_wp2_with fail; (with_reducible refine (hd _ HCd.out).mono ?_); rintro e w10 ⟨y, rfl, hy0, hy1, hc10, hk10⟩; have hk := ((Kept.refl p w2).drew).trans hk10; have HQ10 := hide (HD2.out.step HV.out hc10 hk); obtain ⟨z10, f10⟩ := HQ10.out.z 3 _ rfl; have hq10 : q < w10.heap.size := HQ10.out.sz; clear hc10 hk10 hk))
        all_goals
          have el : L.length + 1 = (L ++ [y]).length := by simp
          have ho11 : w11.ownsRow (q + 1) 2 1 (.slice (some ⟨gg, 0, none⟩) (L ++ [y]).length cap1) (L ++ [y]).length (ints (L ++ [y])) := by rw [ints_append, ← el]; exact hown1
          have HG := hide (HQ10.out.grown HV.out hb11 ho11)
          rw [← el] at HG
          have HL9 : Hid ((L ++ [y]).length + (j - 1) = m) := by have := HJ.out; show _ = _; rw [← el]; omega
          clear hown1 hgrow hat hlt1 hb11 z11 f11 ho11 hd HCd HQ10 z10 f10 HD2 z8 f8 el
          go_wp2_with fail
          exact ⟨⟨j - 1, L ++ [y], some ⟨gg, 0, none⟩, cap1, by congr 1; omega, HL9.out, HG.out⟩, by simp [intOf] <;> omega⟩
    · obtain rfl : j = 0 := by omega
      obtain ⟨z0, f0⟩ := HD.out.z 0 _ rfl
      obtain ⟨z1, f1⟩ := HD.out.z 1 _ rfl
      obtain ⟨z2, f2⟩ := HD.out.z 2 _ rfl
      obtain ⟨z3, f3⟩ := HD.out.z 3 _ rfl
      obtain ⟨g0, d0⟩ := HD.out.res 0 _ rfl
      obtain ⟨g1, d1⟩ := HD.out.res 1 _ rfl
      obtain ⟨g2, d2⟩ := HD.out.res 2 _ rfl
      obtain ⟨g3, d3⟩ := HD.out.res 3 _ rfl
      go_wp2_with fail
      exact bodyPost_ret (v := vVolume n n n af L.length cf) (by simp [results, Tryd.results45, go_sem, g0, g1, g2, g3]) rfl (HD.out.out HV.out HL.out)

end Go.Proofs.YtggiegfkmkaaeaaDoor

/- A heap in memory: what goes before what; one is put in. -/
import Derived.Test.YtekoioggamhlaaaWhp
import Derived.Test.YtekoioggamhlaaaGrk
import Derived.Test.YtekoioggamhlaaaQup
import Derived.Test.YtekoioggamhlaaaKps
import Derived.BigRegion
import Derived.Deep.RegionLaw
import Derived.Deep.AppendLies
import Derived.Deep.LoopGhost
namespace Go.Proofs.Ytekoioggamhlaaa
open Go.RowKit

abbrev vW (x : I3) : Value := .agg #[.int .i64 x.1, .int .i64 x.2.1, .int .i64 x.2.2]
theorem nilW (a b c : Int) (w : World) : (nilAhead 205 59 (.agg #[.int .i64 a, .int .i64 b, .int .i64 c]) "loop.example/g00050/impl.before").run Try.prog w = .ok (some false) w := by kernel_rfl
theorem metW (a b c : Int) (w : World) : (method 205 59 (.agg #[.int .i64 a, .int .i64 b, .int .i64 c]) "loop.example/g00050/impl.before").run Try.prog w = .ok (68, .agg #[.int .i64 a, .int .i64 b, .int .i64 c]) w := by kernel_rfl

set_option maxRecDepth 100000 in
set_option maxHeartbeats 1000000 in
theorem before_any (x y : I3) (w : World) : Calls Try.prog 68 #[vW x, vW y] w fun e w' => e = .returned (.bool (decide (bfI x y))) ∧ Below w.heap.size w w' := by
  obtain ⟨a, b, c⟩ := x
  obtain ⟨a', b', c'⟩ := y
  have HB : Hid (∀ o o', Below w.heap.size w ((w.alloc o).alloc o')) := fun o o' => (bnew _ _).alloc (by simp) _
  by_cases h : a = a'
  · have q : (a != a') = false := by simp [h]
    have HR : Hid (decide (b < b') = decide (bfI (a, b, c) (a', b', c'))) := by
      show _ = _
      refine decide_eq_decide.2 ?_
      simp only [bfI]; omega
    generalize decide (bfI (a, b, c) (a', b', c')) = R at *
    clear h
    go_enter Try.func68, Try.ntmps68
    go_wp2_with fail
    go_ret
    exact ⟨by rw [← HR.out]; rfl, HB.out _ _⟩
  · have q : (a != a') = true := by simp [h]
    have HR : Hid (decide (a < a') = decide (bfI (a, b, c) (a', b', c'))) := by
      show _ = _
      refine decide_eq_decide.2 ?_
      simp only [bfI]; omega
    generalize decide (bfI (a, b, c) (a', b', c')) = R at *
    clear h
    go_enter Try.func68, Try.ntmps68
    go_wp2_with fail
    go_ret
    exact ⟨by rw [← HR.out]; rfl, HB.out _ _⟩


/-- a cell of a list of the call's own is written -/
theorem own_setI {w : World} {B n b cap m : Nat} {e : TypeId} {X : List Int} (h : w.ownsRow B e m (.slice (some ⟨b, 0, none⟩) n cap) n (ints X)) (k : Nat) (z : Int) :
    (w.setCell ⟨b, k, none⟩ (.int .i64 z)).ownsRow B e m (.slice (some ⟨b, 0, none⟩) n cap) n (ints (X.set k z)) := by
  obtain ⟨h1, h2⟩ := h
  refine ⟨by rw [ints_length] at h1 ⊢; simpa using h1, ?_⟩
  rcases h2 with ⟨hv, _⟩ | ⟨b', cap', cur, hv, hB, hh, hn, hc, hs, ht⟩
  · cases hv
  · cases hv
    refine .inr ⟨b, cap, cur.setIfInBounds k (.int .i64 z), rfl, hB, ?_, hn, hc, by rw [Array.size_setIfInBounds]; exact hs, ?_⟩
    · rw [heap_setCell_same w b k cur e _ hh]
    · rw [Array.toList_setIfInBounds, List.take_set, ht]
      unfold ints
      rw [List.map_set]

theorem infoW : ∃ i, Try.prog.info? 59 = some i ∧ i.zero = some (vW (0, 0, 0)) ∧ i.size = 3 ∧ i.bytes = 24 := ⟨_, rfl, rfl, rfl, rfl⟩
/-- a list of items of the call's own: its form -/
theorem own_itm {w : World} {B : Nat} {v : Value} {L : List I3} (h : w.ownsRow B 59 3 v L.length (ints (hl L))) (h0 : 0 < L.length) :
    ∃ b cap, v = .slice (some ⟨b, 0, none⟩) L.length cap ∧ L.length ≤ cap ∧ B ≤ b ∧ b < w.heap.size ∧ ∀ i, i < L.length → (w.cell? ⟨b, i * 3, none⟩ = some (.int .i64 (gI L i).1) ∧ w.cell? ⟨b, i * 3 + 1, none⟩ = some (.int .i64 (gI L i).2.1) ∧ w.cell? ⟨b, i * 3 + 2, none⟩ = some (.int .i64 (gI L i).2.2)) ∧ w.frozen? ⟨b, i * 3, none⟩ = false ∧ w.frozen? ⟨b, i * 3 + 1, none⟩ = false ∧ w.frozen? ⟨b, i * 3 + 2, none⟩ = false := by
  have hh := h
  rcases h.2 with ⟨hv, hz⟩ | ⟨b', cap', cur, hv, hB, hg, hn, hc, hs, ht⟩
  · omega
  · subst hv
    refine ⟨b', cap', rfl, hn, hB, (Array.getElem?_eq_some_iff.1 hg).1, fun i hi => ?_⟩
    have hlen := hl_len L
    have key : ∀ k, k < L.length * 3 → w.cell? ⟨b', k, none⟩ = some (.int .i64 ((hl L).getD k 0)) := fun k hk => by
      rw [hh.cellAt k hk]
      exact ints_at (hl L) k (by omega)
    obtain ⟨e0, e1, e2⟩ := hl_get hi
    refine ⟨⟨?_, ?_, ?_⟩, hh.frozenAt _, hh.frozenAt _, hh.frozenAt _⟩
    · rw [key (i * 3) (by omega), e0]
    · rw [key (i * 3 + 1) (by omega), e1]
    · rw [key (i * 3 + 2) (by omega), e2]

/-- an item is written -/
theorem own_set3 {w : World} {B b cap n : Nat} {L : List I3} (h : w.ownsRow B 59 3 (.slice (some ⟨b, 0, none⟩) n cap) n (ints (hl L))) {k : Nat} (hk : k < L.length) (x : I3) :
    (((w.setCell ⟨b, k * 3, none⟩ (.int .i64 x.1)).setCell ⟨b, k * 3 + 1, none⟩ (.int .i64 x.2.1)).setCell ⟨b, k * 3 + 2, none⟩ (.int .i64 x.2.2)).ownsRow B 59 3 (.slice (some ⟨b, 0, none⟩) n cap) n (ints (hl (L.set k x))) := by
  rw [hl_set x hk]
  exact own_setI (own_setI (own_setI h (k * 3) x.1) (k * 3 + 1) x.2.1) (k * 3 + 2) x.2.2
theorem KpS.grown {S : Nat → Prop} {a b c : World} {row : Option Nat} (h : KpS S a b) (hg : b.grownBy c row) (hr : ∀ k, row = some k → S k) : KpS S a c :=
  ⟨hg.os.trans h.os, hg.tape.trans h.tape, hg.output.trans h.output, Nat.le_trans h.size hg.size, fun k hk hs => (hg.block k (Nat.lt_of_lt_of_le hk h.size) (fun e => hs (hr k e.symm))).trans (h.block k hk hs)⟩
theorem KpS.set3 {S : Nat → Prop} {w w' : World} (h : KpS S w w') {b : Nat} (hb : S b) (i j k : Nat) (x y z : Value) : KpS S w (((w'.setCell ⟨b, i, none⟩ x).setCell ⟨b, j, none⟩ y).setCell ⟨b, k, none⟩ z) :=
  ((h.setCell (a := ⟨b, i, none⟩) hb _).setCell (a := ⟨b, j, none⟩) hb _).setCell (a := ⟨b, k, none⟩) hb _
theorem Bx.sameB {b : Nat} {vs : List Value} {w w' : World} (h : Bx b vs w) (e : w'.heap[b]? = w.heap[b]?) : Bx b vs w' := fun j v hv =>
  ⟨(World.cell?_of_block (w := w) (a := ⟨b, j, none⟩) e).trans (h j v hv).1, (World.frozen?_of_block (w := w) (a := ⟨b, j, none⟩) e).trans (h j v hv).2⟩
theorem Bx.drewB {b : Nat} {vs : List Value} {w : World} (h : Bx b vs w) : Bx b vs w.drew := h
theorem Bx.other {b : Nat} {vs : List Value} {w : World} (h : Bx b vs w) {p : Addr} (hp : b ≠ p.block) (v : Value) : Bx b vs (w.setCell p v) := fun j u hu =>
  ⟨(World.cell?_of_block (w := w) (a := ⟨b, j, none⟩) (heap_setCell_other w p b v hp)).trans (h j u hu).1, (World.frozen?_of_block (w := w) (a := ⟨b, j, none⟩) (heap_setCell_other w p b v hp)).trans (h j u hu).2⟩
theorem Bx.kps {S : Nat → Prop} {b : Nat} {vs : List Value} {w w' : World} (h : Bx b vs w) (hk : KpS S w w') (hs : ¬ S b) (hl : 0 < vs.length) : Bx b vs w' := by
  obtain ⟨v, hv⟩ : ∃ v, vs[0]? = some v := ⟨_, List.getElem?_eq_getElem hl⟩
  exact hk.bx hs (World.block_lt_of_cell? w ⟨b, 0, none⟩ (h 0 v hv).1) h

set_option maxRecDepth 100000 in
set_option maxHeartbeats 4000000 in
theorem put_any (bf off : Nat) (vs : List Value) (v : Value) (hv : vs[off]? = some v) (L : List I3) (x : I3) (B : Nat) (w : World) (hb : Bx bf vs w) (ho : w.ownsRow B 59 3 v L.length (ints (hl L)))
    (hbv : v.ownBlock ≠ some bf) (hL : L.length ≤ 5000) (hB : B ≤ w.heap.size) (hH : hpI L) :
    Calls Try.prog 43 #[.pointer (some ⟨bf, off, none⟩), vW x] w fun e w' => e = .returned (.tuple #[]) ∧ ∃ v' L', L'.Perm (L ++ [x]) ∧ hpI L' ∧ Bx bf (vs.set off v') w' ∧
      w'.ownsRow B 59 3 v' L'.length (ints (hl L')) ∧ KpS (fun y => y = bf ∨ v.ownBlock = some y) w w' ∧ Moved v v' w := by
  obtain ⟨x1, x2, x3⟩ := x
  obtain ⟨z0, z1⟩ := hb off v hv
  have hbf : bf < w.heap.size := World.block_lt_of_cell? w _ z0
  obtain ⟨wa, hwa⟩ : ∃ wa, w.alloc (.cells #[.int .i64 x1, .int .i64 x2, .int .i64 x3] 59) = wa := ⟨_, rfl⟩
  have hba : Below w.heap.size w wa := by rw [← hwa]; exact bnew _ _
  have hza : w.heap.size < wa.heap.size := by rw [← hwa]; simp
  have j0 : wa.cell? ⟨w.heap.size, 0, none⟩ = some (.int .i64 x1) := by rw [← hwa]; simp [go_sem]
  have j1 : wa.cell? ⟨w.heap.size, 1, none⟩ = some (.int .i64 x2) := by rw [← hwa]; simp [go_sem]
  have j2 : wa.cell? ⟨w.heap.size, 2, none⟩ = some (.int .i64 x3) := by rw [← hwa]; simp [go_sem]
  have y0 := (hba.cell (p := ⟨bf, off, none⟩) hbf).trans z0
  have y1 := (hba.frozen (p := ⟨bf, off, none⟩) hbf).trans z1
  have HO := hide (ownsRow_below' ho hba)
  have HBX := hide (hb.below hba hbf)
  have HKa : Hid (KpS (fun y => y = bf ∨ v.ownBlock = some y) w wa) := KpS.of_below hba
  have ne0 : some bf ≠ v.ownBlock := fun e => hbv e.symm
  have hz0 : ((wa.alloc (.cells #[.int .i64 x1, .int .i64 x2, .int .i64 x3] 59)).drew).cell? ⟨bf, off, none⟩ = some v := ((bnew wa _).drew.cell (p := ⟨bf, off, none⟩) (Nat.lt_trans hbf hza)).trans y0
  have hz1 : ((wa.alloc (.cells #[.int .i64 x1, .int .i64 x2, .int .i64 x3] 59)).drew).frozen? ⟨bf, off, none⟩ = false := ((bnew wa _).drew.frozen (p := ⟨bf, off, none⟩) (Nat.lt_trans hbf hza)).trans y1
  have HUP := hide (upI_start hH (x1, x2, x3))
  have HOLT := hide (owns_lt ho)
  have HNE := hide hbv
  have hBa : B ≤ wa.heap.size := Nat.le_trans hB (Nat.le_of_lt hza)
  have hbfa : bf < wa.heap.size := Nat.lt_trans hbf hza
  obtain ⟨ti, hi1, hi2, hi3, hi4⟩ := infoW
  have HI1 := hide hi1
  have HOF : Hid (vs[off]? = some v) := hv
  have HAB := hide (And.intro hbf (And.intro hza hB))
  clear hb ho hH hbv hv hi1 hB hbf hba z0 z1
  go_enter Try.func43, Try.ntmps43
  go_upto_region 1 with fail
  go_cut [] (fun wc => ∃ gg cap1, Bx bf (vs.set off (.slice (some ⟨gg, 0, none⟩) (L.length + 1) cap1)) wc ∧ wc.ownsRow B 59 3 (.slice (some ⟨gg, 0, none⟩) (L.length + 1) cap1) (L.length + 1) (ints (hl (L ++ [(x1, x2, x3)]))) ∧ KpS (fun y => y = bf ∨ v.ownBlock = some y) w wc ∧ (v.ownBlock = some gg ∨ w.heap.size ≤ gg) ∧ gg ≠ bf)
  case first =>
   go_region_law ((refine step_append_lies _ (by rfl) _ _ _ (by rfl) B 59 ti _ 3 24 Try.underlying52 HI1.out hi2 hi3 hi4 rfl (by omega) v L.length (ints (hl L)) (by rfl) ((HO.out.alloc _).drew) ⟨wa.heap.size, 0, none⟩ 1 1 [.int .i64 x1, .int .i64 x2, .int .i64 x3] (by rfl) (by rfl) (World.news_of_block (cs := #[.int .i64 x1, .int .i64 x2, .int .i64 x3]) (t := 59) (fr := (0, 0)) (heap_alloc_new wa _)) (by simp [Value.oneCell']) (by omega) (by unfold maxLen; omega) (by omega) (by simp; omega) (wa.heap.size + 1) (by simp) ?_; intro gg cap1 w1 hown1 hgrow hat hlt1; have hcz : w1.cell? ⟨bf, off, none⟩ = some v := (hgrow.cell_far ⟨bf, off, none⟩ (by simp; omega) ne0).trans hz0; have hfz : w1.frozen? ⟨bf, off, none⟩ = false := (World.frozen?_of_block (a := ⟨bf, off, none⟩) (hgrow.block bf (by simp; omega) ne0)).trans hz1))
   all_goals
    have e1 : w1.heap[bf]? = wa.heap[bf]? := (hgrow.block bf (by simp [World.drew]; omega) ne0).trans ((bnew wa _).block bf hbfa)
    have hgb : gg ≠ bf := fun e => by
      rcases hat with h | h
      · exact HNE.out (by rw [h, e])
      · omega
    have HX1 := hide ((HBX.out.sameB e1).set off (.slice (some ⟨gg, 0, none⟩) (L.length + 1) cap1))
    have HO1 : Hid ((w1.setCell ⟨bf, off, none⟩ (.slice (some ⟨gg, 0, none⟩) (L.length + 1) cap1)).ownsRow B 59 3 (.slice (some ⟨gg, 0, none⟩) (L.length + 1) cap1) (L.length + 1) (ints (hl (L ++ [(x1, x2, x3)])))) := by
      show World.ownsRow _ _ _ _ _ _ _
      rw [hl_app, ints_append]
      exact ownsRow_setCell_other hown1 (a := ⟨bf, off, none⟩) (fun h => hgb (by cases h; rfl)) _
    have HK1 : Hid (KpS (fun y => y = bf ∨ v.ownBlock = some y) w (w1.setCell ⟨bf, off, none⟩ (.slice (some ⟨gg, 0, none⟩) (L.length + 1) cap1))) := ((HKa.out.next (bnew wa _).drew).grown hgrow (fun q hq => .inr hq)).setCell (a := ⟨bf, off, none⟩) (.inl rfl) _
    have HG1 : Hid (v.ownBlock = some gg ∨ w.heap.size ≤ gg) := by
      rcases hat with h | h
      · exact .inl h
      · exact .inr (by omega)
    have HGB := hide hgb
    clear hown1 hgrow hat hlt1 hcz hfz e1 hgb
    go_wp2_with fail
    go_meet
    exact ⟨gg, cap1, HX1.out, HO1.out, HK1.out, HG1.out, HGB.out⟩
  case rest =>
  obtain ⟨gg, cap1, hx1, ho1, hk1, hg1, hgb⟩ := hcut
  have HX1 := hide hx1
  have HO1 := hide ho1
  have HK1 := hide hk1
  have HG1 := hide hg1
  have HGB := hide hgb
  have hv1 : (vs.set off (.slice (some ⟨gg, 0, none⟩) (L.length + 1) cap1))[off]? = some (.slice (some ⟨gg, 0, none⟩) (L.length + 1) cap1) := by
    rw [List.getElem?_set_self ((List.getElem?_eq_some_iff.1 HOF.out).1)]
  have HV1 := hide hv1
  have z0 := (hx1 off _ hv1).1
  clear hx1 ho1 hk1 hg1 hgb HO HBX HKa hz0 hz1 y0 y1 hi2 hi3 hi4 HI1 j0 j1 j2 hwa hBa hbfa ne0 hv1 hza
  have hn4 : L.length ≤ 5000 := hL
  go_wp2_with fail
  clear z0
  go_loopw [4, 5] (fun a _ wr => ∃ (A : Nat) (M : List I3), a = .int .i64 A ∧ A < M.length ∧ M.length = L.length + 1 ∧ M.Perm (L ++ [(x1, x2, x3)]) ∧ upI M A ∧ Bx bf (vs.set off (.slice (some ⟨gg, 0, none⟩) (L.length + 1) cap1)) wr ∧ wr.ownsRow B 59 3 (.slice (some ⟨gg, 0, none⟩) (L.length + 1) cap1) (L.length + 1) (ints (hl M)) ∧ KpS (fun y => y = bf ∨ v.ownBlock = some y) w wr) (fun a _ _ => (intOf a).toNat)
  case atStart => exact ⟨L.length, L ++ [(x1, x2, x3)], by first | rfl | simp, by simp, by simp, List.Perm.refl _, HUP.out, HX1.out, HO1.out, HK1.out⟩
  case round =>
    obtain ⟨A, M, rfl, hA, hML, hP, hU, hX, hO, hK⟩ := hrel
    clear HX1 HO1 HK1
    have z0 := (hX off _ HV1.out).1
    have HX := hide hX
    have HO := hide hO
    have HK := hide hK
    have HP := hide hP
    have HU := hide hU
    have HML := hide hML
    clear hX hO hK hP hU hML
    have hA4 : A ≤ 5000 := by have := HML.out; omega
    have SK : Nonempty (Up wr) := up_ne wr
    have p0 := fun p : Up wr => p.cell z0
    have HO' : Hid (wr.ownsRow B 59 3 (.slice (some ⟨gg, 0, none⟩) (L.length + 1) cap1) M.length (ints (hl M))) := by
      show World.ownsRow _ _ _ _ _ _ _
      rw [HML.out]; exact HO.out
    obtain ⟨bx, cx, e, -, hBg, hgw, hcell⟩ := own_itm HO'.out (by omega)
    have e9 : gg = bx := Option.some.inj (congrArg Value.ownBlock e)
    subst e9
    clear e
    by_cases h0 : A = 0
    · subst h0
      have HE := hide (upI_end HU.out (.inl rfl))
      clear hcell hBg hgw
      go_upto_region 3 with fail
      refine region_up (by kernel_rfl) (by kernel_rfl) ?_
      repeat (go_big_quiet_step (exact rfl))
      refine wpQuiet_nil ?_
      intro _ hw2
      obtain ⟨pq, hw3⟩ := hw2
      subst hw3
      have HX2 : Hid (Bx bf (vs.set off (.slice (some ⟨gg, 0, none⟩) (L.length + 1) cap1)) pq.w) := HX.out.below pq.below (World.block_lt_of_cell? wr ⟨bf, off, none⟩ z0)
      have HO2 := hide (ownsRow_below' HO'.out pq.below)
      have HK2 := hide (HK.out.next pq.below)
      clear p0 SK z0
      generalize pq.w = w2 at *
      go_wp2_with fail
      go_end0
      exact ⟨rfl, _, M, HP.out, HE.out, HX2.out, HO2.out, HK2.out, fun b hb => by cases hb; exact HG1.out⟩
    · obtain ⟨P, hP⟩ : ∃ P, (A - 1) / 2 = P := ⟨_, rfl⟩
      have hPA : P < A := by omega
      have q1 : ((A : Int) - 1) / 2 = (P : Int) := by omega
      have q2 : ((A : Int) - 1).tdiv 2 = (P : Int) := by rw [Int.tdiv_eq_ediv_of_nonneg (by omega)]; exact q1
      have hA0 : 0 < A := by omega
      obtain ⟨⟨a0, a1, a2⟩, fa0, fa1, fa2⟩ := hcell A hA
      obtain ⟨⟨b0, b1, b2⟩, fb0, fb1, fb2⟩ := hcell P (by omega)
      have hPl : (P : Int) < ((L.length + 1 : Nat) : Int) := by have := HML.out; omega
      have hAl : (A : Int) < ((L.length + 1 : Nat) : Int) := by have := HML.out; omega
      have cB := fun w' => before_any (gI M A) (gI M P) w'
      have HEnd := hide (fun h => upI_end (L := M) (a := A) HU.out (.inr (by rw [hP]; exact h)))
      have HStep := hide (fun h => upI_step (L := M) (a := A) HU.out hA0 hA (by rw [hP]; exact h))
      rw [hP] at HStep
      have HSw := hide (fun (w' : World) (h : w'.ownsRow B 59 3 (.slice (some ⟨gg, 0, none⟩) (L.length + 1) cap1) (L.length + 1) (ints (hl M))) => own_set3 (own_set3 h (k := A) hA (gI M P)) (k := P) (by simp; omega) (gI M A))
      have HSw2 := hide (fun (w' : World) (h : w'.ownsRow B 59 3 (.slice (some ⟨gg, 0, none⟩) (L.length + 1) cap1) (L.length + 1) (ints (hl M))) => own_set3 (own_set3 h (k := P) (by omega) (gI M A)) (k := A) (by simpa using hA) (gI M P))
      have HCm : Hid ((M.set P (gI M A)).set A (gI M P) = (M.set A (gI M P)).set P (gI M A)) := List.set_comm _ _ (by omega)
      have HSp := hide (swI_perm (L := M) (i := A) (j := P) hA (by omega))
      have HSl := hide (swI_len M A P)
      have HPM : Hid (P < M.length ∧ M.length = L.length + 1) := ⟨by omega, HML.out⟩
      unfold swI at HStep HSp HSl
      clear hcell hBg hgw hA
      generalize hga : gI M A = X at *
      generalize hgp : gI M P = Y at *
      obtain ⟨X1, X2, X3⟩ := X
      obtain ⟨Y1, Y2, Y3⟩ := Y
      clear hga hgp
      have r0 := fun p : Up wr => p.cell a0
      have r1 := fun p : Up wr => p.cell a1
      have r2 := fun p : Up wr => p.cell a2
      have r3 := fun p : Up wr => p.cell b0
      have r4 := fun p : Up wr => p.cell b1
      have r5 := fun p : Up wr => p.cell b2
      have mW := metW X1 X2 X3
      have nW := nilW X1 X2 X3
      go_upto_region 3 with fail
      by_cases hbq : bfI (X1, X2, X3) (Y1, Y2, Y3)
      · rw [decide_eq_true hbq] at cB
        have HSt := hide (HStep.out hbq)
        clear HEnd HStep hbq
        refine region_up (by kernel_rfl) (by kernel_rfl) ?_
        repeat (go_big_quiet_step (first | exact rfl | (go_at_call 68; exact calls_up (cB _))))
        refine wpQuiet_nil ?_
        intro _ hw2
        obtain ⟨pq, hw3⟩ := hw2
        subst hw3
        have HX2 : Hid (Bx bf (vs.set off (.slice (some ⟨gg, 0, none⟩) (L.length + 1) cap1)) pq.w) := HX.out.below pq.below (World.block_lt_of_cell? wr ⟨bf, off, none⟩ z0)
        have HO2 := hide (ownsRow_below' HO.out pq.below)
        have HK2 := hide (HK.out.next pq.below)
        have z0 := pq.cell z0
        have a0 := pq.cell a0
        have a1 := pq.cell a1
        have a2 := pq.cell a2
        have b0 := pq.cell b0
        have b1 := pq.cell b1
        have b2 := pq.cell b2
        have hgl := World.block_lt_of_cell? wr ⟨gg, A * 3, none⟩ (by assumption)
        have fa0 := (pq.below.frozen (p := ⟨gg, A * 3, none⟩) hgl).trans fa0
        have fa1 := (pq.below.frozen (p := ⟨gg, A * 3 + 1, none⟩) hgl).trans fa1
        have fa2 := (pq.below.frozen (p := ⟨gg, A * 3 + 2, none⟩) hgl).trans fa2
        have fb0 := (pq.below.frozen (p := ⟨gg, P * 3, none⟩) hgl).trans fb0
        have fb1 := (pq.below.frozen (p := ⟨gg, P * 3 + 1, none⟩) hgl).trans fb1
        have fb2 := (pq.below.frozen (p := ⟨gg, P * 3 + 2, none⟩) hgl).trans fb2
        clear p0 r0 r1 r2 r3 r4 r5 SK cB mW nW hgl
        generalize pq.w = w2 at *
        have HSa := hide (HSw.out w2 HO2.out)
        have HSb := hide (HSw2.out w2 HO2.out)
        rw [HCm.out] at HSb
        have S1 : ∀ y, y = bf ∨ v.ownBlock = some y → True := fun _ _ => trivial
        have HGS : Hid (gg = bf ∨ v.ownBlock = some gg ∨ w.heap.size ≤ gg) := .inr HG1.out
        have HXo : Hid (∀ (i j : Nat) (x y z x' y' z' : Value), Bx bf (vs.set off (.slice (some ⟨gg, 0, none⟩) (L.length + 1) cap1)) ((((((w2.setCell ⟨gg, i * 3, none⟩ x).setCell ⟨gg, i * 3 + 1, none⟩ y).setCell ⟨gg, i * 3 + 2, none⟩ z).setCell ⟨gg, j * 3, none⟩ x').setCell ⟨gg, j * 3 + 1, none⟩ y').setCell ⟨gg, j * 3 + 2, none⟩ z')) := fun i j x y z x' y' z' =>
          (((((HX2.out.other (p := ⟨gg, i * 3, none⟩) HGB.out.symm x).other (p := ⟨gg, i * 3 + 1, none⟩) HGB.out.symm y).other (p := ⟨gg, i * 3 + 2, none⟩) HGB.out.symm z).other (p := ⟨gg, j * 3, none⟩) HGB.out.symm x').other (p := ⟨gg, j * 3 + 1, none⟩) HGB.out.symm y').other (p := ⟨gg, j * 3 + 2, none⟩) HGB.out.symm z'
        have HKo : Hid (∀ (i j : Nat) (x y z x' y' z' : Value), KpS (fun y => y = bf ∨ v.ownBlock = some y) w ((((((w2.setCell ⟨gg, i * 3, none⟩ x).setCell ⟨gg, i * 3 + 1, none⟩ y).setCell ⟨gg, i * 3 + 2, none⟩ z).setCell ⟨gg, j * 3, none⟩ x').setCell ⟨gg, j * 3 + 1, none⟩ y').setCell ⟨gg, j * 3 + 2, none⟩ z')) := fun i j x y z x' y' z' => by
          have h : KpS (fun y => y = bf ∨ v.ownBlock = some y ∨ w.heap.size ≤ y) w w2 := ⟨HK2.out.os, HK2.out.tape, HK2.out.output, HK2.out.size, fun b hb hs => HK2.out.block b hb (fun h => hs (h.imp id .inl))⟩
          have k := (h.set3 (b := gg) (.inr HG1.out) (i * 3) (i * 3 + 1) (i * 3 + 2) x y z).set3 (b := gg) (.inr HG1.out) (j * 3) (j * 3 + 1) (j * 3 + 2) x' y' z'
          exact ⟨k.os, k.tape, k.output, k.size, fun b hb hs => k.block b hb (fun h => by
            rcases h with h | h | h
            · exact hs (.inl h)
            · exact hs (.inr h)
            · omega)⟩
        have HX9 : Hid (Bx bf (vs.set off (.slice (some ⟨gg, 0, none⟩) (L.length + 1) cap1)) (((((((w2.setCell ⟨gg, A * 3, none⟩ (.int .i64 Y1)).setCell ⟨gg, A * 3 + 1, none⟩ (.int .i64 Y2)).setCell ⟨gg, A * 3 + 2, none⟩ (.int .i64 Y3)).setCell ⟨gg, P * 3, none⟩ (.int .i64 X1)).setCell ⟨gg, P * 3 + 1, none⟩ (.int .i64 X2)).setCell ⟨gg, P * 3 + 2, none⟩ (.int .i64 X3)).drew)) := (HXo.out A P _ _ _ _ _ _).drewB
        have HS9 : Hid ((((((((w2.setCell ⟨gg, A * 3, none⟩ (.int .i64 Y1)).setCell ⟨gg, A * 3 + 1, none⟩ (.int .i64 Y2)).setCell ⟨gg, A * 3 + 2, none⟩ (.int .i64 Y3)).setCell ⟨gg, P * 3, none⟩ (.int .i64 X1)).setCell ⟨gg, P * 3 + 1, none⟩ (.int .i64 X2)).setCell ⟨gg, P * 3 + 2, none⟩ (.int .i64 X3)).drew).ownsRow B 59 3 (.slice (some ⟨gg, 0, none⟩) (L.length + 1) cap1) (L.length + 1) (ints (hl ((M.set A (Y1, Y2, Y3)).set P (X1, X2, X3))))) := ownsRow_below' HSa.out (Below.refl _ _).drew
        have HK9 : Hid (KpS (fun y => y = bf ∨ v.ownBlock = some y) w (((((((w2.setCell ⟨gg, A * 3, none⟩ (.int .i64 Y1)).setCell ⟨gg, A * 3 + 1, none⟩ (.int .i64 Y2)).setCell ⟨gg, A * 3 + 2, none⟩ (.int .i64 Y3)).setCell ⟨gg, P * 3, none⟩ (.int .i64 X1)).setCell ⟨gg, P * 3 + 1, none⟩ (.int .i64 X2)).setCell ⟨gg, P * 3 + 2, none⟩ (.int .i64 X3)).drew)) := (HKo.out A P _ _ _ _ _ _).drew
        clear HX2 HK2 HX HO HK HO' S1 HGS HXo HKo HSa HSb
        go_upto_region 5 with fail
        go_region
        all_goals
          clear z0 a0 a1 a2 b0 b1 b2 fa0 fa1 fa2 fb0 fb1 fb2
          go_wp2_with fail
          go_roundw
          case rel => exact ⟨P, (M.set A (Y1, Y2, Y3)).set P (X1, X2, X3), rfl, by simpa using HPM.out.1, by simpa using HPM.out.2, HSp.out.trans HP.out, HSt.out, HX9.out, HS9.out, HK9.out⟩
          case measure => simp [intOf]; omega
      · have HE := hide (HEnd.out hbq)
        rw [decide_eq_false hbq] at cB
        clear HEnd HStep hbq
        refine region_up (by kernel_rfl) (by kernel_rfl) ?_
        repeat (go_big_quiet_step (first | exact rfl | (go_at_call 68; exact calls_up (cB _))))
        refine wpQuiet_nil ?_
        intro _ hw2
        obtain ⟨pq, hw3⟩ := hw2
        subst hw3
        have HX2 : Hid (Bx bf (vs.set off (.slice (some ⟨gg, 0, none⟩) (L.length + 1) cap1)) pq.w) := HX.out.below pq.below (World.block_lt_of_cell? wr ⟨bf, off, none⟩ z0)
        have HO2 := hide (ownsRow_below' HO'.out pq.below)
        have HK2 := hide (HK.out.next pq.below)
        clear p0 r0 r1 r2 r3 r4 r5 SK cB mW nW z0
        generalize pq.w = w2 at *
        go_wp2_with fail
        go_end0
        exact ⟨rfl, _, M, HP.out, HE.out, HX2.out, HO2.out, HK2.out, fun b hb => by cases hb; exact HG1.out⟩

end Go.Proofs.Ytekoioggamhlaaa

/- Draws of patients. -/
import Derived.Test.YtlailkoikcjecaaDpg
import Derived.Test.YtlailkoikcjecaaPat
import Derived.Test.YtlailkoikcjecaaUpd
import Derived.Deep.DeepCutAuto
namespace Go.Proofs.Ytlailkoikcjecaa
open Go.RowKit

theorem Kept.setNew' {p : Nat} {w w' : World} (h : Kept p w w') {a : Addr} (ha : w.heap.size ≤ a.block) (v : Value) : Kept p w (w'.setCell a v) :=
  ⟨h.os, h.tape, h.output, by simpa using h.size, fun k hk hk2 => (Below.heap_setCell w' a v k (by omega)).trans (h.block k hk hk2)⟩
theorem Cur.setFar {p : Nat} {a : Option Addr} {len cap : Nat} {w : World} (h : Cur p a len cap w) {B : Nat} {q : Addr} (hq : B ≤ q.block) (hp : p < B) (hab : len = 0 ∨ ∀ b off, a = some ⟨b, off, none⟩ → b < B) (v : Value) : Cur p a len cap (w.setCell q v) := by
  have hb : Below B w (w.setCell q v) := (Below.refl _ _).setCell hq _
  exact h.belowB hb hp hab

set_option maxRecDepth 100000 in
theorem infoPt : ∃ i, Try.prog.info? 31 = some i ∧ i.zero = some (vPatient 0 0 0 0) ∧ i.size = 4 ∧ i.bytes = 32 := ⟨_, rfl, rfl, rfl, rfl⟩

/-- a patient is appended to a list of the call's own -/
theorem growPt (w : World) {ops : Array Oper} {rest : List Oper} {o : Oper} {a : Act} {Q : Exit → Act → World → Prop} (hgd : o.guard = none) (s x : Operand)
    (ho : o.op = .call { callee := .builtin .append, args := #[s, x], argTypes := #[24, 24] }) (B : Nat) (v : Value) (n : Nat) (L : List Int) (hs : a.eval s = v) (w0 : World) (hown : w.ownsRow B 31 4 v n (ints L))
    (hb : Below B w0 w) (hB : B ≤ w.heap.size) (x0 x1 x2 x3 : Int) (hx : a.eval x = .slice (some ⟨w.heap.size, 0, none⟩) 1 1) (hn : n ≤ 1048576)
    (h : ∀ v' w', w'.ownsRow B 31 4 v' (n + 1) (ints (L ++ [x0, x1, x2, x3])) → Below B w0 w' → w.heap.size < w'.heap.size → wpList Try.prog ops Q rest (a.put o.dst v') w') :
    wpList Try.prog ops Q (o :: rest) a (w.alloc (.cells #[.int .i64 x0, .int .i64 x1, .int .i64 x2, .int .i64 x3] 31)) := by
  obtain ⟨ti, hi1, hi2, hi3, hi4⟩ := infoPt
  exact grow w hgd s x 24 ho B 31 ti (vPatient 0 0 0 0) 4 32 Try.underlying24 hi1 hi2 hi3 hi4 rfl (by omega) v n L hs w0 hown hb hB [x0, x1, x2, x3] 1 1 hx rfl (by unfold maxLen; omega) (by omega) h

theorem own_setG {w : World} {B n b cap m : Nat} {e : TypeId} {L : List Int} (h : w.ownsRow B e m (.slice (some ⟨b, 0, none⟩) n cap) n (ints L)) (k : Nat) (z : Int) :
    (w.setCell ⟨b, k, none⟩ (.int .i64 z)).ownsRow B e m (.slice (some ⟨b, 0, none⟩) n cap) n (ints (L.set k z)) := by
  obtain ⟨h1, h2⟩ := h
  refine ⟨by rw [ints_length] at h1 ⊢; rw [List.length_set]; exact h1, ?_⟩
  rcases h2 with ⟨hv, _⟩ | ⟨b', cap', cur, hv, hB, hh, hn, hc, hs, ht⟩
  · cases hv
  · cases hv
    refine .inr ⟨b, cap, cur.setIfInBounds k (.int .i64 z), rfl, hB, ?_, hn, hc, by rw [Array.size_setIfInBounds]; exact hs, ?_⟩
    · rw [heap_setCell_same w b k cur e _ hh]
    · rw [Array.toList_setIfInBounds, List.take_set, ht]
      unfold ints
      rw [List.map_set]

/-- a list of patients that is drawn: its cells -/
structure PL (p : Nat) (a : Option Addr) (len cap : Nat) (w : World) (v : Value) (m : Nat) (L : List Int) (wr : World) : Prop where
  own : wr.ownsRow w.heap.size 31 4 v m (ints L)
  cur : Cur p a len cap wr
  kept : Kept p w wr
theorem PL.len {p : Nat} {a : Option Addr} {len cap : Nat} {w : World} {v : Value} {m : Nat} {L : List Int} {wr : World} (h : PL p a len cap w v m L wr) : L.length = m * 4 := by
  have := h.own.1; rw [ints_length] at this; omega
theorem PL.next {p : Nat} {a : Option Addr} {len cap : Nat} {w : World} {v : Value} {m : Nat} {L : List Int} {wr w' : World} (h : PL p a len cap w v m L wr) (hp : p < w.heap.size) (hc : Cur p a len cap w') (hk : Kept p wr w') : PL p a len cap w v m L w' :=
  ⟨owns_kept h.own hk hp, hc, h.kept.trans hk⟩
theorem PL.form {p : Nat} {a : Option Addr} {len cap : Nat} {w : World} {v : Value} {m : Nat} {L : List Int} {wr : World} (h : PL p a len cap w v m L wr) (hm : m ≠ 0) :
    ∃ b cp, v = .slice (some ⟨b, 0, none⟩) m cp ∧ w.heap.size ≤ b ∧ ∀ k, k < m * 4 → (∃ z, wr.cell? ⟨b, k, none⟩ = some (.int .i64 z)) ∧ wr.frozen? ⟨b, k, none⟩ = false := by
  have hl := h.len
  have h0 := h.own
  obtain ⟨hlen, hv | ⟨b, cp, cur, hv, hg, hcur, _, hm2, _, _⟩⟩ := h.own
  · exact absurd hv.2 hm
  · subst hv
    refine ⟨b, cp, rfl, hg, fun k hk => ⟨⟨L.getD k 0, ?_⟩, h0.frozenAt k⟩⟩
    rw [h0.cellAt k hk, ints_at _ _ (by omega)]
theorem PL.isl {p : Nat} {a : Option Addr} {len cap : Nat} {w : World} {v : Value} {m : Nat} {L : List Int} {wr : World} (h : PL p a len cap w v m L wr) : ∃ ad cp, v = .slice ad m cp := by
  obtain ⟨_, hv | ⟨b, cp, _, hv, _⟩⟩ := h.own
  · exact ⟨none, 0, by rw [hv.1, hv.2]⟩
  · exact ⟨_, cp, hv⟩
theorem PL.set {p : Nat} {a : Option Addr} {len cap : Nat} {w : World} {m : Nat} {L : List Int} {wr : World} {b cp : Nat} (h : PL p a len cap w (.slice (some ⟨b, 0, none⟩) m cp) m L wr) (hp : p < w.heap.size) (hab : len = 0 ∨ ∀ b off, a = some ⟨b, off, none⟩ → b < w.heap.size) (hb : w.heap.size ≤ b) (k : Nat) (z : Int) :
    PL p a len cap w (.slice (some ⟨b, 0, none⟩) m cp) m (L.set k z) (wr.setCell ⟨b, k, none⟩ (.int .i64 z)) :=
  ⟨own_setG h.own k z, h.cur.setFar (q := ⟨b, k, none⟩) hb hp hab _, h.kept.setNew' (a := ⟨b, k, none⟩) hb _⟩

set_option maxRecDepth 100000 in
set_option maxHeartbeats 1000000 in
theorem drawPatient_any (p : Nat) (a : Option Addr) (len cap : Nat) (w : World) (h : Cur p a len cap w) (hp : p < w.heap.size) (hab : len = 0 ∨ ∀ b off, a = some ⟨b, off, none⟩ → b < w.heap.size) (i : Int) :
    Calls Try.prog 22 #[.pointer (some ⟨p, 0, none⟩), .int .i64 i] w fun e w' => ∃ x1 x2 x3, e = .returned (vPatient i x1 x2 x3) ∧ Cur p a len cap w' ∧ Kept p w w' := by
  have hb0 := bnew w (cPatient 0 0 0 0 31)
  have HX0 : Hid (Bx w.heap.size [.int .i64 0, .int .i64 0, .int .i64 0, .int .i64 0] (w.alloc (cPatient 0 0 0 0 31))) := Bx.new [.int .i64 0, .int .i64 0, .int .i64 0, .int .i64 0] 31 w
  have HK0 := hide (Kept.of_below (p := p) hb0)
  have c1 := below_any p a len cap _ (h.below hb0) 3 (by omega) (by omega)
  have hne : w.heap.size ≠ p := by omega
  clear h hb0
  go_enter Try.func22, Try.ntmps22
  go_wp2_with fail
  refine c1.mono ?_
  rintro e w1 ⟨x1, rfl, -, -, hc, hk⟩
  have HX1 := hide (HX0.out.kept hk hne)
  have HK1 := hide (HK0.out.trans hk)
  have c2 := below_any p a len cap _ hc 3 (by omega) (by omega)
  clear c1 hc hk HX0 HK0
  go_wp2_with fail
  refine c2.mono ?_
  rintro e w2 ⟨x2, rfl, -, -, hc, hk⟩
  have HX2 := hide (HX1.out.kept hk hne)
  have HK2 := hide (HK1.out.trans hk)
  have c3 := below_any p a len cap _ hc 4 (by omega) (by omega)
  clear c2 hc hk HX1 HK1
  go_wp2_with fail
  refine c3.mono ?_
  rintro e w3 ⟨x3, rfl, -, -, hc, hk⟩
  have HX3 := hide (HX2.out.kept hk hne)
  have HK3 := hide (HK2.out.trans hk)
  have HC3 := hide hc
  clear c3 hc hk HX2 HK2
  obtain ⟨z0, f0⟩ := HX3.out 0 _ rfl
  obtain ⟨z1, f1⟩ := HX3.out 1 _ rfl
  obtain ⟨z2, f2⟩ := HX3.out 2 _ rfl
  obtain ⟨z3, f3⟩ := HX3.out 3 _ rfl
  have HE : Hid (∀ v0 v1 v2 v3, Cur p a len cap ((((w3.setCell ⟨w.heap.size, 0, none⟩ v0).setCell ⟨w.heap.size, 1, none⟩ v1).setCell ⟨w.heap.size, 2, none⟩ v2).setCell ⟨w.heap.size, 3, none⟩ v3) ∧ Kept p w ((((w3.setCell ⟨w.heap.size, 0, none⟩ v0).setCell ⟨w.heap.size, 1, none⟩ v1).setCell ⟨w.heap.size, 2, none⟩ v2).setCell ⟨w.heap.size, 3, none⟩ v3)) := fun v0 v1 v2 v3 =>
    ⟨(((HC3.out.setFar (q := ⟨w.heap.size, 0, none⟩) (Nat.le_refl _) hp hab v0).setFar (q := ⟨w.heap.size, 1, none⟩) (Nat.le_refl _) hp hab v1).setFar (q := ⟨w.heap.size, 2, none⟩) (Nat.le_refl _) hp hab v2).setFar (q := ⟨w.heap.size, 3, none⟩) (Nat.le_refl _) hp hab v3,
      (((HK3.out.setNew' (a := ⟨w.heap.size, 0, none⟩) (Nat.le_refl _) v0).setNew' (a := ⟨w.heap.size, 1, none⟩) (Nat.le_refl _) v1).setNew' (a := ⟨w.heap.size, 2, none⟩) (Nat.le_refl _) v2).setNew' (a := ⟨w.heap.size, 3, none⟩) (Nat.le_refl _) v3⟩
  clear HC3 HK3
  go_wp2_with fail
  exact bodyPost_ret (v := vPatient i x1 x2 x3) (by simp [results, Try.results22, go_sem, z0, z1, z2, z3]) rfl ⟨x1, x2, x3, rfl, HE.out _ _ _ _⟩

theorem lit4 {w : World} {x0 x1 x2 x3 : Int} (Y : Nat) (h : Y < 4) : ∃ z : Int, (w.alloc (.cells #[.int .i64 x0, .int .i64 x1, .int .i64 x2, .int .i64 x3] 2)).cell? ⟨w.heap.size, Y, none⟩ = some (.int .i64 z) := by
  have : Y = 0 ∨ Y = 1 ∨ Y = 2 ∨ Y = 3 := by omega
  rcases this with rfl | rfl | rfl | rfl <;> exact ⟨_, by simp [go_sem]; rfl⟩
theorem lit3 {w : World} {x0 x1 x2 : Int} (Y : Nat) (h : Y < 3) : ∃ z : Int, (w.alloc (.cells #[.int .i64 x0, .int .i64 x1, .int .i64 x2] 2)).cell? ⟨w.heap.size, Y, none⟩ = some (.int .i64 z) := by
  have : Y = 0 ∨ Y = 1 ∨ Y = 2 := by omega
  rcases this with rfl | rfl | rfl <;> exact ⟨_, by simp [go_sem]; rfl⟩
theorem lit2 {w : World} {x0 x1 : Int} (Y : Nat) (h : Y < 2) : ∃ z : Int, (w.alloc (.cells #[.int .i64 x0, .int .i64 x1] 2)).cell? ⟨w.heap.size, Y, none⟩ = some (.int .i64 z) := by
  have : Y = 0 ∨ Y = 1 := by omega
  rcases this with rfl | rfl <;> exact ⟨_, by simp [go_sem]; rfl⟩

set_option maxRecDepth 100000 in
set_option maxHeartbeats 4000000 in
theorem drawPatients_any (p : Nat) (a : Option Addr) (len cap : Nat) (w : World) (h : Cur p a len cap w) (hp : p < w.heap.size) (hab : len = 0 ∨ ∀ b off, a = some ⟨b, off, none⟩ → b < w.heap.size) :
    Calls Try.prog 11 #[.pointer (some ⟨p, 0, none⟩)] w fun e w' => ∃ v m L, e = .returned v ∧ m ≤ 201 ∧ PL p a len cap w v m L w' := by
  have HAB := hide hab
  have hb0 := bnew w (.cells #[] 31)
  have HP0 : Hid (PL p a len cap w (.slice (some ⟨w.heap.size, 0, none⟩) 0 0) 0 [] (w.alloc (.cells #[] 31))) := ⟨World.ownsRow_lit w #[] 0 (Nat.le_refl _) (by unfold maxLen; omega) rfl, h.below hb0, Kept.of_below hb0⟩
  clear h hab hb0
  go_enter Try.func11, Try.ntmps11
  go_upto_region 2 with fail
  generalize hw1 : w.alloc (.cells #[] 31) = w1 at *
  clear hw1
  have c30 := below_any p a len cap _ HP0.out.cur 30 (by omega) (by omega)
  go_wp2_with fail
  refine c30.mono ?_
  rintro e w2 ⟨y, rfl, y0, y1, hc, hk⟩
  obtain ⟨Y, rfl⟩ : ∃ Y : Nat, y = Y := ⟨y.toNat, by omega⟩
  have HP2 := hide (HP0.out.next hp hc hk)
  clear c30 hc hk HP0
  go_wp2_with fail
  go_loopw [3, 4] (fun s i wr => ∃ (v : Value) (m j : Nat) (L : List Int), v = s ∧ m + j ≤ 29 ∧ i = .int .i64 j ∧ PL p a len cap w v m L wr) (fun _ i _ => (intOf i).toNat)
  case atStart => exact ⟨_, 0, Y, [], rfl, by omega, rfl, HP2.out⟩
  case round =>
    obtain ⟨v, m, j, L, rfl, hmj, rfl, hP⟩ := hrel
    have HP := hide hP
    clear hP HP2
    by_cases hj : 0 < j
    · obtain ⟨ad, cp, rfl⟩ := HP.out.isl
      have c1 := drawPatient_any p a len cap _ HP.out.cur (Nat.lt_of_lt_of_le hp HP.out.kept.size) (HAB.out.imp id fun h b off e => Nat.lt_of_lt_of_le (h b off e) HP.out.kept.size) (m : Int)
      go_wp2_with fail
      refine c1.mono ?_
      rintro e w3 ⟨x1, x2, x3, rfl, hc, hk⟩
      have HP3 := hide (HP.out.next hp hc hk)
      have HS3 := hide HP3.out.kept.size
      clear c1 hc hk HP
      obtain ⟨v0, hv0⟩ : ∃ v0, v0 = Value.slice ad m cp := ⟨_, rfl⟩
      rw [← hv0] at HP3
      rw [← hv0]
      clear hv0
      go_wp2_with (refine growPt _ rfl _ _ rfl w.heap.size v0 m L rfl w3 HP3.out.own (Below.refl _ _) HS3.out m x1 x2 x3 rfl (by omega) ?_)
      intro v' w' ho' hb' hs'
      have HP8 : Hid (PL p a len cap w v' (m + 1) (L ++ [(m : Int), x1, x2, x3]) w') := ⟨ho', HP3.out.cur.belowB hb' hp HAB.out, HP3.out.kept.belowB hb' (Nat.le_refl _)⟩
      clear ho' hb' hs' HP3 HS3
      go_wp2_with fail
      exact ⟨⟨v', m + 1, j - 1, _, rfl, by omega, by congr 1; omega, HP8.out⟩, by simp [intOf]; omega⟩
    · obtain rfl : j = 0 := by omega
      have hm : m ≤ 29 := by omega
      clear hmj hj
      have HPa := HP
      go_upto_region 6 with fail
      go_cut [3, 26] (fun s t wc => ∃ (v : Value) (q : Bool), v = s ∧ t = .bool q ∧ (q = true → m ≠ 0) ∧ PL p a len cap w v m L wc)
      case first =>
        have c := once_any p a len cap _ HP.out.cur 20 (by omega) (by omega)
        go_wp2_with fail
        refine c.mono ?_
        rintro e w3 ⟨q, rfl, hc, hk⟩
        have HP3 := hide (HP.out.next hp hc hk)
        clear c hc hk HP HPa
        obtain ⟨ad, cp, rfl⟩ := HP3.out.isl
        cases q
        · go_wp2_with fail
          go_meet
          exact ⟨_, _, rfl, rfl, by simp, HP3.out⟩
        · go_wp2_with fail
          go_meet
          exact ⟨_, _, rfl, rfl, by simp; omega, HP3.out⟩
      case rest =>
        obtain ⟨v2, q, rfl, rfl, hq, hP⟩ := hcut
        have HP := hide hP
        have HQ := hide hq
        clear hP hq HPa
        go_upto_if 26 with fail
        go_cut [3] (fun s wc => ∃ (v : Value) (L' : List Int), v = s ∧ PL p a len cap w v m L' wc)
        case first =>
          cases q
          · go_wp2_with fail
            go_meet
            exact ⟨_, _, rfl, HP.out⟩
          · have hm0 := HQ.out rfl
            obtain ⟨b, cp, rfl, -, -⟩ := HP.out.form hm0
            have c := below_any p a len cap _ HP.out.cur (m : Int) (by omega) (by omega)
            go_wp2_with fail
            refine c.mono ?_
            rintro e w3 ⟨y, rfl, g0, g1, hc, hk⟩
            obtain ⟨K, rfl⟩ : ∃ K : Nat, y = K := ⟨y.toNat, by omega⟩
            have hK : K < m := by omega
            have HP3 := hide (HP.out.next hp hc hk)
            clear c hc hk HP HQ g0 g1
            have c := below_any p a len cap _ HP3.out.cur 4 (by omega) (by omega)
            go_wp2_with fail
            refine c.mono ?_
            rintro e w4 ⟨y, rfl, g0, g1, hc, hk⟩
            have HP4 := hide (HP3.out.next hp hc hk)
            clear c hc hk HP3
            have ht : y = 0 ∨ y = 1 ∨ y = 2 ∨ y = 3 := by omega
            clear g0 g1
            rcases ht with rfl | rfl | rfl | rfl
            · have hb5 := bnew w4 (.cells #[.int .i64 (-1), .int .i64 0, .int .i64 1000000, .int .i64 1000001] 2)
              have HC5 := hide (HP4.out.cur.below hb5)
              have HP5 := hide (HP4.out.next hp HC5.out (Kept.of_below hb5))
              have c := below_any p a len cap _ HC5.out 4 (by omega) (by omega)
              have HW5 : Hid (w.heap.size ≤ w4.heap.size) := HP4.out.kept.size
              clear hb5 HP4
              go_wp2_with fail
              refine c.mono ?_
              rintro e w5 ⟨y, rfl, g0, g1, hc, hk⟩
              obtain ⟨Z, rfl⟩ : ∃ Z : Nat, y = Z := ⟨y.toNat, by omega⟩
              have hZ : Z < 4 := by omega
              obtain ⟨z, hz⟩ := lit4 (w := w4) (x0 := -1) (x1 := 0) (x2 := 1000000) (x3 := 1000001) Z hZ
              have hz5 := hk.cell (a := ⟨w4.heap.size, Z, none⟩) (by have := HW5.out; show w4.heap.size ≠ p; omega) hz
              have HP6 := hide (HP5.out.next hp hc hk)
              obtain ⟨b', cp', hbe, hbw, hcl⟩ := HP6.out.form hm0
              cases hbe
              obtain ⟨⟨z1, hz1⟩, hf1⟩ := hcl (K * 4) (by omega)
              have HP7 := hide (HP6.out.set hp HAB.out hbw (K * 4) z)
              clear c hc hk hz HP5 HP6 hcl HC5 g0 g1
              generalize w4.heap.size = X at *
              go_wp2_with fail
              go_meet
              exact ⟨_, _, rfl, HP7.out⟩
            · have hb5 := bnew w4 (.cells #[.int .i64 (-1), .int .i64 7, .int .i64 8] 2)
              have HC5 := hide (HP4.out.cur.below hb5)
              have HP5 := hide (HP4.out.next hp HC5.out (Kept.of_below hb5))
              have c := below_any p a len cap _ HC5.out 3 (by omega) (by omega)
              have HW5 : Hid (w.heap.size ≤ w4.heap.size) := HP4.out.kept.size
              clear hb5 HP4
              go_wp2_with fail
              refine c.mono ?_
              rintro e w5 ⟨y, rfl, g0, g1, hc, hk⟩
              obtain ⟨Z, rfl⟩ : ∃ Z : Nat, y = Z := ⟨y.toNat, by omega⟩
              have hZ : Z < 3 := by omega
              obtain ⟨z, hz⟩ := lit3 (w := w4) (x0 := -1) (x1 := 7) (x2 := 8) Z hZ
              have hz5 := hk.cell (a := ⟨w4.heap.size, Z, none⟩) (by have := HW5.out; show w4.heap.size ≠ p; omega) hz
              have HP6 := hide (HP5.out.next hp hc hk)
              obtain ⟨b', cp', hbe, hbw, hcl⟩ := HP6.out.form hm0
              cases hbe
              obtain ⟨⟨z1, hz1⟩, hf1⟩ := hcl (K * 4 + 1) (by omega)
              have HP7 := hide (HP6.out.set hp HAB.out hbw (K * 4 + 1) z)
              clear c hc hk hz HP5 HP6 hcl HC5 g0 g1
              generalize w4.heap.size = X at *
              go_wp2_with fail
              go_meet
              exact ⟨_, _, rfl, HP7.out⟩
            · have hb5 := bnew w4 (.cells #[.int .i64 (-1), .int .i64 7, .int .i64 8] 2)
              have HC5 := hide (HP4.out.cur.below hb5)
              have HP5 := hide (HP4.out.next hp HC5.out (Kept.of_below hb5))
              have c := below_any p a len cap _ HC5.out 3 (by omega) (by omega)
              have HW5 : Hid (w.heap.size ≤ w4.heap.size) := HP4.out.kept.size
              clear hb5 HP4
              go_wp2_with fail
              refine c.mono ?_
              rintro e w5 ⟨y, rfl, g0, g1, hc, hk⟩
              obtain ⟨Z, rfl⟩ : ∃ Z : Nat, y = Z := ⟨y.toNat, by omega⟩
              have hZ : Z < 3 := by omega
              obtain ⟨z, hz⟩ := lit3 (w := w4) (x0 := -1) (x1 := 7) (x2 := 8) Z hZ
              have hz5 := hk.cell (a := ⟨w4.heap.size, Z, none⟩) (by have := HW5.out; show w4.heap.size ≠ p; omega) hz
              have HP6 := hide (HP5.out.next hp hc hk)
              obtain ⟨b', cp', hbe, hbw, hcl⟩ := HP6.out.form hm0
              cases hbe
              obtain ⟨⟨z1, hz1⟩, hf1⟩ := hcl (K * 4 + 2) (by omega)
              have HP7 := hide (HP6.out.set hp HAB.out hbw (K * 4 + 2) z)
              clear c hc hk hz HP5 HP6 hcl HC5 g0 g1
              generalize w4.heap.size = X at *
              go_wp2_with fail
              go_meet
              exact ⟨_, _, rfl, HP7.out⟩
            · have hb5 := bnew w4 (.cells #[.int .i64 (-1), .int .i64 4] 2)
              have HC5 := hide (HP4.out.cur.below hb5)
              have HP5 := hide (HP4.out.next hp HC5.out (Kept.of_below hb5))
              have c := below_any p a len cap _ HC5.out 2 (by omega) (by omega)
              have HW5 : Hid (w.heap.size ≤ w4.heap.size) := HP4.out.kept.size
              clear hb5 HP4
              go_wp2_with fail
              refine c.mono ?_
              rintro e w5 ⟨y, rfl, g0, g1, hc, hk⟩
              obtain ⟨Z, rfl⟩ : ∃ Z : Nat, y = Z := ⟨y.toNat, by omega⟩
              have hZ : Z < 2 := by omega
              obtain ⟨z, hz⟩ := lit2 (w := w4) (x0 := -1) (x1 := 4) Z hZ
              have hz5 := hk.cell (a := ⟨w4.heap.size, Z, none⟩) (by have := HW5.out; show w4.heap.size ≠ p; omega) hz
              have HP6 := hide (HP5.out.next hp hc hk)
              obtain ⟨b', cp', hbe, hbw, hcl⟩ := HP6.out.form hm0
              cases hbe
              obtain ⟨⟨z1, hz1⟩, hf1⟩ := hcl (K * 4 + 3) (by omega)
              have HP7 := hide (HP6.out.set hp HAB.out hbw (K * 4 + 3) z)
              clear c hc hk hz HP5 HP6 hcl HC5 g0 g1
              generalize w4.heap.size = X at *
              go_wp2_with fail
              go_meet
              exact ⟨_, _, rfl, HP7.out⟩
        case rest =>
          obtain ⟨v3, L3, rfl, hP⟩ := hcut
          have HP := hide hP
          clear hP HQ
          have c := once_any p a len cap _ HP.out.cur 40 (by omega) (by omega)
          go_wp2_with fail
          refine c.mono ?_
          rintro e w3 ⟨q, rfl, hc, hk⟩
          have HP3 := hide (HP.out.next hp hc hk)
          clear c hc hk HP
          cases q
          · have HR : Hid (∃ v m L, Ending.returned v3 = .returned v ∧ m ≤ 201 ∧ PL p a len cap w v m L w3) := ⟨v3, m, L3, rfl, by omega, HP3.out⟩
            clear HP3
            go_wp2_with fail
            go_ret
            exact HR.out
          · go_wp2_with fail
            go_loopw [3] (fun s wr => ∃ (v : Value) (m' : Nat) (L : List Int), v = s ∧ m' ≤ 201 ∧ PL p a len cap w v m' L wr) (fun s _ => 201 - (match s with | .slice _ n _ => n | _ => 0))
            case atStart => exact ⟨_, m, L3, rfl, by omega, HP3.out⟩
            case round =>
              obtain ⟨v, m', L, rfl, hmj, hP⟩ := hrel
              have HP := hide hP
              clear hP HP3
              obtain ⟨ad, cp, rfl⟩ := HP.out.isl
              have c := below_any p a len cap _ HP.out.cur 2 (by omega) (by omega)
              go_wp2_with fail
              refine c.mono ?_
              rintro e w4 ⟨y, rfl, g0, g1, hc, hk⟩
              have HP4 := hide (HP.out.next hp hc hk)
              clear c hc hk HP
              by_cases hlt : (m' : Int) < 200 + y
              · have c1 := drawPatient_any p a len cap _ HP4.out.cur (Nat.lt_of_lt_of_le hp HP4.out.kept.size) (HAB.out.imp id fun h b off e => Nat.lt_of_lt_of_le (h b off e) HP4.out.kept.size) (m' : Int)
                go_wp2_with fail
                refine c1.mono ?_
                rintro e w5 ⟨x1, x2, x3, rfl, hc, hk⟩
                have HP5 := hide (HP4.out.next hp hc hk)
                have HS5 := hide HP5.out.kept.size
                clear c1 hc hk HP4
                obtain ⟨v0, hv0⟩ : ∃ v0, v0 = Value.slice ad m' cp := ⟨_, rfl⟩
                rw [← hv0] at HP5
                rw [← hv0]
                have HV := hide hv0
                clear hv0
                go_wp2_with (refine growPt _ rfl _ _ rfl w.heap.size v0 m' L rfl w5 HP5.out.own (Below.refl _ _) HS5.out m' x1 x2 x3 rfl (by omega) ?_)
                intro v' w' ho' hb' hs'
                have HP8 : Hid (PL p a len cap w v' (m' + 1) (L ++ [(m' : Int), x1, x2, x3]) w') := ⟨ho', HP5.out.cur.belowB hb' hp HAB.out, HP5.out.kept.belowB hb' (Nat.le_refl _)⟩
                clear ho' hb' hs' HP5 HS5
                obtain ⟨ad', cp', rfl⟩ := HP8.out.isl
                go_wp2_with fail
                exact ⟨⟨_, m' + 1, _, rfl, by omega, HP8.out⟩, by simp; omega⟩
              · have HR : Hid (∃ v m L, Ending.returned (.slice ad m' cp) = .returned v ∧ m ≤ 201 ∧ PL p a len cap w v m L w4) := ⟨_, m', L, rfl, hmj, HP4.out⟩
                clear HP4
                go_wp2_with fail
                go_ret
                exact HR.out

end Go.Proofs.Ytlailkoikcjecaa

/- The draw of a phase: the list, and the list with its half. -/
import Derived.Test.YtlfpiifbbicbpaaDph
namespace Go.Proofs.Ytlfpiifbbicbpaa
open Go.RowKit

/-- a drawn list of numbers -/
def DrawnL (p : Nat) (a : Option Addr) (len cap : Nat) (w : World) (e : Ending) (w' : World) : Prop :=
  ∃ x n c b f, e = .returned (.slice x n c) ∧ n ≤ 20 ∧ Ow x b n f w' ∧ (n = 0 ∨ w.heap.size ≤ b) ∧ Cur p a len cap w' ∧ Kept p w w'

theorem Row.upd {b n : Nat} {f : Nat → Int} {w : World} (h : Row b n f w) {k : Nat} (z : Int) : Row b n (fun q => if q = k then z else f q) (w.setCell ⟨b, k, none⟩ (.int .i64 z)) := by
  intro q hq
  refine ⟨?_, by simpa using (h q hq).2⟩
  by_cases e : q = k
  · subst e
    simp only [if_true]
    exact World.cell?_setCell_same _ _ _ (h q hq).1
  · simp only [if_neg e]
    rw [World.cell?_setCell_other _ _ _ _ (by simp; try omega)]
    exact (h q hq).1

theorem DN.owl {p : Nat} {a : Option Addr} {len cap : Nat} {w : World} {v : Value} {n : Nat} {L : List Int} {wr : World} (h : DN p a len cap w v n L wr) : ∃ x c b, v = .slice x n c ∧ Ow x b n (fun q => L.getD q 0) wr ∧ (n = 0 ∨ w.heap.size ≤ b) := by
  by_cases h0 : n = 0
  · rcases h.own.2 with ⟨rfl, rfl⟩ | ⟨g, c, cur, hv, _⟩
    · exact ⟨none, 0, 0, rfl, .inl rfl, .inl rfl⟩
    · exact ⟨_, _, g, hv, .inl h0, .inl h0⟩
  · obtain ⟨x, c, b, hv, ho, hB, _⟩ := ow_of_some h.own (by omega)
    rw [Nat.mul_one] at ho
    exact ⟨x, c, b, hv, ho, .inr hB⟩

set_option maxRecDepth 100000 in
set_option maxHeartbeats 2000000 in
theorem drawPhase_any (p : Nat) (a : Option Addr) (len cap : Nat) (half : Int) (w : World) (h : Cur p a len cap w) (hp : p < w.heap.size) (hab : len = 0 ∨ ∀ b off, a = some ⟨b, off, none⟩ → b < w.heap.size) :
    Calls Try.prog 32 #[.pointer (some ⟨p, 0, none⟩), .int .i64 half] w (DrawnL p a len cap w) := by
  obtain ⟨ti, hi1, hi2, hi3, hi4⟩ := info2
  have HI1 := hide hi1
  have HAB := hide hab
  have HD0 : Hid (DN p a len cap w (.slice (some ⟨w.heap.size, 0, none⟩) 0 0) 0 [] (w.alloc (.cells #[] 2))) :=
    ⟨h.below (bnew _ _), Kept.of_below (bnew _ _), World.ownsRow_lit w #[] 0 (Nat.le_refl _) (by unfold maxLen; omega) rfl, by simp⟩
  have hd := fromG p a len cap _ HD0.out.cur (-200) 200
  clear hi1 h hab
  go_enter Try.func32, Try.ntmps32
  go_wp2_with fail
  refine hd.mono ?_
  rintro e w1 ⟨x, rfl, hc, hk⟩
  have HD1 := hide (HD0.out.step hp hc hk)
  clear hd hc hk HD0
  have hd := below_any p a len cap _ HD1.out.cur 20 (by omega) (by omega)
  go_wp2_with fail
  refine hd.mono ?_
  rintro e w2 ⟨m, rfl, m0, m1, hc, hk⟩
  have HD2 := hide (HD1.out.step hp hc hk)
  clear hd hc hk HD1
  go_wp2_with fail
  go_loopw [5, 6, 7] (fun v x i wr => ∃ (j k : Nat) (L : List Int) (y : Int), i = .int .i64 j ∧ x = .int .i64 y ∧ k + j ≤ 20 ∧ DN p a len cap w v k L wr) (fun _ _ i _ => (intOf i).toNat)
  case atStart => exact ⟨m.toNat, 0, [], x, by congr 1; omega, rfl, by omega, HD2.out⟩
  case round =>
    obtain ⟨j, k, L, y, rfl, rfl, hn, hD⟩ := hrel
    have HD := hide hD
    clear hD HD2
    by_cases hj : j = 0
    · subst hj
      obtain ⟨x5, c5, b5, hv, ho5, hB5⟩ := HD.out.owl
      subst hv
      have HO5 := hide ho5
      clear ho5
      have hd := once_any p a len cap _ HD.out.cur 30 (by omega) (by omega)
      go_wp2_with fail
      refine hd.mono ?_
      rintro e w3 ⟨q, rfl, hc, hk⟩
      have HK3 := hide (HD.out.kept.trans hk)
      have ho3 : Ow x5 b5 k (fun q => L.getD q 0) w3 := by
        rcases HO5.out with h0 | ⟨ha, hr⟩
        · exact .inl h0
        · by_cases h0 : k = 0
          · exact .inl h0
          · exact .inr ⟨ha, fun q hq => ⟨hk.cell (by show b5 ≠ p; omega) (hr q hq).1, (hk.frozen (a := ⟨b5, q, none⟩) (by show b5 ≠ p; omega) (hr q hq).1).trans (hr q hq).2⟩⟩
      have HO3 := hide ho3
      have hs3 : w.heap.size < w3.heap.size := Nat.lt_of_lt_of_le HD.out.lt hk.size
      have HC3 := hide hc
      clear hd hc hk HD HO5 ho3
      cases q
      · go_wp2_with fail
        go_ret
        exact ⟨x5, k, c5, b5, _, rfl, by omega, HO3.out, hB5, HC3.out, HK3.out⟩
      · by_cases hk0 : k = 0
        · subst hk0
          go_wp2_with fail
          go_ret
          exact ⟨x5, 0, c5, b5, _, rfl, by omega, HO3.out, .inl rfl, HC3.out, HK3.out⟩
        · have hkp : (0 : Int) < (k : Int) := by omega
          obtain ⟨rfl, hrow⟩ : x5 = some ⟨b5, 0, none⟩ ∧ Row b5 k (fun q => L.getD q 0) w3 := by
            rcases HO3.out with h | h
            · exact absurd h hk0
            · exact h
          have HRow := hide hrow
          have hb5 : w.heap.size ≤ b5 := hB5.resolve_left hk0
          clear hrow HO3 hB5
          have hd := below_any p a len cap _ HC3.out k (by omega) (by omega)
          go_wp2_with fail
          refine hd.mono ?_
          rintro e w4 ⟨y4, rfl, y40, y41, hc, hk⟩
          obtain ⟨i4, rfl⟩ : ∃ i : Nat, y4 = (i : Int) := ⟨y4.toNat, by omega⟩
          have hi4 : i4 < k := by omega
          have HK4 := hide (HK3.out.trans hk)
          have HRow4 : Hid (Row b5 k (fun q => L.getD q 0) w4) := fun q hq => ⟨hk.cell (by show b5 ≠ p; omega) (HRow.out q hq).1, (hk.frozen (a := ⟨b5, q, none⟩) (by show b5 ≠ p; omega) (HRow.out q hq).1).trans (HRow.out q hq).2⟩
          have hs4 : w.heap.size < w4.heap.size := Nat.lt_of_lt_of_le hs3 hk.size
          have HB : Hid (Below w4.heap.size w4 (w4.alloc (.cells #[.int .i64 1000000000, .int .i64 1000000001, .int .i64 (-1000000000), .int .i64 (-1000000001)] 2))) := bnew _ _
          have HRowA := hide (HRow4.out.below HB.out (World.block_lt_of_cell? w4 ⟨b5, i4, none⟩ (HRow4.out i4 hi4).1))
          have HLit := hide (fun m hm => lit_cell w4 [1000000000, 1000000001, -1000000000, -1000000001] 2 m hm)
          have hd2 := below_any p a len cap _ (hc.below HB.out) 4 (by omega) (by omega)
          clear hd hc hk HK3 HC3 HRow HRow4
          go_wp2_with fail
          refine hd2.mono ?_
          rintro e w5 ⟨y5, rfl, y50, y51, hc, hk⟩
          obtain ⟨m5, rfl⟩ : ∃ i : Nat, y5 = (i : Int) := ⟨y5.toNat, by omega⟩
          have hm5 : m5 < 4 := by omega
          obtain ⟨z, hz⟩ := HLit.out m5 hm5
          have hz5 := hk.cell (a := ⟨w4.heap.size, m5, none⟩) (by show w4.heap.size ≠ p; omega) hz
          have HK5 := hide ((HK4.out.trans (Kept.of_below HB.out)).trans hk)
          have HRow5 : Hid (Row b5 k (fun q => L.getD q 0) w5) := fun q hq => ⟨hk.cell (by show b5 ≠ p; omega) (HRowA.out q hq).1, (hk.frozen (a := ⟨b5, q, none⟩) (by show b5 ≠ p; omega) (HRowA.out q hq).1).trans (HRowA.out q hq).2⟩
          obtain ⟨hcell, hfr⟩ := HRow5.out i4 hi4
          have HC5 := hide hc
          have hm5' : (m5 : Int) < 4 := by omega
          have hi4' : (i4 : Int) < (k : Int) := by omega
          have HF : Hid (∀ v, Cur p a len cap (w5.setCell ⟨b5, i4, none⟩ v) ∧ Kept p w (w5.setCell ⟨b5, i4, none⟩ v)) := fun v =>
            have hb : Below w.heap.size w5 (w5.setCell ⟨b5, i4, none⟩ v) := (Below.refl _ _).setCell hb5 _
            ⟨HC5.out.belowB hb hp HAB.out, HK5.out.belowB hb (Nat.le_refl _)⟩
          clear hd2 hk HK4 HRowA HB HLit hc hz y40 y41 y50 y51
          go_wp2_with fail
          go_ret
          exact ⟨_, k, c5, b5, _, rfl, by omega, .inr ⟨rfl, HRow5.out.upd z⟩, .inr hb5, (HF.out _).1, (HF.out _).2⟩
    · have hj' : (0 : Int) < j := by omega
      have HS := hide (Nat.le_of_lt HD.out.lt)
      go_wp2_with (refine grow _ rfl _ _ 24 rfl w.heap.size 2 ti (.int .i64 0) 1 8 Try.underlying24 HI1.out hi2 hi3 hi4 rfl (by omega) _ k L rfl _ HD.out.own (Below.refl _ _) HS.out [y] 1 1 rfl rfl (by unfold maxLen; omega) (by omega) ?_)
      intro v4 w4 ho hb hs
      have HD4 := hide (HD.out.grown hp HAB.out ho hb)
      clear ho hb hs HD HS
      by_cases hh : half < 2
      · have hd := fromG p a len cap _ HD4.out.cur (-99) 99
        go_wp2_with fail
        refine hd.mono ?_
        rintro e w5 ⟨y5, rfl, hc, hk⟩
        have HD5 := hide (HD4.out.step hp hc hk)
        clear hd hc hk HD4
        go_wp2_with fail
        exact ⟨⟨j - 1, k + 1, _, _, by congr 1; omega, rfl, by omega, HD5.out⟩, by simp [intOf]; omega⟩
      · have hd := once_any p a len cap _ HD4.out.cur 30 (by omega) (by omega)
        go_wp2_with fail
        refine hd.mono ?_
        rintro e w5 ⟨q, rfl, hc, hk⟩
        have HD5 := hide (HD4.out.step hp hc hk)
        clear hd hc hk HD4
        cases q
        · have hd := fun lo hi => fromG p a len cap _ HD5.out.cur lo hi
          go_wp2_with fail
          refine (min_any _ _ _).mono ?_
          rintro e w6 ⟨⟨z1, rfl⟩, rfl⟩
          go_wp2_with fail
          refine (min_any _ _ _).mono ?_
          rintro e w6 ⟨⟨z2, rfl⟩, rfl⟩
          go_wp2_with fail
          refine (hd _ _).mono ?_
          rintro e w7 ⟨y7, rfl, hc, hk⟩
          have HD7 := hide (HD5.out.step hp hc hk)
          clear hd hc hk HD5
          go_wp2_with fail
          exact ⟨⟨j - 1, k + 1, _, _, by congr 1; omega, rfl, by omega, HD7.out⟩, by simp [intOf]; omega⟩
        · have hd := fromG p a len cap _ HD5.out.cur (-99) 99
          go_wp2_with fail
          refine hd.mono ?_
          rintro e w6 ⟨y6, rfl, hc, hk⟩
          have HD6 := hide (HD5.out.step hp hc hk)
          clear hd hc hk HD5
          go_wp2_with fail
          exact ⟨⟨j - 1, k + 1, _, _, by congr 1; omega, rfl, by omega, HD6.out⟩, by simp [intOf]; omega⟩

set_option maxRecDepth 100000 in
set_option maxHeartbeats 1000000 in
theorem drawUnwrap_any (a : Option Addr) (len cap : Nat) (w : World) (h : Bytes a len w) :
    Calls Try.prog 10 #[.slice a len cap] w fun e w' => ∃ x n c f half, e = .returned (.tuple #[.slice x n c, .int .i64 half]) ∧ n ≤ 20 ∧ Px x n f w' ∧ Below w.heap.size w w' := by
  have hn := new_any a len cap w h
  have hab : len = 0 ∨ ∀ b off, a = some ⟨b, off, none⟩ → b < w.heap.size + 1 := by
    by_cases h0 : len = 0
    · exact .inl h0
    · refine .inr fun b off e => ?_
      rcases h.2 with h1 | ⟨b', off', ha, hb⟩
      · exact absurd h1 h0
      · obtain ⟨z, _, _, hz⟩ := hb 0 (by omega)
        rw [e] at ha
        cases ha
        exact Nat.lt_succ_of_lt (World.block_lt_of_cell? w _ hz)
  have HCC : Hid (∀ x, Cur w.heap.size a len cap (w.alloc (.cells #[.slice a len cap, .int .i64 0, .int .i64 x] 56))) := fun x => cur_new a len cap w h x
  clear h
  go_enter Try.func10, Try.ntmps10
  go_wp2_with fail
  refine hn.mono ?_
  rintro e w1 ⟨x, rfl, hw1⟩
  have hc1 := HCC.out x
  rw [← hw1] at hc1
  have hs1 : w1.heap.size = w.heap.size + 1 := by rw [hw1]; simp
  have HB1 : Hid (Below w.heap.size w w1) := by rw [hw1]; exact bnew _ _
  rw [← hs1] at hab
  have HAB := hide hab
  have hlt1 : w.heap.size < w1.heap.size := by omega
  clear hn hw1 HCC hab hs1
  have hd := drawHalf_any w.heap.size a len cap w1 hc1 hlt1
  clear hc1
  go_wp2_with fail
  refine hd.mono ?_
  rintro e w2 ⟨half, rfl, hc, hk⟩
  have HK2 := hide hk
  have hlt2 : w.heap.size < w2.heap.size := Nat.lt_of_lt_of_le hlt1 hk.size
  have hd2 := drawPhase_any w.heap.size a len cap half w2 hc hlt2 (HAB.out.imp id fun hh b off e => Nat.lt_of_lt_of_le (hh b off e) hk.size)
  clear hd hc hk HAB
  go_wp2_with fail
  refine hd2.mono ?_
  rintro e w3 ⟨v, n, c, b, f, rfl, hn, ho, hB, hc, hk⟩
  have HK3 := hide (HK2.out.trans hk)
  have HO3 := hide ho
  clear hd2 hk HK2 ho
  have hd := once_any _ a len cap _ hc 2 (by omega) (by omega)
  clear hc
  go_wp2_with fail
  refine hd.mono ?_
  rintro e w4 ⟨q, rfl, hc, hk⟩
  have HB4 : Hid (Below w.heap.size w w4) := HB1.out.trans ((HK3.out.trans hk).below (Nat.le_refl _) (by omega))
  have hpx : Px v n f w4 := by
    rcases HO3.out with h0 | ⟨ha, hr⟩
    · exact .inl h0
    · by_cases h0 : n = 0
      · exact .inl h0
      · exact .inr ⟨b, 0, ha, fun q hq => by rw [Nat.zero_add]; exact hk.cell (by show b ≠ w.heap.size; omega) (hr q hq).1⟩
  have HP := hide hpx
  clear hd hc hk HK3 HO3 hpx HB1 hB
  cases q
  · go_wp2_with fail
    go_ret2
    exact ⟨v, n, c, f, half, rfl, hn, HP.out, HB4.out⟩
  · have cS := specWrap_any half v n c f (by omega) w4 HP.out
    unfold LsR at cS
    have hw : wrpN half n f ≤ 20 := by unfold wrpN; split <;> omega
    generalize wrpN half n f = n' at *
    generalize wrpF half f = f' at *
    go_wp2_with fail
    refine cS.mono ?_
    rintro e w5 ⟨v', c', b', rfl, ho, -, hb⟩
    have HB5 := hide (bnext HB4.out (Nat.le_refl _) hb)
    have HO := hide ho
    clear cS ho hb HB4 HP
    go_wp2_with fail
    go_ret2
    exact ⟨v', n', c', f', half, rfl, hw, HO.out.px, HB5.out⟩

end Go.Proofs.Ytlfpiifbbicbpaa

/- The draw of a bend. -/
import Derived.Test.YtigiddkodpcpkaaDpg
import Derived.Deep.CutBlock
import Derived.Deep.DeepCutAuto
namespace Go.Proofs.Ytigiddkodpcpkaa
open Go.RowKit

theorem Row.upd {b n : Nat} {f : Nat → Int} {w : World} (h : Row b n f w) {k : Nat} (z : Int) : Row b n (fun q => if q = k then z else f q) (w.setCell ⟨b, k, none⟩ (.int .i64 z)) := by
  intro q hq
  refine ⟨?_, by simpa using (h q hq).2⟩
  by_cases e : q = k
  · subst e
    simp only [if_true]
    exact World.cell?_setCell_same _ _ _ (h q hq).1
  · simp only [if_neg e]
    rw [World.cell?_setCell_other _ _ _ _ (by simp; try omega)]
    exact (h q hq).1

/-- what is known while a list of numbers is being drawn -/
structure DN (p : Nat) (a : Option Addr) (len cap : Nat) (w : World) (v : Value) (n : Nat) (L : List Int) (wr : World) : Prop where
  cur : Cur p a len cap wr
  kept : Kept p w wr
  own : wr.ownsRow w.heap.size 2 1 v n (ints L)
  lt : w.heap.size < wr.heap.size
theorem DN.step {p : Nat} {a : Option Addr} {len cap : Nat} {w : World} {v : Value} {n : Nat} {L : List Int} {wr w' : World} (h : DN p a len cap w v n L wr) (hp : p < w.heap.size) (hc : Cur p a len cap w') (hk : Kept p wr w') : DN p a len cap w v n L w' :=
  ⟨hc, h.kept.trans hk, owns_kept h.own hk hp, Nat.lt_of_lt_of_le h.lt hk.size⟩
theorem DN.grown {p : Nat} {a : Option Addr} {len cap : Nat} {w : World} {v v' : Value} {n n' : Nat} {L L' : List Int} {wr w' : World} (h : DN p a len cap w v n L wr) (hp : p < w.heap.size) (hab : len = 0 ∨ ∀ b off, a = some ⟨b, off, none⟩ → b < w.heap.size) (ho : w'.ownsRow w.heap.size 2 1 v' n' (ints L')) (hb : Below w.heap.size wr w') : DN p a len cap w v' n' L' w' :=
  ⟨h.cur.belowB hb hp hab, h.kept.belowB hb (Nat.le_refl _), ho, Nat.lt_of_lt_of_le h.lt hb.size⟩

/-- a literal of numbers: each cell of it -/
theorem lit_cell (w : World) (L : List Int) (t : TypeId) (m : Nat) (hm : m < L.length) : ∃ z : Int, (w.alloc (.cells (ints L).toArray t)).cell? ⟨w.heap.size, m, none⟩ = some (.int .i64 z) := by
  refine ⟨L.getD m 0, ?_⟩
  have := ints_at L m hm
  simp [go_sem, this]

/-- a list that was drawn -/
def LB (p : Nat) (a : Option Addr) (len cap : Nat) (w : World) (lo : Nat) (v : Value) (wr : World) : Prop :=
  ∃ b k c f, v = .slice (some ⟨b, 0, none⟩) k c ∧ lo ≤ k ∧ k ≤ 70 ∧ k ≤ c ∧ w.heap.size ≤ b ∧ Row b k f wr ∧ Cur p a len cap wr ∧ Kept p w wr ∧ w.heap.size < wr.heap.size

theorem DN.lb {p : Nat} {a : Option Addr} {len cap : Nat} {w : World} {v : Value} {n : Nat} {L : List Int} {wr : World} (h : DN p a len cap w v n L wr) (h0 : 0 < n) (h1 : n ≤ 70) : LB p a len cap w n v wr := by
  obtain ⟨x, c, b, hv, ho, hB, _⟩ := ow_of_some h.own h0
  rw [Nat.mul_one] at ho
  rcases ho with ho | ⟨rfl, ho⟩
  · omega
  rcases h.own.2 with ⟨_, hn⟩ | ⟨g, c', cur, hv', _, _, hc, _⟩
  · omega
  rw [hv] at hv'
  cases hv'
  exact ⟨b, n, c, _, hv, Nat.le_refl _, h1, hc, hB, ho, h.cur, h.kept, h.lt⟩
theorem Row.keptP {b n p : Nat} {f : Nat → Int} {w w' : World} (h : Row b n f w) (hk : Kept p w w') (hp : b ≠ p) : Row b n f w' :=
  fun q hq => ⟨hk.cell hp (h q hq).1, (hk.frozen (a := ⟨b, q, none⟩) hp (h q hq).1).trans (h q hq).2⟩

set_option maxRecDepth 100000 in
set_option maxHeartbeats 4000000 in
theorem drawBend_any (p : Nat) (a : Option Addr) (len cap : Nat) (w : World) (h : Cur p a len cap w) (hp : p < w.heap.size) (hab : len = 0 ∨ ∀ b off, a = some ⟨b, off, none⟩ → b < w.heap.size) :
    Calls Try.prog 52 #[.pointer (some ⟨p, 0, none⟩)] w fun e w' => ∃ v, e = .returned v ∧ LB p a len cap w 0 v w' := by
  obtain ⟨ti, hi1, hi2, hi3, hi4⟩ := info2
  have HI1 := hide hi1
  have HAB := hide hab
  have HD0 : Hid (DN p a len cap w (.slice (some ⟨w.heap.size, 0, none⟩) 0 0) 0 [] (w.alloc (.cells #[] 2))) :=
    ⟨h.below (bnew _ _), Kept.of_below (bnew _ _), World.ownsRow_lit w #[] 0 (Nat.le_refl _) (by unfold maxLen; omega) rfl, by simp⟩
  have hd := fromG p a len cap _ HD0.out.cur (-40) 20
  clear hi1 h hab
  go_enter Try.func52, Try.ntmps52
  go_wp2_with fail
  refine hd.mono ?_
  rintro e w1 ⟨x, rfl, hc, hk⟩
  have HD1 := hide (HD0.out.step hp hc hk)
  clear hd hc hk HD0
  have hd := below_any p a len cap _ HD1.out.cur 7 (by omega) (by omega)
  go_wp2_with fail
  refine hd.mono ?_
  rintro e w2 ⟨m, rfl, m0, m1, hc, hk⟩
  have HD2 := hide (HD1.out.step hp hc hk)
  clear hd hc hk HD1
  obtain ⟨M, hM, hM9⟩ : ∃ M : Nat, 2 + m = (M : Int) ∧ 2 ≤ M ∧ M ≤ 9 := ⟨(2 + m).toNat, by omega, by omega, by omega⟩
  have hMw : IntKind.i64.wrap (2 + m) = (M : Int) := by rw [IntKind.wrap_i64]; omega
  clear hM
  go_wp2_with fail
  clear hMw
  go_loopw [3, 4, 5] (fun v x i wr => ∃ (j k : Nat) (L : List Int) (y : Int), i = .int .i64 j ∧ x = .int .i64 y ∧ k + j = M ∧ DN p a len cap w v k L wr) (fun _ _ i _ => (intOf i).toNat)
  case atStart => exact ⟨M, 0, [], x, rfl, rfl, by omega, HD2.out⟩
  case round =>
    obtain ⟨j, k, L, y, rfl, rfl, hn, hD⟩ := hrel
    have HD := hide hD
    clear hD HD2
    by_cases hj : j = 0
    · subst hj
      have hL := HD.out.lb (by omega) (by omega)
      obtain ⟨b, k', c, f, hv, hk1, hk2, hkc, hB, hr, hc, hkp, hs⟩ := hL
      subst hv
      have HR := hide hr
      have HK := hide hkp
      clear hr hkp HD
      have hd := once_any p a len cap _ hc 14 (by omega) (by omega)
      clear hc
      go_upto_if 28 with (first | (refine hd.mono ?_; rintro e w3 ⟨q, rfl, hc, hk⟩; have HR3 := hide (HR.out.keptP hk (by omega)); have HK3 := hide (HK.out.trans hk); have hs3 := hk.size; have HC3 := hide hc; clear hd hk hc HR HK))
      go_cut [3] (fun s wc => ∃ v, v = s ∧ LB p a len cap w 2 v wc)
      case first =>
        cases q
        · go_wp2_with fail
          go_meet
          exact ⟨_, rfl, b, k', c, f, rfl, by omega, by omega, hkc, hB, HR3.out, HC3.out, HK3.out, by omega⟩
        · have hd := below_any p a len cap _ HC3.out k' (by omega) (by omega)
          go_wp2_with fail
          refine hd.mono ?_
          rintro e w4 ⟨y4, rfl, y40, y41, hc, hk⟩
          obtain ⟨i4, rfl⟩ : ∃ i : Nat, y4 = (i : Int) := ⟨y4.toNat, by omega⟩
          have hi4 : i4 < k' := by omega
          have HK4 := hide (HK3.out.trans hk)
          have HR4 := hide (HR3.out.keptP hk (by omega))
          have hs4 : w.heap.size < w4.heap.size := Nat.lt_of_lt_of_le (by omega) hk.size
          have HB : Hid (Below w4.heap.size w4 (w4.alloc (.cells #[.int .i64 0, .int .i64 1000, .int .i64 1001, .int .i64 (-1001)] 2))) := bnew _ _
          have HRA := hide (HR4.out.below HB.out (World.block_lt_of_cell? w4 ⟨b, i4, none⟩ (HR4.out i4 hi4).1))
          have HLit := hide (fun m hm => lit_cell w4 [0, 1000, 1001, -1001] 2 m hm)
          have hd2 := below_any p a len cap _ (hc.below HB.out) 4 (by omega) (by omega)
          clear hd hc hk HK3 HC3 HR3 HR4
          go_wp2_with fail
          refine hd2.mono ?_
          rintro e w5 ⟨y5, rfl, y50, y51, hc, hk⟩
          obtain ⟨m5, rfl⟩ : ∃ i : Nat, y5 = (i : Int) := ⟨y5.toNat, by omega⟩
          have hm5 : m5 < 4 := by omega
          obtain ⟨z, hz⟩ := HLit.out m5 hm5
          have hz5 := hk.cell (a := ⟨w4.heap.size, m5, none⟩) (by show w4.heap.size ≠ p; omega) hz
          have HK5 := hide ((HK4.out.trans (Kept.of_below HB.out)).trans hk)
          have HR5 := hide (HRA.out.keptP hk (by omega))
          obtain ⟨hcell, hfr⟩ := HR5.out i4 hi4
          have HC5 := hide hc
          have hm5' : (m5 : Int) < 4 := by omega
          have hi4' : (i4 : Int) < (k' : Int) := by omega
          have HF : Hid (∀ v, Cur p a len cap (w5.setCell ⟨b, i4, none⟩ v) ∧ Kept p w (w5.setCell ⟨b, i4, none⟩ v)) := fun v =>
            have hb : Below w.heap.size w5 (w5.setCell ⟨b, i4, none⟩ v) := (Below.refl _ _).setCell hB _
            ⟨HC5.out.belowB hb hp HAB.out, HK5.out.belowB hb (Nat.le_refl _)⟩
          have hs5 : w.heap.size < w5.heap.size := Nat.lt_of_lt_of_le hs4 (Nat.le_trans HB.out.size hk.size)
          clear hd2 hk HK4 HRA HB HLit hc hz y40 y41 y50 y51
          go_wp2_with fail
          go_meet
          exact ⟨_, rfl, b, k', c, _, rfl, by omega, by omega, hkc, hB, HR5.out.upd z, (HF.out _).1, (HF.out _).2, by simpa using hs5⟩
      case rest =>
        obtain ⟨v9, rfl, b9, k9, c9, f9, rfl, g1, g2, g3, g4, hr, hc, hkp, hs9⟩ := hcut
        have HR := hide hr
        have HK := hide hkp
        clear hr hkp
        have hd := once_any p a len cap _ hc 20 (by omega) (by omega)
        clear hc
        go_upto_if 42 with (first | (refine hd.mono ?_; rintro e w6 ⟨q6, rfl, hc, hk⟩; have HR6 := hide (HR.out.keptP hk (by omega)); have HK6 := hide (HK.out.trans hk); have hs6 := hk.size; have HC6 := hide hc; clear hd hk hc HR HK))
        go_cut [3] (fun s wc => ∃ v, v = s ∧ LB p a len cap w 0 v wc)
        case first =>
          cases q6
          · go_wp2_with fail
            go_meet
            exact ⟨_, rfl, b9, k9, c9, f9, rfl, by omega, by omega, g3, g4, HR6.out, HC6.out, HK6.out, by omega⟩
          · have hd := below_any p a len cap _ HC6.out 3 (by omega) (by omega)
            go_wp2_with fail
            refine hd.mono ?_
            rintro e w7 ⟨y7, rfl, y70, y71, hc, hk⟩
            obtain ⟨i7, rfl⟩ : ∃ i : Nat, y7 = (i : Int) := ⟨y7.toNat, by omega⟩
            have hi7 : i7 ≤ 2 := by omega
            have HK7 := hide (HK6.out.trans hk)
            have HR7 : Hid (Row b9 i7 f9 w7) := fun q hq => (HR6.out.keptP hk (by omega)) q (by omega)
            have hs7 := hk.size
            have HC7 := hide hc
            have hi7c : i7 ≤ c9 := by omega
            have hi7c' : (i7 : Int) ≤ (c9 : Int) := by omega
            clear hd hc hk y70 y71 HR6
            go_wp2_with fail
            go_meet
            exact ⟨_, rfl, b9, i7, c9, f9, rfl, by omega, by omega, by omega, g4, HR7.out, HC7.out, HK7.out, by omega⟩
        case rest =>
          obtain ⟨v8, rfl, b8, k8, c8, f8, rfl, e1, e2, e3, e4, hr, hc, hkp, hs8⟩ := hcut
          have HR := hide hr
          have HK := hide hkp
          clear hr hkp
          have hd := once_any p a len cap _ hc 40 (by omega) (by omega)
          clear hc
          go_wp2_with fail
          refine hd.mono ?_
          rintro e wa ⟨q, rfl, hc, hk⟩
          have HRa := hide (HR.out.keptP hk (by omega))
          have HKa := hide (HK.out.trans hk)
          have hsa := hk.size
          have HCa := hide hc
          clear hd hk hc HR HK
          cases q
          · go_wp2_with fail
            go_ret
            exact ⟨_, rfl, b8, k8, c8, f8, rfl, by omega, by omega, e3, e4, HRa.out, HCa.out, HKa.out, by omega⟩
          · have HDa : Hid (DN p a len cap w (.slice (some ⟨wa.heap.size, 0, none⟩) 0 0) 0 [] (wa.alloc (.cells #[] 2))) :=
              ⟨HCa.out.below (bnew _ _), HKa.out.trans (Kept.of_below (bnew _ _)), World.ownsRow_lit wa #[] 0 (by omega) (by unfold maxLen; omega) rfl, by simp; omega⟩
            clear HRa HCa HKa
            go_wp2_with fail
            go_loopw [3, 7] (fun v i wr => ∃ (k : Nat) (L : List Int), i = .int .i64 k ∧ k ≤ 65 ∧ DN p a len cap w v k L wr) (fun _ i _ => 65 - (intOf i).toNat)
            case atStart => exact ⟨0, [], rfl, by omega, HDa.out⟩
            case round =>
              obtain ⟨kk, L', rfl, hk65, hD⟩ := hrel
              have HD := hide hD
              clear hD HDa
              have hd := below_any p a len cap _ HD.out.cur 2 (by omega) (by omega)
              go_wp2_with fail
              refine hd.mono ?_
              rintro e wb ⟨dd, rfl, dd0, dd1, hc, hk⟩
              have HDb := hide (HD.out.step hp hc hk)
              clear hd hc hk HD
              by_cases hlt : (kk : Int) < 64 + dd
              · have HS := hide (Nat.le_of_lt HDb.out.lt)
                have hdw : IntKind.i64.wrap (64 + dd) = 64 + dd := by rw [IntKind.wrap_i64]; omega
                have h3w : IntKind.i64.wrap (3 * (kk : Int)) = 3 * (kk : Int) := by rw [IntKind.wrap_i64]; omega
                go_wp2_with (refine grow _ rfl _ _ 24 rfl w.heap.size 2 ti (.int .i64 0) 1 8 Try.underlying24 HI1.out hi2 hi3 hi4 rfl (by omega) _ kk L' rfl _ HDb.out.own (Below.refl _ _) HS.out [3 * (kk : Int)] 1 1 rfl rfl (by unfold maxLen; omega) (by omega) ?_)
                intro v4 w4 ho hb hs
                have HD4 := hide (HDb.out.grown hp HAB.out ho hb)
                clear ho hb hs HDb HS
                go_wp2_with fail
                exact ⟨⟨kk + 1, _, by go_num, by omega, HD4.out⟩, by simp [intOf]; omega⟩
              · have hdw : IntKind.i64.wrap (64 + dd) = 64 + dd := by rw [IntKind.wrap_i64]; omega
                have hL := HDb.out.lb (by omega) (by omega)
                obtain ⟨bz, kz, cz, fz, hv, z1, z2, z3, z4, hr, hc, hkp, hsz⟩ := hL
                subst hv
                have HRz := hide hr
                have HKz := hide hkp
                have HCz := hide hc
                clear hr hkp hc HDb
                go_wp2_with fail
                go_ret
                exact ⟨_, rfl, bz, kz, cz, fz, rfl, by omega, z2, z3, z4, HRz.out, HCz.out, HKz.out, hsz⟩
    · have hj' : (0 : Int) < j := by omega
      have HS := hide (Nat.le_of_lt HD.out.lt)
      go_wp2_with (refine grow _ rfl _ _ 24 rfl w.heap.size 2 ti (.int .i64 0) 1 8 Try.underlying24 HI1.out hi2 hi3 hi4 rfl (by omega) _ k L rfl _ HD.out.own (Below.refl _ _) HS.out [y] 1 1 rfl rfl (by unfold maxLen; omega) (by omega) ?_)
      intro v4 w4 ho hb hs
      have HD4 := hide (HD.out.grown hp HAB.out ho hb)
      clear ho hb hs HD HS
      have hd := below_any p a len cap _ HD4.out.cur 9 (by omega) (by omega)
      go_wp2_with fail
      refine hd.mono ?_
      rintro e w5 ⟨y5, rfl, y50, y51, hc, hk⟩
      have HD5 := hide (HD4.out.step hp hc hk)
      clear hd hc hk HD4
      go_wp2_with fail
      exact ⟨⟨j - 1, k + 1, _, _, by congr 1; omega, rfl, by omega, HD5.out⟩, by simp [intOf]; omega⟩

end Go.Proofs.Ytigiddkodpcpkaa

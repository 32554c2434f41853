/- The draw of bounds and weights. -/
import Derived.Test.YtadbniademamhaaDbo
import Derived.Test.YtadbniademamhaaGrl
namespace Go.Proofs.Ytadbniademamhaa
open Go.RowKit

/-- what is known while a list of numbers is being drawn -/
structure DN (p : Nat) (a : Option Addr) (len cap : Nat) (w : World) (v : Value) (n : Nat) (L : List Int) (wr : World) : Prop where
  cur : Cur p a len cap wr
  kept : Kept p w wr
  own : wr.ownsRow w.heap.size 2 1 v n (ints L)
theorem DN.step {p : Nat} {a : Option Addr} {len cap : Nat} {w : World} {v : Value} {n : Nat} {L : List Int} {wr w' : World} (h : DN p a len cap w v n L wr) (hp : p < w.heap.size) (hc : Cur p a len cap w') (hk : Kept p wr w') : DN p a len cap w v n L w' :=
  ⟨hc, h.kept.trans hk, owns_kept h.own hk hp⟩
theorem DN.grown {p : Nat} {a : Option Addr} {len cap : Nat} {w : World} {v v' : Value} {n n' : Nat} {L L' : List Int} {wr w' : World} (h : DN p a len cap w v n L wr) (hp : p < w.heap.size) (hab : len = 0 ∨ ∀ b off, a = some ⟨b, off, none⟩ → b < w.heap.size) (ho : w'.ownsRow w.heap.size 2 1 v' n' (ints L')) (hb : Below w.heap.size wr w') : DN p a len cap w v' n' L' w' :=
  ⟨h.cur.belowB hb hp hab, h.kept.belowB hb (Nat.le_refl _), ho⟩
theorem DN.alloc {p : Nat} {a : Option Addr} {len cap : Nat} {w : World} {v : Value} {n : Nat} {L : List Int} {wr : World} (h : DN p a len cap w v n L wr) (o : Obj) : DN p a len cap w v n L (wr.alloc o) :=
  ⟨h.cur.below (bnew _ _), h.kept.trans (Kept.of_below (bnew _ _)), h.own.alloc _⟩
theorem bytes_ltR {a : Option Addr} {len : Nat} {w : World} (h : Bytes a len w) {B : Nat} (hB : w.heap.size ≤ B) : len = 0 ∨ ∀ b off, a = some ⟨b, off, none⟩ → b < B := by
  by_cases h0 : len = 0
  · exact .inl h0
  · refine .inr fun b off e => ?_
    rcases h.2 with h1 | ⟨b', off', ha, hb⟩
    · exact absurd h1 h0
    · obtain ⟨z, _, _, hz⟩ := hb 0 (by omega)
      rw [e] at ha
      cases ha
      exact Nat.lt_of_lt_of_le (World.block_lt_of_cell? w _ hz) hB
theorem own_pxR {w : World} {B n : Nat} {a : Option Addr} {c : Nat} {L : List Int} (h : w.ownsRow B 2 1 (.slice a n c) n (ints L)) : Px a n (fun k => L.getD k 0) w := by
  by_cases h0 : 0 < n
  · obtain ⟨b, c', hv, -, hc⟩ := own_partsL h h0
    cases hv
    exact .inr ⟨b, 0, rfl, fun k hk => by rw [Nat.zero_add]; exact (hc k hk).1⟩
  · exact .inl (by omega)
/-- a table of four that lies in a new block, behind draws -/
theorem tab4b {w w' : World} {p : Nat} {x0 x1 x2 x3 : Int} (hp : p < w.heap.size) (hk : Kept p (w.alloc (.cells #[.int .i64 x0, .int .i64 x1, .int .i64 x2, .int .i64 x3] 2)) w') : w'.cell? ⟨w.heap.size, 0, none⟩ = some (.int .i64 x0) ∧ w'.cell? ⟨w.heap.size, 1, none⟩ = some (.int .i64 x1) ∧ w'.cell? ⟨w.heap.size, 2, none⟩ = some (.int .i64 x2) ∧ w'.cell? ⟨w.heap.size, 3, none⟩ = some (.int .i64 x3) := by
  have hb := Bx.new [.int .i64 x0, .int .i64 x1, .int .i64 x2, .int .i64 x3] 2 w
  have hb' := hb.kept hk (by omega)
  exact ⟨(hb' 0 _ rfl).1, (hb' 1 _ rfl).1, (hb' 2 _ rfl).1, (hb' 3 _ rfl).1⟩
/-- bounds and weights are drawn -/
def DFR (w : World) (e : Ending) (w' : World) : Prop := ∃ (a1 : Option Addr) (m c1 : Nat) (ad : Nat → Option Addr) (ln cp : Nat → Nat) (F : Nat → Nat → Int) (Bv : Nat → Int) (a2 : Option Addr) (n c2 : Nat) (g : Nat → Int), e = .returned (.tuple #[.slice a1 m c1, .slice a2 n c2]) ∧ m ≤ c1 ∧ m ≤ 6 ∧ PxB a1 m ad ln cp F Bv w' ∧ (∀ i, i < m → 1 ≤ ln i ∧ ln i ≤ 5) ∧ Px a2 n g w' ∧ n ≤ 7 ∧ Below w.heap.size w w'

set_option maxRecDepth 100000 in
set_option maxHeartbeats 8000000 in
theorem drawRefutes_any (a : Option Addr) (len cap : Nat) (w : World) (h : Bytes a len w) :
    Calls Try.prog 5 #[.slice a len cap] w (DFR w) := by
  have hn := new_any a len cap w h
  have HAB := hide (bytes_ltR h (B := w.heap.size) (Nat.le_refl _))
  have HBY := hide h
  clear h
  go_enter Try.func5, Try.ntmps5
  go_wp2_with fail
  refine hn.mono ?_
  rintro e w1' ⟨x, rfl, rfl⟩
  have HC1 := hide (cur_new a len cap w HBY.out x)
  have HB1 := hide (bnew w (.cells #[.slice a len cap, .int .i64 0, .int .i64 x] 44))
  obtain ⟨w1, hw1⟩ : ∃ w1, w1 = w.alloc (.cells #[.slice a len cap, .int .i64 0, .int .i64 x] 44) := ⟨_, rfl⟩
  have hs1 : w1.heap.size = w.heap.size + 1 := by rw [hw1]; simp
  rw [← hw1] at HC1 HB1
  rw [← hw1]
  clear hw1 hn HBY
  obtain ⟨p, hp⟩ : ∃ p, p = w.heap.size := ⟨_, rfl⟩
  rw [← hp] at HC1
  rw [← hp]
  have hp1 : p < w1.heap.size := by omega
  have HAB1 : Hid (len = 0 ∨ ∀ b off, a = some ⟨b, off, none⟩ → b < w1.heap.size) := HAB.out.imp id fun h b off e => by have := h b off e; omega
  have HPE := hide (And.intro hp hs1)
  clear hp hs1 HAB
  have cR := drawBounds_any p a len cap w1 HC1.out hp1 HAB1.out
  go_wp2_with fail
  refine cR.mono ?_
  rintro e w2 ⟨v, k, Q, rfl, hk6, hD⟩
  obtain ⟨av, cv, rfl⟩ := hD.bl.is
  have HD2 := hide hD
  have hp2 : p < w2.heap.size := Nat.lt_of_lt_of_le hp1 hD.kept.size
  have HAB2 : Hid (len = 0 ∨ ∀ b off, a = some ⟨b, off, none⟩ → b < w2.heap.size) := HAB1.out.imp id fun h b off e => Nat.lt_of_lt_of_le (h b off e) hD.kept.size
  have HN2 : Hid (DN p a len cap w2 (.slice (some ⟨w2.heap.size, 0, none⟩) 0 0) 0 [] (w2.alloc (.cells #[] 2))) := ⟨hD.cur.below (bnew _ _), Kept.of_below (bnew _ _), World.ownsRow_lit w2 #[] 0 (Nat.le_refl _) (by unfold maxLen; omega) rfl⟩
  clear cR hD HC1 HAB1
  have HFIN : Hid (∀ v n L wr, n ≤ 7 → DN p a len cap w2 v n L wr → DFR w (.returned (.tuple #[.slice av k cv, v])) wr) := fun v n L wr hn hD => by
    have hq := HPE.out
    obtain ⟨a1, c1, ad, ln, cp, F, Bv, e, hc, hP, hl⟩ := (HD2.out.bl.kept hD.kept hp1).out
    cases e
    obtain ⟨a2, c2, rfl⟩ := own_isB hD.own
    exact ⟨_, _, _, ad, ln, cp, F, Bv, a2, n, c2, fun k => L.getD k 0, rfl, hc, hk6, hP, hl, own_pxR hD.own, hn, HB1.out.trans (((HD2.out.kept.trans hD.kept)).below (by omega) (by omega))⟩
  go_wp2_with fail
  generalize Value.slice (some ⟨w2.heap.size, 0, none⟩) 0 0 = v0 at *
  generalize w2.alloc (.cells #[] 2) = w2' at *
  go_loopw [6, 7] (fun v i wr => ∃ (j : Nat) (L : List Int), i = .int .i64 j ∧ j ≤ k ∧ L.length = j ∧ DN p a len cap w2 v j L wr) (fun _ i _ => k - (intOf i).toNat)
  case atStart => exact ⟨0, [], rfl, by omega, rfl, HN2.out⟩
  case round =>
    obtain ⟨j, L, rfl, hjk, hL, hD⟩ := hrel
    have HD := hide hD
    have HL := hide hL
    clear hD HN2 hL
    by_cases hlt : j < k
    · have hji : (j : Int) < (k : Int) := by omega
      have hwk : IntKind.i64.wrap ((k : Int) - 1) = (k : Int) - 1 := by rw [IntKind.wrap_i64]; omega
      have HJ1 : Hid (j + 1 ≤ k) := by show _ ≤ _; omega
      have HMe : Hid (k - (j + 1) < k - j) := by show _ < _; omega
      have HjM : Hid (j ≤ 1048576) := by show _ ≤ _; omega
      have hjw : IntKind.i64.wrap ((j : Int) + 1) = (j : Int) + 1 := by rw [IntKind.wrap_i64]; omega
      have HGR : ∀ (z : Int) (w4 : World), DN p a len cap w2 u6 j L w4 → Hid (w4.ownsRow w2.heap.size 2 1 u6 j (ints L) ∧ Below w2.heap.size w4 w4 ∧ w2.heap.size ≤ w4.heap.size) := fun z w4 h => ⟨h.own, Below.refl _ _, h.kept.size⟩
      have HGR := hide HGR
      go_upto_region 7 with fail
      go_cut [27] (fun s wc => ∃ q : Bool, s = .bool q ∧ DN p a len cap w2 u6 j L wc)
      case first =>
        by_cases h0 : j = 0
        · subst h0
          go_wp2_with fail
          go_meet
          exact ⟨_, rfl, HD.out⟩
        · have h0i : ¬ (j : Int) = 0 := by omega
          by_cases h1 : j + 1 = k
          · have h1i : (j : Int) = (k : Int) - 1 := by omega
            have d1 : decide ((j : Int) = (k : Int) - 1) = true := decide_eq_true h1i
            clear h1i
            go_wp2_with fail
            go_meet
            exact ⟨_, rfl, HD.out⟩
          · have h1i : ¬ (j : Int) = (k : Int) - 1 := by omega
            go_wp2_with fail
            go_meet
            exact ⟨_, rfl, HD.out⟩
      case rest =>
        obtain ⟨q, rfl, hD⟩ := hcut
        clear HD
        have HD := hide hD
        clear hD hwk
        cases q
        · have hd := below_any p a len cap _ HD.out.cur 3 (by omega) (by omega)
          go_wp2_with fail
          refine hd.mono ?_
          rintro e w4 ⟨y4, rfl, y40, y41, hc, hk⟩
          have HD4 := hide (HD.out.step hp2 hc hk)
          have HG := HGR.out 0 w4 HD4.out
          clear hd hc hk HD
          obtain rfl | rfl | rfl : y4 = 0 ∨ y4 = 1 ∨ y4 = 2 := by omega
          · go_wp2_with (refine growL _ rfl _ _ rfl w2.heap.size u6 j L rfl w4 HG.out.1 HG.out.2.1 HG.out.2.2 0 rfl HjM.out ?_)
            intro v' w5 ho5 hb5 _
            have HD5 := hide (HD4.out.grown hp2 HAB2.out ho5 hb5)
            have HL5 : Hid ((L ++ [(0 : Int)]).length = j + 1) := by have := HL.out; show _ = _; simp; omega
            clear HG HD4 ho5 hb5
            go_wp2_with fail
            go_roundw
            case rel => exact ⟨j + 1, _, by simp, HJ1.out, HL5.out, HD5.out⟩
            case measure => simpa [intOf] using HMe.out
          · go_wp2_with (refine growL _ rfl _ _ rfl w2.heap.size u6 j L rfl w4 HG.out.1 HG.out.2.1 HG.out.2.2 0 rfl HjM.out ?_)
            intro v' w5 ho5 hb5 _
            have HD5 := hide (HD4.out.grown hp2 HAB2.out ho5 hb5)
            have HL5 : Hid ((L ++ [(0 : Int)]).length = j + 1) := by have := HL.out; show _ = _; simp; omega
            clear HG HD4 ho5 hb5
            go_wp2_with fail
            go_roundw
            case rel => exact ⟨j + 1, _, by simp, HJ1.out, HL5.out, HD5.out⟩
            case measure => simpa [intOf] using HMe.out
          · go_wp2_with (refine growL _ rfl _ _ rfl w2.heap.size u6 j L rfl w4 HG.out.1 HG.out.2.1 HG.out.2.2 1 rfl HjM.out ?_)
            intro v' w5 ho5 hb5 _
            have HD5 := hide (HD4.out.grown hp2 HAB2.out ho5 hb5)
            have HL5 : Hid ((L ++ [(1 : Int)]).length = j + 1) := by have := HL.out; show _ = _; simp; omega
            clear HG HD4 ho5 hb5
            go_wp2_with fail
            go_roundw
            case rel => exact ⟨j + 1, _, by simp, HJ1.out, HL5.out, HD5.out⟩
            case measure => simpa [intOf] using HMe.out
        · have HG := HGR.out 0 wc HD.out
          go_wp2_with (refine growL _ rfl _ _ rfl w2.heap.size u6 j L rfl wc HG.out.1 HG.out.2.1 HG.out.2.2 1 rfl HjM.out ?_)
          intro v' w5 ho5 hb5 _
          have HD5 := hide (HD.out.grown hp2 HAB2.out ho5 hb5)
          have HL5 : Hid ((L ++ [(1 : Int)]).length = j + 1) := by have := HL.out; show _ = _; simp; omega
          clear HG HD ho5 hb5
          go_wp2_with fail
          go_roundw
          case rel => exact ⟨j + 1, _, by simp, HJ1.out, HL5.out, HD5.out⟩
          case measure => simpa [intOf] using HMe.out
    · obtain rfl : j = k := by omega
      have hji : ¬ (j : Int) < (j : Int) := by omega
      obtain ⟨a6, c6, rfl⟩ := own_isB HD.out.own
      go_upto_region 10 with fail
      go_cut [43] (fun s wc => ∃ bq : Bool, s = .bool bq ∧ (bq = true → 0 < j) ∧ DN p a len cap w2 (.slice a6 j c6) j L wc)
      case first =>
        have hd := once_any p a len cap _ HD.out.cur 12 (by omega) (by omega)
        go_wp2_with fail
        refine hd.mono ?_
        rintro e w3 ⟨q, rfl, hc, hk⟩
        have HD3 := hide (HD.out.step hp2 hc hk)
        clear hd hc hk HD
        cases q
        · go_wp2_with fail
          go_meet
          exact ⟨_, rfl, fun h => by simp at h, HD3.out⟩
        · by_cases h0 : 0 < j
          · have hni : (0 : Int) < (j : Int) := by omega
            go_wp2_with fail
            go_meet
            exact ⟨_, rfl, fun _ => h0, HD3.out⟩
          · obtain rfl : j = 0 := by omega
            go_wp2_with fail
            go_meet
            exact ⟨_, rfl, fun h => by simp at h, HD3.out⟩
      case rest =>
      obtain ⟨q, rfl, hq0, hD⟩ := hcut
      clear HD
      have HD3 := hide hD
      clear hD
      go_upto_if 43 with fail
      go_cut [] (fun wc => ∃ L : List Int, L.length = j ∧ DN p a len cap w2 (.slice a6 j c6) j L wc)
      case first =>
        cases q
        · go_wp2_with fail
          go_meet
          exact ⟨L, HL.out, HD3.out⟩
        · have h0 := hq0 rfl
          have hni : (0 : Int) < (j : Int) := by omega
          have HD5 := hide (HD3.out.alloc (.cells #[.int .i64 (-1), .int .i64 0, .int .i64 1000, .int .i64 1001] 2))
          have HP4 : Hid (p < wc.heap.size) := Nat.lt_of_lt_of_le hp2 HD3.out.kept.size
          have hd := below_any p a len cap _ HD5.out.cur 4 (by omega) (by omega)
          go_wp2_with fail
          refine hd.mono ?_
          rintro e w6 ⟨m, rfl, hm0, hm1, hc, hk⟩
          have HD6 := hide (HD5.out.step hp2 hc hk)
          obtain ⟨x0, x1, x2, x3⟩ := tab4b HP4.out hk
          clear hd hc hk HD5
          obtain ⟨b', c', hv, hB', hcell⟩ := own_partsL HD6.out.own h0
          obtain ⟨rfl, -, rfl⟩ := Value.slice.inj hv
          obtain ⟨yc, yf⟩ := hcell 0 h0
          have HS : Hid (∀ z : Int, ∃ L' : List Int, L'.length = j ∧ DN p a len cap w2 (.slice (some ⟨b', 0, none⟩) j c6) j L' (w6.setCell ⟨b', 0, none⟩ (.int .i64 z))) := fun z => by
            have hb : Below w2.heap.size w6 (w6.setCell ⟨b', 0, none⟩ (.int .i64 z)) := (Below.refl _ _).setCell hB' _
            exact ⟨L.set 0 z, by rw [List.length_set]; exact HL.out, HD6.out.grown hp2 HAB2.out (own_setL HD6.out.own 0 z) hb⟩
          clear hcell HD6 HP4 HD3 hv
          generalize wc.heap.size = Tq at *
          obtain rfl | rfl | rfl | rfl : m = 0 ∨ m = 1 ∨ m = 2 ∨ m = 3 := by omega
          all_goals
            go_wp2_with fail
            go_meet
            exact HS.out _
      case rest =>
        obtain ⟨L', hL', hD⟩ := hcut
        clear HD3 HL
        have HD4 := hide hD
        have HL := hide hL'
        clear hD hL'
        have hd := once_any p a len cap _ HD4.out.cur 30 (by omega) (by omega)
        go_wp2_with fail
        refine hd.mono ?_
        rintro e w5 ⟨q5, rfl, hc, hk⟩
        have HD5 := hide (HD4.out.step hp2 hc hk)
        clear hd hc hk HD4
        cases q5
        · have HF := hide (HFIN.out _ j L' w5 (by omega) HD5.out)
          go_wp2_with fail
          go_ret2
          exact HF.out
        · have HO : Hid (w5.ownsRow w2.heap.size 2 1 (.slice a6 j c6) j (ints L') ∧ Below w2.heap.size w5 w5 ∧ w2.heap.size ≤ w5.heap.size) := ⟨HD5.out.own, Below.refl _ _, HD5.out.kept.size⟩
          have HjM : Hid (j ≤ 1048576) := by show _ ≤ _; omega
          generalize Value.slice a6 j c6 = v6 at *
          go_wp2_with (refine growL _ rfl _ _ rfl w2.heap.size v6 j L' rfl w5 HO.out.1 HO.out.2.1 HO.out.2.2 0 rfl HjM.out ?_)
          intro v' w6 ho6 hb6 _
          have HF := hide (HFIN.out _ (j + 1) _ w6 (by omega) (HD5.out.grown hp2 HAB2.out ho6 hb6))
          clear HO HD5 ho6 hb6
          go_wp2_with fail
          go_ret2
          exact HF.out

end Go.Proofs.Ytadbniademamhaa

/- The draw of exposures and limits. -/
import Derived.Test.YthfkdejlkegmoaaDxp
import Derived.Test.YthfkdejlkegmoaaGrl
namespace Go.Proofs.Ythfkdejlkegmoaa
open Go.RowKit

/-- what is drawn: exposures and limits -/
def DFR (w : World) (e : Ending) (w' : World) : Prop :=
  ∃ ad m cp f b m2 cp2 f2, e = .returned (.tuple #[.slice ad m cp, .slice (some ⟨b, 0, none⟩) m2 cp2]) ∧ m ≤ 13 ∧ (ad = none → m = 0 ∧ cp = 0) ∧ Px ad (m * 2) f w' ∧ m2 ≤ 32 ∧ Px (some ⟨b, 0, none⟩) m2 f2 w' ∧ Below w.heap.size w w'

set_option maxRecDepth 100000 in
set_option maxHeartbeats 4000000 in
theorem drawFits_any (a : Option Addr) (len cap : Nat) (w : World) (h : Bytes a len w) :
    Calls Try.prog 5 #[.slice a len cap] w (DFR w) := by
  have HBY := hide h
  have hn := new_any a len cap w h
  clear h
  go_enter Try.func5, Try.ntmps5
  go_wp2_with fail
  refine hn.mono ?_
  rintro e w1 ⟨x, rfl, rfl⟩
  have hc := cur_new a len cap w HBY.out x
  have hb1 := bnew w (.cells #[.slice a len cap, .int .i64 0, .int .i64 x] 46)
  have hz1 : (w.alloc (.cells #[.slice a len cap, .int .i64 0, .int .i64 x] 46)).heap.size = w.heap.size + 1 := by simp
  have HAB := hide (bytes_lt' HBY.out (B := w.heap.size + 1) (by omega))
  rw [← hz1] at HAB
  have HB1 := hide hb1
  clear hn HBY hb1
  go_upto_region 2 with fail
  generalize hw1 : w.alloc (.cells #[.slice a len cap, .int .i64 0, .int .i64 x] 46) = w1 at *
  clear hw1
  have hp : w.heap.size < w1.heap.size := by omega
  have cE := drawExposures_any w.heap.size a len cap w1 hc hp HAB.out
  clear hc
  go_wp2_with fail
  refine cE.mono ?_
  rintro e w2 ⟨v, m, L, rfl, hm, hE⟩
  have HE := hide hE
  clear cE hE
  have hs2 := HE.out.kept.size
  have hp2 : w.heap.size < w2.heap.size := by omega
  have HAB2 := hide (HAB.out.imp id fun h b off e => Nat.lt_of_lt_of_le (h b off e) hs2)
  have hb3 := bnew w2 (.cells #[] 2)
  have HG3 : Hid (GL 2 1 w.heap.size a len cap w2 (.slice (some ⟨w2.heap.size, 0, none⟩) 0 0) 0 [] (w2.alloc (.cells #[] 2))) := ⟨World.ownsRow_lit w2 #[] 0 (Nat.le_refl _) (by unfold maxLen; omega) rfl, HE.out.cur.below hb3, Kept.of_below hb3⟩
  clear hb3
  go_upto_region 4 with fail
  generalize hw3 : w2.alloc (.cells #[] 2) = w3 at *
  clear hw3
  generalize hv3 : Value.slice (some ⟨w2.heap.size, 0, none⟩) 0 0 = v3 at *
  clear hv3
  go_wp2_with fail
  go_loopw [6, 7] (fun s i wr => ∃ (u : Value) (k : Nat) (M : List Int), u = s ∧ k ≤ 32 ∧ i = .int .i64 k ∧ GL 2 1 w.heap.size a len cap w2 u k M wr) (fun _ i _ => 32 - (intOf i).toNat)
  case atStart => exact ⟨v3, 0, [], rfl, by omega, rfl, HG3.out⟩
  case round =>
    obtain ⟨u, k, M, rfl, hk, rfl, hG⟩ := hrel
    have HG := hide hG
    clear hG HG3
    by_cases hlt : k < 32
    · have c := belowG w.heap.size a len cap _ HG.out.cur 900
      go_wp2_with fail
      refine c.mono ?_
      rintro e w4 ⟨z, rfl, hc4, hk4⟩
      have HG4 := hide (HG.out.next hp2 hc4 hk4)
      have HS4 := hide HG4.out.kept.size
      clear c hc4 hk4 HG
      go_wp2_with (refine growL _ rfl _ _ rfl w2.heap.size u k M rfl w4 HG4.out.own (Below.refl _ _) HS4.out z rfl (by omega) ?_)
      intro v' w' ho' hb' hs'
      have HG8 : Hid (GL 2 1 w.heap.size a len cap w2 v' (k + 1) (M ++ [z]) w') := ⟨ho', HG4.out.cur.belowB hb' hp2 HAB2.out, HG4.out.kept.belowB hb' (Nat.le_refl _)⟩
      clear ho' hb' hs' HG4 HS4
      go_wp2_with fail
      exact ⟨⟨v', k + 1, _, rfl, by omega, rfl, HG8.out⟩, by simp [intOf]; omega⟩
    · obtain rfl : k = 32 := by omega
      clear hlt hk
      obtain ⟨b, cp, rfl, hbw, -⟩ := HG.out.form (by omega)
      have c := once_any w.heap.size a len cap _ HG.out.cur 12 (by omega) (by omega)
      go_wp2_with fail
      refine c.mono ?_
      rintro e w4 ⟨q, rfl, hc4, hk4⟩
      have HG4 := hide (HG.out.next hp2 hc4 hk4)
      clear c hc4 hk4 HG
      go_upto_if 23 with fail
      go_cut [] (fun wc => ∃ M', GL 2 1 w.heap.size a len cap w2 (.slice (some ⟨b, 0, none⟩) 32 cp) 32 M' wc)
      case first =>
        cases q
        · go_wp2_with fail
          go_meet
          exact ⟨_, HG4.out⟩
        · have c := below_any w.heap.size a len cap _ HG4.out.cur 5 (by omega) (by omega)
          go_wp2_with fail
          refine c.mono ?_
          rintro e w5 ⟨y, rfl, g0, g1, hc5, hk5⟩
          obtain ⟨KI, rfl⟩ : ∃ KI : Nat, y = KI := ⟨y.toNat, by omega⟩
          have hKI : KI < 32 := by omega
          have HG5 := hide (HG4.out.next hp2 hc5 hk5)
          clear c hc5 hk5 HG4 g0 g1
          have hb6 := bnew w5 (.cells #[.int .i64 (-1), .int .i64 0, .int .i64 1000000000000, .int .i64 1000000000001] 2)
          have HG6 := hide (HG5.out.next hp2 (HG5.out.cur.below hb6) (Kept.of_below hb6))
          have HW5 : Hid (w2.heap.size ≤ w5.heap.size) := HG5.out.kept.size
          have c := below_any w.heap.size a len cap _ HG6.out.cur 4 (by omega) (by omega)
          clear hb6 HG5
          go_wp2_with fail
          refine c.mono ?_
          rintro e w7 ⟨y, rfl, g0, g1, hc7, hk7⟩
          obtain ⟨Z, rfl⟩ : ∃ Z : Nat, y = Z := ⟨y.toNat, by omega⟩
          have hZ : Z < 4 := by omega
          obtain ⟨z, hz⟩ := lit4 (w := w5) (x0 := -1) (x1 := 0) (x2 := 1000000000000) (x3 := 1000000000001) Z hZ
          have hz7 := hk7.cell (a := ⟨w5.heap.size, Z, none⟩) (by have := HW5.out; show w5.heap.size ≠ _; omega) hz
          have HG7 := hide (HG6.out.next hp2 hc7 hk7)
          obtain ⟨b', cp', hbe, hbw, hcl⟩ := HG7.out.form (by omega)
          cases hbe
          obtain ⟨⟨z1, hz1'⟩, hf1⟩ := hcl KI (by omega)
          have HG8 := hide (HG7.out.set hp2 HAB2.out hbw KI z)
          clear c hc7 hk7 hz HG6 HG7 hcl g0 g1 HW5
          generalize w5.heap.size = X at *
          go_wp2_with fail
          go_meet
          exact ⟨_, HG8.out⟩
      case rest =>
        obtain ⟨M', hG⟩ := hcut
        have HG := hide hG
        clear hG HG4
        have c := once_any w.heap.size a len cap _ HG.out.cur 30 (by omega) (by omega)
        go_wp2_with fail
        refine c.mono ?_
        rintro e w5 ⟨q2, rfl, hc5, hk5⟩
        have HG5 := hide (HG.out.next hp2 hc5 hk5)
        have HE5 := hide (HE.out.next hp hc5 (HG.out.kept.trans hk5))
        clear c hc5 hk5 HG
        obtain ⟨ad, cpE, rfl, hnil, hpx⟩ := own_pxG HE5.out.own
        obtain ⟨ad2, cp2, he2, -, hpx2⟩ := own_pxG HG5.out.own
        cases he2
        rw [Nat.mul_one] at hpx2
        have HB5 : Hid (Below w.heap.size w w5) := HB1.out.trans ((HE5.out.kept.below (B := w.heap.size) (Nat.le_refl _) (by omega)))
        have HN := hide hnil
        have HX := hide hpx
        have HX2 := hide hpx2
        have hcap : (31 : Int) ≤ (cp : Int) := by
          obtain ⟨_, hv | ⟨b1, c1, cur, hv, _, _, hn1, _⟩⟩ := HG5.out.own
          · cases hv.1
          · cases hv; omega
        clear hnil hpx hpx2 HE HE5 HG5
        cases q2
        · have HR : Hid (DFR w (.returned (.tuple #[.slice ad m cpE, .slice (some ⟨b, 0, none⟩) 32 cp])) w5) := ⟨ad, m, cpE, _, b, 32, cp, _, rfl, hm, HN.out, HX.out, Nat.le_refl _, HX2.out, HB5.out⟩
          clear HN HX HX2 HB5
          go_wp2_with fail
          exact bodyPost_ret (v := .tuple #[.slice ad m cpE, .slice (some ⟨b, 0, none⟩) 32 cp]) (by simp [results, Try.results5, go_sem]) rfl HR.out
        · have HX3 : Hid (Px (some ⟨b, 0, none⟩) 31 (fun k => M'.getD k 0) w5) := by
            rcases HX2.out with h0 | ⟨b', off, ha, hcc⟩
            · omega
            · exact .inr ⟨b', off, ha, fun k hk => hcc k (by omega)⟩
          have HR : Hid (DFR w (.returned (.tuple #[.slice ad m cpE, .slice (some ⟨b, 0, none⟩) 31 cp])) w5) := ⟨ad, m, cpE, _, b, 31, cp, _, rfl, hm, HN.out, HX.out, by omega, HX3.out, HB5.out⟩
          clear HN HX HX2 HX3 HB5
          go_wp2_with fail
          exact bodyPost_ret (v := .tuple #[.slice ad m cpE, .slice (some ⟨b, 0, none⟩) 31 cp]) (by simp [results, Try.results5, go_sem]) rfl HR.out

end Go.Proofs.Ythfkdejlkegmoaa

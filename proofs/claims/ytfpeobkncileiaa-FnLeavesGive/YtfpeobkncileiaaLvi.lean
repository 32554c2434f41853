/- Given: the program. -/
import Derived.Test.YtfpeobkncileiaaLvn
import Derived.Test.YtfpeobkncileiaaPic
import Derived.Deep.RegionHeld
import Derived.BigRegion
namespace Go.Proofs.Ytfpeobkncileiaa
open Go.RowKit

set_option maxRecDepth 100000 in
set_option maxHeartbeats 4000000 in
theorem areLeaves_any (a : Option Addr) (m cap : Nat) (f : Nat → Int) (hl : m ≤ 1048576) (n : Int) (w : World) (h : Px a (m * 3) f w) :
    Calls Try.prog 19 #[.slice a m cap, .int .i64 n] w fun e w' => e = .returned (.bool (lvB n m f)) ∧ Below w.heap.size w w' := by
  have cW := fun x lo hi w' => within_any x lo hi w'
  have HP := hide h
  clear h
  unfold lvB
  cases h0 : inB n 0 64
  · have c0 := fun w' => cW n 0 64 w'
    simp only [h0] at c0
    simp only [Bool.false_and]
    clear cW h0
    go_enter Try.func19, Try.ntmps19
    go_wp2_with fail
    refine (c0 _).mono ?_
    rintro e w1 ⟨rfl, rfl⟩
    go_wp2_with fail
    go_ret
    exact ⟨rfl, Below.refl _ _⟩
  have hn0 := inB_iff.1 h0
  have c0 := fun w' => cW n 0 64 w'
  simp only [h0] at c0
  simp only [Bool.true_and]
  clear h0
  rcases Nat.lt_or_ge 64000 m with hm | hm
  · rw [decide_eq_false (by omega : ¬ m ≤ 64000), Bool.false_and]
    clear cW HP
    have hm' : (64000 : Int) < (m : Int) := by omega
    go_enter Try.func19, Try.ntmps19
    go_wp2_with fail
    refine (c0 _).mono ?_
    rintro e w1 ⟨rfl, rfl⟩
    go_wp2_with fail
    go_ret
    exact ⟨rfl, Below.refl _ _⟩
  rw [decide_eq_true hm, Bool.true_and]
  have hm' : ¬ (64000 : Int) < (m : Int) := by omega
  go_enter Try.func19, Try.ntmps19
  go_wp2_with fail
  refine (c0 _).mono ?_
  rintro e w1 ⟨rfl, rfl⟩
  clear c0
  go_wp2_with fail
  go_loopw [6, 17] (fun _ i wr => ∃ k : Nat, k ≤ m ∧ i = .int .i64 k ∧ allG (lfB n f) k = true ∧ Below w1.heap.size w1 wr) (fun _ i _ => m - (intOf i).toNat)
  case atStart => exact ⟨0, by omega, rfl, rfl, Below.refl _ _⟩
  case round =>
    obtain ⟨k, hk, rfl, hA, hb⟩ := hrel
    have HA := hide hA
    clear hA
    by_cases hlt : k < m
    · obtain ⟨b, off, rfl, hbl, z0, z1, z2⟩ := (HP.out.below hb).atLeaf hlt
      have HBn := hide (hb.alloc (Nat.le_trans (Nat.le_refl _) hb.size) (.cells #[.int .i64 (f (k * 3)), .int .i64 (f (k * 3 + 1)), .int .i64 (f (k * 3 + 2))] 42))
      have HF : Hid (∀ p : Bool, (inB (f (k * 3 + 1)) 1 n && (inB (f (k * 3)) 0 (f (k * 3 + 1) - 1) && inB (f (k * 3 + 2)) 1 1000)) = p → lfB n f k = p) := fun _ h => h
      have HU : Hid (1 ≤ f (k * 3 + 1) → f (k * 3 + 1) ≤ n → IntKind.i64.wrap (f (k * 3 + 1) - 1) = f (k * 3 + 1) - 1) := fun g0 g1 => by rw [IntKind.wrap_i64]; omega
      clear hb hbl hm hm' HP
      generalize f (k * 3) = L at *
      generalize f (k * 3 + 1) = R at *
      generalize f (k * 3 + 2) = U at *
      have d1 := fun w' => cW R 1 n w'
      have d2 := fun w' => cW L 0 (R - 1) w'
      have d3 := fun w' => cW U 1 1000 w'
      clear cW
      cases q1 : inB R 1 n
      · rw [q1, Bool.false_and] at HF
        have HFa : Hid (allG (lfB n f) m = false) := allG_no k hlt (HF.out _ rfl)
        simp only [q1] at d1
        clear q1 d2 d3 HF HU HA
        go_wp2_with fail
        refine (d1 _).mono ?_
        rintro e w2 ⟨rfl, rfl⟩
        go_wp2_with fail
        go_ret
        exact ⟨by rw [HFa.out]; rfl, HBn.out⟩
      have hR := inB_iff.1 q1
      have u1 := HU.out hR.1 hR.2
      simp only [q1] at d1
      rw [q1, Bool.true_and] at HF
      clear q1 HU
      cases q2 : inB L 0 (R - 1)
      · rw [q2, Bool.false_and] at HF
        have HFa : Hid (allG (lfB n f) m = false) := allG_no k hlt (HF.out _ rfl)
        simp only [q2] at d2
        clear q2 d3 HF HA hR hn0
        go_wp2_with fail
        refine (d1 _).mono ?_
        rintro e w2 ⟨rfl, rfl⟩
        go_wp2_with fail
        refine (d2 _).mono ?_
        rintro e w2 ⟨rfl, rfl⟩
        go_wp2_with fail
        go_ret
        exact ⟨by rw [HFa.out]; rfl, HBn.out⟩
      simp only [q2] at d2
      rw [q2, Bool.true_and] at HF
      clear q2
      cases q3 : inB U 1 1000
      · rw [q3] at HF
        have HFa : Hid (allG (lfB n f) m = false) := allG_no k hlt (HF.out _ rfl)
        simp only [q3] at d3
        clear q3 HF HA hR hn0
        go_wp2_with fail
        refine (d1 _).mono ?_
        rintro e w2 ⟨rfl, rfl⟩
        go_wp2_with fail
        refine (d2 _).mono ?_
        rintro e w2 ⟨rfl, rfl⟩
        go_wp2_with fail
        refine (d3 _).mono ?_
        rintro e w2 ⟨rfl, rfl⟩
        go_wp2_with fail
        go_ret
        exact ⟨by rw [HFa.out]; rfl, HBn.out⟩
      rw [q3] at HF
      have HAn : Hid (allG (lfB n f) (k + 1) = true) := by
        show (allG (lfB n f) k && lfB n f k) = true
        rw [HA.out, HF.out _ rfl]; rfl
      simp only [q3] at d3
      clear q3 HF HA hR hn0
      go_wp2_with fail
      refine (d1 _).mono ?_
      rintro e w2 ⟨rfl, rfl⟩
      go_wp2_with fail
      refine (d2 _).mono ?_
      rintro e w2 ⟨rfl, rfl⟩
      go_wp2_with fail
      refine (d3 _).mono ?_
      rintro e w2 ⟨rfl, rfl⟩
      go_wp2_with fail
      exact ⟨⟨k + 1, by omega, rfl, HAn.out, HBn.out⟩, by simp [intOf]; omega⟩
    · obtain rfl : k = m := by omega
      clear cW HP hn0 hm hm'
      go_wp2_with fail
      go_ret
      exact ⟨by rw [HA.out]; rfl, hb⟩

set_option maxRecDepth 100000 in
set_option maxHeartbeats 8000000 in
theorem implGiven_any (a : Option Addr) (m cap : Nat) (f : Nat → Int) (hl : m ≤ 1048576) (n : Int) (w : World) (h : Px a (m * 3) f w) :
    Calls Try.prog 8 #[.slice a m cap, .int .i64 n] w (LsR (gvN n m f) (fun q => gvS f q m) w) := by
  have c := areLeaves_any a m cap f hl n w h
  unfold gvN
  cases hq : lvB n m f
  · rw [hq] at c
    clear hq h
    go_enter Try.func8, Try.ntmps8
    go_wp2_with fail
    refine c.mono ?_
    rintro e w1 ⟨rfl, hb⟩
    have HB := hide hb
    clear hb c
    go_wp2_with fail
    go_ret
    exact ⟨_, _, 0, rfl, .inl rfl, .inl rfl, HB.out⟩
  obtain ⟨hn0, hn1, hm, hA⟩ := lvB_parts hq
  rw [hq] at c
  simp only [if_true]
  obtain ⟨N, rfl⟩ : ∃ N : Nat, n = (N : Int) := ⟨n.toNat, by omega⟩
  rw [Int.toNat_natCast]
  have HA := hide hA
  have HP := hide h
  have hmk := fun w' => make_px N (by omega) w'
  clear hq hA h hn0
  go_enter Try.func8, Try.ntmps8
  go_wp2_with fail
  refine c.mono ?_
  rintro e w1 ⟨rfl, hb⟩
  have HS2 := hide (((St.start w).next hb).own (bnew w1 (.cells (madeCells #[.int .i64 0] N) 2)) (row_new N w1).v (.inr (Nat.le_refl _)))
  have hw1 := hb.size
  clear c hb
  go_wp2_with fail
  clear hmk
  generalize w1.heap.size = B at *
  go_loopw [7, 8, 17] (fun _ _ i wr => ∃ k : Nat, k ≤ m ∧ i = .int .i64 k ∧ St w [] [(some ⟨B, 0, none⟩, B, N, fun q => .int .i64 (gvS f q k))] wr) (fun _ _ i _ => m - (intOf i).toNat)
  case atStart => exact ⟨0, by omega, rfl, HS2.out⟩
  case round =>
    obtain ⟨k, hk, rfl, hs⟩ := hrel
    obtain ⟨wo, rfl⟩ : ∃ wo, wo = wr := ⟨_, rfl⟩
    clear HS2
    by_cases hlt : k < m
    · obtain ⟨b, off, rfl, hbl, z0, z1, z2⟩ := (HP.out.below hs.below).atLeaf hlt
      have hF := lfB_iff.1 (HA.out k hlt)
      have HGv := hide (fun q => gvS_bd (n := (N : Int)) (f := f) q (k + 1) (fun i hi => HA.out i (by omega)))
      have HGm := hide (fun q => gvS_bd (n := (N : Int)) (f := f) q k (fun i hi => HA.out i (by omega)))
      have HS3 := hide (hs.box [.int .i64 (f (k * 3)), .int .i64 (f (k * 3 + 1)), .int .i64 (f (k * 3 + 2))] 42)
      have HE0 := hide (fun (p : Nat) (h : (p : Int) = f (k * 3)) q => gvM_at0 (f := f) (k := k) (p := p) h q)
      have HER := hide (fun (p : Nat) (h : (p : Int) = f (k * 3 + 1)) q => gvM_atR (f := f) (k := k) (p := p) h q)
      have HEh := hide (fun (p : Nat) (h0 : f (k * 3) ≤ (p : Int)) (h1 : (p : Int) < f (k * 3 + 1)) => gvM_here (f := f) (k := k) (p := p) h0 h1)
      obtain ⟨L, hL⟩ : ∃ L : Nat, f (k * 3) = (L : Int) := ⟨(f (k * 3)).toNat, by omega⟩
      obtain ⟨R, hR⟩ : ∃ R : Nat, f (k * 3 + 1) = (R : Int) := ⟨(f (k * 3 + 1)).toNat, by omega⟩
      rw [hL] at z0 hF HS3 HE0 HEh
      rw [hR] at z1 hF HS3 HER HEh
      have y0 := HS3.out.cell 0 rfl 0 rfl
      clear hs hbl HP HA hL hR
      generalize f (k * 3 + 2) = U at *
      go_wp2_with fail
      clear y0 z0 z1 z2
      generalize wo.heap.size = C at *
      go_loopw [8] (fun s wr => ∃ p : Nat, L ≤ p ∧ p ≤ R ∧ s = .int .i64 p ∧ St w [(C, [.int .i64 L, .int .i64 R, .int .i64 U])] [(some ⟨B, 0, none⟩, B, N, fun q => .int .i64 (gvM f k p q))] wr) (fun s _ => R - (intOf s).toNat)
      case atStart =>
        refine ⟨L, Nat.le_refl _, by omega, rfl, ?_⟩
        rw [show (fun q => Value.int .i64 (gvM f k L q)) = fun q => Value.int .i64 (gvS f q k) from funext fun q => by rw [HE0.out L rfl q]]
        exact HS3.out
      case round =>
        obtain ⟨p, hp0, hp1, rfl, hs⟩ := hrel
        clear HS3
        have y1 := hs.cell 0 rfl 1 rfl
        by_cases hpR : p < R
        · have y2 := hs.cell 0 rfl 2 rfl
          obtain ⟨d0, f0⟩ := hs.atO (k := p) (by omega)
          have hX := HEh.out p (by omega) (by omega)
          have b1 := HGv.out p
          have b2 := HGm.out p
          have HS4 := hide ((hs.upd (k := p) (by omega) (gvS f p (k + 1))).drew)
          rw [show (fun q => Value.int .i64 (updN (gvM f k p) p (gvS f p (k + 1)) q)) = fun q => Value.int .i64 (gvM f k (p + 1) q) from funext fun q => by rw [gvM_next]] at HS4
          have wX : IntKind.i64.wrap (gvM f k p p + U) = gvS f p (k + 1) := by rw [hX, IntKind.wrap_i64]; omega
          clear hs hX b1 b2 HGv HGm HE0 HER HEh
          generalize gvM f k p p = X1 at *
          generalize gvS f p (k + 1) = X2 at *
          go_upto_region 10 with fail
          go_region_with (fail)
          all_goals
            generalize (wr.setCell ⟨B, p, none⟩ (.int .i64 X2)).drew = wz at *
            clear d0 f0 y1 y2 wX
            go_wp2_with fail
            exact ⟨⟨p + 1, by omega, by omega, rfl, HS4.out⟩, by simp [intOf]; omega⟩
        · obtain rfl : p = R := by omega
          have HS5 : Hid (St w [] [(some ⟨B, 0, none⟩, B, N, fun q => .int .i64 (gvS f q (k + 1)))] wr) := by
            have := hs.sub (L' := []) (O' := [(some ⟨B, 0, none⟩, B, N, fun q => .int .i64 (gvM f k p q))]) (by simp) (by simp)
            rw [show (fun q => Value.int .i64 (gvM f k p q)) = fun q => Value.int .i64 (gvS f q (k + 1)) from funext fun q => by rw [HER.out p rfl q]] at this
            exact this
          clear hs HGv HGm HE0 HER HEh
          go_wp2_with fail
          exact ⟨⟨k + 1, by omega, rfl, HS5.out⟩, by simp [intOf]; omega⟩
    · obtain rfl : k = m := by omega
      have cA := allWithin_any 0 1000000000 (some ⟨B, 0, none⟩) N N (fun q => gvS f q k) (by omega) wo (hs.nthO 0 rfl).px
      have hall : alW (fun q => gvS f q k) 0 1000000000 N = true := alW_all fun q _ => by have := gvS_bd (n := (N : Int)) (f := f) q k (fun i hi => HA.out i hi); exact inB_iff.2 ⟨by omega, by omega⟩
      rw [hall] at cA
      have HSe := hide hs
      clear hs HA HP hall
      go_wp2_with fail
      refine cA.mono ?_
      rintro e w5 ⟨rfl, rfl⟩
      go_wp2_with fail
      go_ret
      exact ⟨_, _, B, rfl, (HSe.out.nthO 0 rfl).i, .inr hw1, HSe.out.below⟩

/-- all units, or nought -/
def luV (m : Nat) (f : Nat → Int) : Int := if lvB 64 m f = true then uS f m else 0

set_option maxRecDepth 100000 in
set_option maxHeartbeats 4000000 in
theorem implLeafUnits_any (a : Option Addr) (m cap : Nat) (f : Nat → Int) (hl : m ≤ 1048576) (w : World) (h : Px a (m * 3) f w) :
    Calls Try.prog 9 #[.slice a m cap] w fun e w' => e = .returned (.int .i64 (luV m f)) ∧ Below w.heap.size w w' := by
  have c := implGiven_any a m cap f hl 64 w h
  unfold luV
  unfold gvN LsR at c
  cases hq : lvB 64 m f
  · rw [hq] at c
    simp only [Bool.false_eq_true, if_false] at c
    simp only [Bool.false_eq_true, if_false]
    clear hq h
    have h0 : ((0 : Int) != 64) = true := rfl
    go_enter Try.func9, Try.ntmps9
    go_wp2_with fail
    refine c.mono ?_
    rintro e w1 ⟨a1, cap1, b1, rfl, -, -, hb⟩
    have HB := hide hb
    clear hb c
    go_wp2_with fail
    go_ret
    exact ⟨rfl, HB.out⟩
  obtain ⟨-, -, hm, hA⟩ := lvB_parts hq
  rw [hq] at c
  simp only [if_true] at c
  simp only [if_true]
  rw [show (64 : Int).toNat = 64 from rfl] at c
  have HA := hide hA
  have HP := hide h
  clear hq hA h
  go_enter Try.func9, Try.ntmps9
  go_wp2_with fail
  refine c.mono ?_
  rintro e w1 ⟨a1, cap1, b1, rfl, -, -, hb⟩
  clear c
  go_wp2_with fail
  go_loopw [3, 5, 12] (fun u _ i wr => ∃ k : Nat, k ≤ m ∧ i = .int .i64 k ∧ u = .int .i64 (uS f k) ∧ Below w.heap.size w wr) (fun _ _ i _ => m - (intOf i).toNat)
  case atStart => exact ⟨0, by omega, rfl, rfl, hb⟩
  case round =>
    obtain ⟨k, hk, rfl, rfl, hb⟩ := hrel
    by_cases hlt : k < m
    · obtain ⟨b, off, rfl, hbl, z0, z1, z2⟩ := (HP.out.below hb).atLeaf hlt
      have b1 := uS_bd k (fun i hi => HA.out i (by omega))
      have hF := lfB_iff.1 (HA.out k hlt)
      have HBn := hide (hb.alloc hb.size (.cells #[.int .i64 (f (k * 3)), .int .i64 (f (k * 3 + 1)), .int .i64 (f (k * 3 + 2))] 42))
      have hX : IntKind.i64.wrap (uS f k + f (k * 3 + 2)) = uS f (k + 1) := by
        show _ = uS f k + f (k * 3 + 2)
        rw [IntKind.wrap_i64]; omega
      clear hb hbl HP HA hF b1
      generalize uS f k = X at *
      obtain ⟨Y, hY⟩ : ∃ Y, Y = uS f (k + 1) := ⟨_, rfl⟩
      rw [← hY] at hX
      have HY := hide hY
      clear hY
      generalize f (k * 3) = L at *
      generalize f (k * 3 + 1) = R at *
      generalize f (k * 3 + 2) = U at *
      go_wp2_with fail
      exact ⟨⟨k + 1, by omega, rfl, by rw [HY.out], HBn.out⟩, by simp [intOf]; omega⟩
    · obtain rfl : k = m := by omega
      clear HA HP
      go_wp2_with fail
      go_ret
      exact ⟨rfl, hb⟩

end Go.Proofs.Ytfpeobkncileiaa

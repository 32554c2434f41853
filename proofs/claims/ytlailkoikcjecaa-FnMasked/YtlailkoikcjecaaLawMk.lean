/- The law on counts without the patients of small cells, walked. -/
import Derived.Test.YtlailkoikcjecaaWmk
import Derived.Test.YtlailkoikcjecaaLawCa
namespace Go.Proofs.Ytlailkoikcjecaa
open Go.RowKit

set_option maxRecDepth 100000 in
set_option maxHeartbeats 4000000 in
theorem fnMasked_walk (a : Option Addr) (len cap : Nat) (w : World) (h : Bytes a len w) :
    Calls Try.prog 4 #[.slice a len cap] w fun e w' => e = .returned (.bool true) ∧ Below w.heap.size w w' := by
  have cB := big_any a len cap w
  have cD := drawCount_any a len cap w h
  unfold DCR at cD
  clear h
  cases hbig : decide (1048576 < len)
  case true =>
    rw [hbig] at cB
    clear hbig cD
    go_enter Try.func4, Try.ntmps4
    go_wp2_with fail
    refine cB.mono ?_
    rintro e w1 ⟨rfl, rfl⟩
    clear cB
    go_wp2_with fail
    go_ret
    exact ⟨rfl, Below.refl _ _⟩
  rw [hbig] at cB
  clear hbig
  go_enter Try.func4, Try.ntmps4
  go_wp2_with fail
  refine cB.mono ?_
  rintro e w1 ⟨rfl, rfl⟩
  clear cB
  go_wp2_with fail
  refine cD.mono ?_
  rintro e w2 ⟨ad, m, cp, f, x, y, l, rfl, hm, hnil, hpx, hb⟩
  have HN := hide hnil
  have HB2 := hide hb
  have HP2 := hide hpx
  have hb3 := bnew w2 (cQuery x y 26)
  have HX3 : Hid (Bx w2.heap.size [.int .i64 x, .int .i64 y] (w2.alloc (cQuery x y 26))) := Bx.new [.int .i64 x, .int .i64 y] 26 w2
  have hs3 : w2.heap.size < (w2.alloc (cQuery x y 26)).heap.size := by simp
  have HB3 := hide (bnext hb (Nat.le_refl _) hb3)
  have HP3 := hide (hpx.below hb3)
  clear cD hnil hb hpx hb3 HB2 HP2
  go_upto_region 4 with fail
  generalize hw3 : w2.alloc (cQuery x y 26) = w3 at *
  clear hw3
  generalize w2.heap.size = X at *
  have i0 := (HX3.out 0 _ rfl).1
  have i1 := (HX3.out 1 _ rfl).1
  have cS := specCount_any ad m cp f (by omega) x y l w3 HP3.out
  have HV : Hid (cnV f m x y l = if cnOk f m x y l = true then ctS (clN f m) x y l 64 else -1) := rfl
  have HOK : Hid (cnOk f m x y l = true → ptsB f m = true ∧ inB x 0 255 = true ∧ inB y 0 255 = true ∧ inB l 1 200 = true) := fun h => by
    unfold cnOk at h
    simpa only [Bool.and_eq_true] using h
  cases hok : cnOk f m x y l
  · rw [hok] at HV
    rw [HV.out] at cS
    have q1 : ((-1 : Int) < 0) := by omega
    clear HOK hok HN HX3 HP3 HV
    go_wp2_with fail
    refine cS.mono ?_
    rintro e w4 ⟨rfl, hb4⟩
    have HF := hide (bnext HB3.out (Nat.le_refl _) hb4)
    clear cS hb4 i0 i1
    go_wp2_with fail
    go_ret
    exact ⟨rfl, HF.out⟩
  obtain ⟨k1, k2, k3, k4⟩ := HOK.out hok
  have hl := inB_at k4
  have hpt := ptsB_at k1
  have HPT := hide hpt.2.1
  have HBs : Hid (∀ c, 0 ≤ clN f m c ∧ clN f m c ≤ 200) := fun c => by have := clN_bd f m c; omega
  have v1 : cnV f m x y l = ctS (clN f m) x y l 64 := by rw [HV.out, hok]; rfl
  have b1 := ctS_bd HBs.out x y l 64
  rw [← v1] at b1
  have HMK := hide (cn_mask hok)
  have hlen := kpL_len f (clN f m) l m
  have cC := fun w' h => specCells_any ad m cp f (by omega) w' h
  unfold LsR at cC
  have hce : ceN f m = 64 := by unfold ceN; rw [k1]; rfl
  rw [hce] at cC
  have cI1 := fun ad' cp' w' h => implCount_any ad' m cp' f (by omega) x y l w' h
  have cI2 := fun ad' cp' w' h => implCount_any ad' (kpL f (clN f m) l m).length cp' (fun q => (tup f (kpL f (clN f m) l m)).getD q 0) (by omega) x y l w' h
  simp only [HMK.out] at cI2
  generalize hV1 : cnV f m x y l = V1 at *
  clear v1 hV1 HV HOK hok k1 k2 k3 k4 hpt HMK hce
  have n1 : ¬ V1 < 0 := by omega
  go_wp2_with fail
  refine cS.mono ?_
  rintro e w4 ⟨rfl, hb4⟩
  have HX4 := hide (HX3.out.below hb4 hs3)
  have HP4 := hide (HP3.out.below hb4)
  have HB4 := hide (bnext HB3.out (Nat.le_refl _) hb4)
  have hs4 : X < w4.heap.size := Nat.lt_of_lt_of_le hs3 hb4.size
  clear cS hb4 HX3 HP3 HB3 i0 i1 hs3
  go_wp2_with fail
  refine (cC _ HP4.out).mono ?_
  rintro e w5 ⟨aC, cC2, bC, rfl, hO, -, hb5⟩
  have HC5 := hide hO.px
  have HX5 := hide (HX4.out.below hb5 hs4)
  have HP5 := hide (HP4.out.below hb5)
  have HB5 := hide (bnext HB4.out (Nat.le_refl _) hb5)
  have hs5 : X < w5.heap.size := Nat.lt_of_lt_of_le hs4 hb5.size
  clear cC hO hb5 HX4 HP4 HB4 hs4
  have hb6 := bnew w5 (.cells #[] 31)
  have HO6 : Hid ((w5.alloc (.cells #[] 31)).ownsRow w5.heap.size 31 4 (.slice (some ⟨w5.heap.size, 0, none⟩) 0 0) 0 (ints [])) := World.ownsRow_lit w5 #[] 0 (Nat.le_refl _) (by unfold maxLen; omega) rfl
  go_upto_region 9 with fail
  generalize hw6 : w5.alloc (.cells #[] 31) = w6 at *
  clear hw6
  generalize hv6 : Value.slice (some ⟨w5.heap.size, 0, none⟩) 0 0 = v6 at *
  clear hv6
  have HB6 := hide hb6
  clear hb6
  go_wp2_with fail
  go_loopw [8, 9] (fun s i wr => ∃ (v : Value) (k : Nat), v = s ∧ k ≤ m ∧ i = .int .i64 k ∧ wr.ownsRow w5.heap.size 31 4 v (kpL f (clN f m) l k).length (ints (tup f (kpL f (clN f m) l k))) ∧ Below w5.heap.size w5 wr) (fun _ i _ => m - (intOf i).toNat)
  case atStart => exact ⟨v6, 0, rfl, by omega, rfl, HO6.out, HB6.out⟩
  case round =>
    obtain ⟨v, k, rfl, hk, rfl, hO, hb⟩ := hrel
    have HO := hide hO
    have HB := hide hb
    clear hO hb HO6 HB6
    by_cases hlt : k < m
    · obtain ⟨b, off, rfl, -, z0, z1, z2, z3⟩ := (HP5.out.below HB.out).atPatient hlt
      obtain ⟨⟨t0, t1⟩, ⟨u0, u1⟩, -⟩ := ptAt_at (HPT.out k hlt)
      obtain ⟨C, hC⟩ : ∃ C, C = clK f k := ⟨_, rfl⟩
      have hC1 : 8 * f (k * 4 + 1) + f (k * 4 + 2) = (C : Int) := by rw [hC]; unfold clK; omega
      have hC2 : C < 64 := by omega
      obtain ⟨b2, off2, rfl, zc⟩ := (HC5.out.below HB.out).at hC2
      have HKE : Hid (kpL f (clN f m) l (k + 1) = if l ≤ clN f m C then kpL f (clN f m) l k ++ [k] else kpL f (clN f m) l k) := by rw [hC]; rfl
      have HTS := hide (tup_snoc f k (kpL f (clN f m) l k))
      have hkl := kpL_len f (clN f m) l k
      have HBd : Hid (Below w5.heap.size w5 wr.drew) := HB.out.drew
      have HOd : Hid (wr.drew.ownsRow w5.heap.size 31 4 v (kpL f (clN f m) l k).length (ints (tup f (kpL f (clN f m) l k)))) := HO.out
      have HSd : Hid (w5.heap.size ≤ wr.drew.heap.size) := HBd.out.size
      generalize kpL f (clN f m) l k = A at *
      generalize clN f m C = sC at *
      clear hC
      generalize f (k * 4) = x0 at *
      generalize f (k * 4 + 1) = x1 at *
      generalize f (k * 4 + 2) = x2 at *
      generalize f (k * 4 + 3) = x3 at *
      by_cases hle : l ≤ sC
      · rw [if_pos hle] at HKE
        clear HO HB
        go_wp2_with fail
        go_region
        all_goals
          go_wp2_with (refine growPt _ rfl _ _ rfl w5.heap.size v A.length (tup f A) rfl w5 HOd.out HBd.out HSd.out x0 x1 x2 x3 rfl (by omega) ?_)
          intro v' w' ho' hb' hs'
          rw [← HTS.out] at ho'
          have HO8 : Hid (w'.ownsRow w5.heap.size 31 4 v' (kpL f (clN f m) l (k + 1)).length (ints (tup f (kpL f (clN f m) l (k + 1))))) := by
            show World.ownsRow _ _ _ _ _ _ _
            rw [HKE.out, List.length_append, List.length_singleton]; exact ho'
          have HB8 := hide hb'
          clear ho' hb' hs' HOd HBd HSd z0 z1 z2 z3 zc
          go_wp2_with fail
          exact ⟨⟨v', k + 1, rfl, by omega, rfl, HO8.out, HB8.out⟩, by simp [intOf]; omega⟩
      · rw [if_neg hle] at HKE
        clear HO HB
        go_wp2_with fail
        go_region
        all_goals
          go_wp2_with fail
          exact ⟨⟨v, k + 1, rfl, by omega, rfl, by rw [HKE.out]; exact HOd.out, HBd.out⟩, by simp [intOf]; omega⟩
    · obtain rfl : k = m := by omega
      obtain ⟨ad6, cp6, rfl, -, hp6⟩ := own_px HO.out
      have HX6 := hide (HX5.out.below HB.out hs5)
      have HP6 := hide (HP5.out.below HB.out)
      have HF6 := hide (bnext HB5.out (Nat.le_refl _) HB.out)
      have hs6 : X < wr.heap.size := Nat.lt_of_lt_of_le hs5 HB.out.size
      have i0 := (HX6.out 0 _ rfl).1
      have i1 := (HX6.out 1 _ rfl).1
      have cR := cI2 _ cp6 _ hp6
      clear HO HB HX5 HP5 HB5 HC5 hs5 hp6 cI2
      generalize (kpL f (clN f k) l k).length = R at *
      go_wp2_with fail
      refine cR.mono ?_
      rintro e w7 ⟨rfl, hb7⟩
      have HP7 := hide (HP6.out.below hb7)
      have HX7 := hide (HX6.out.below hb7 hs6)
      have HF7 := hide (bnext HF6.out (Nat.le_refl _) hb7)
      clear i0 i1
      have i0 := (HX7.out 0 _ rfl).1
      have i1 := (HX7.out 1 _ rfl).1
      clear hb7 HP6 HX6 HF6 hs6 cR
      go_wp2_with fail
      refine (cI1 _ _ _ HP7.out).mono ?_
      rintro e w8 ⟨rfl, hb8⟩
      have HF8 := hide (bnext HF7.out (Nat.le_refl _) hb8)
      clear hb8 HP7 HX7 HF7 i0 i1 cI1
      go_wp2_with fail
      go_ret
      exact ⟨by simp, HF8.out⟩

end Go.Proofs.Ytlailkoikcjecaa

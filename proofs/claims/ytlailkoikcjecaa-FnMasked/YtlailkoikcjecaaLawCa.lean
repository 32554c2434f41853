/- The law on counts that add up, walked. -/
import Derived.Test.YtlailkoikcjecaaWct
import Derived.Test.YtlailkoikcjecaaDct
import Derived.Laws.AppendOwnNone
namespace Go.Proofs.Ytlailkoikcjecaa
open Go.RowKit

/-- a list of patients that lies somewhere is appended to one of the call's own -/
theorem growCP (w : World) {ops : Array Oper} {rest : List Oper} {o : Oper} {a : Act} {Q : Exit → Act → World → Prop} (hgd : o.guard = none) (s x : Operand)
    (ho : o.op = .call { callee := .builtin .append, args := #[s, x], argTypes := #[24, 24] }) (B : Nat) (v : Value) (n : Nat) (L : List Int) (hs : a.eval s = v) (w0 : World) (hown : w.ownsRow B 31 4 v n (ints L))
    (hb : Below B w0 w) (hB : B ≤ w.heap.size) (ad : Option Addr) (m c : Nat) (f : Nat → Int) (hx : a.eval x = .slice ad m c) (hnil : ad = none → m = 0 ∧ c = 0) (hpx : Px ad (m * 4) f w) (hn : n + m ≤ 100000)
    (h : ∀ v' w', w'.ownsRow B 31 4 v' (n + m) (ints (L ++ fl f (m * 4))) → Below B w0 w' → wpList Try.prog ops Q rest (a.put o.dst v') w') :
    wpList Try.prog ops Q (o :: rest) a w := by
  obtain ⟨ti, hi1, hi2, hi3, hi4⟩ := infoPt
  cases ad with
  | none =>
    obtain ⟨rfl, rfl⟩ := hnil rfl
    refine wpList_append_own_none hgd s x 24 ho B 31 ti 4 Try.underlying24 hi1 v n (ints L) hs hown hx ?_
    refine h v w ?_ hb
    simpa [fl] using hown
  | some ad =>
    refine wpList_append_own _ hgd s x 24 ho B 31 ti (vPatient 0 0 0 0) 4 32 Try.underlying24 hi1 hi2 hi3 hi4 rfl (by omega) v n (ints L) hs hown ad m c (ints (fl f (m * 4))) hx (by rw [ints_length, fl_len]) ?_ (ints_one _) (by unfold maxLen; omega) (by omega) hB ?_
    · intro j u hu
      have hj : j < m * 4 := by
        have := (List.getElem?_eq_some_iff.1 hu).1
        rwa [ints_length, fl_len] at this
      rcases hpx with h0 | ⟨b, off, ha, hc⟩
      · omega
      · cases ha
        rw [show (⟨b, off, none⟩ : Addr).add j = ⟨b, off + j, none⟩ by unfold Addr.add; split <;> simp_all, hc j hj, ← hu, ints_at _ _ (by rw [fl_len]; exact hj), fl_at _ _ _ hj]
    · intro v' w' h1 h2 _
      have hr3 : ∀ q, Value.ownBlock v = some q → B ≤ q := fun q hq => (hown.lt q hq).1
      have hB3 : Below B w w' := (Below.refl _ _).grown h2 hB hr3
      refine h v' w' ?_ (hb.trans hB3)
      rw [ints_append]; exact h1
theorem px_fl {a : Option Addr} {n : Nat} {f : Nat → Int} {w : World} (h : Px a n (fun k => (fl f n).getD k 0) w) : Px a n f w := by
  rcases h with h | ⟨b, off, ha, h⟩
  · exact .inl h
  · exact .inr ⟨b, off, ha, fun k hk => by rw [h k hk]; show some (Value.int .i64 ((fl f n).getD k 0)) = _; rw [fl_at f n k hk]⟩

set_option maxRecDepth 100000 in
set_option maxHeartbeats 4000000 in
theorem fnCountsAdd_walk (a : Option Addr) (len cap : Nat) (w : World) (h : Bytes a len w) :
    Calls Try.prog 3 #[.slice a len cap] w fun e w' => e = .returned (.bool true) ∧ Below w.heap.size w w' := by
  have cB := big_any a len cap w
  have cD := drawCount_any a len cap w h
  unfold DCR at cD
  clear h
  cases hbig : decide (1048576 < len)
  case true =>
    rw [hbig] at cB
    clear hbig cD
    go_enter Try.func3, Try.ntmps3
    go_wp2_with fail
    refine cB.mono ?_
    rintro e w1 ⟨rfl, rfl⟩
    clear cB
    go_wp2_with fail
    go_ret
    exact ⟨rfl, Below.refl _ _⟩
  rw [hbig] at cB
  clear hbig
  go_enter Try.func3, Try.ntmps3
  go_wp2_with fail
  refine cB.mono ?_
  rintro e w1 ⟨rfl, rfl⟩
  clear cB
  go_wp2_with fail
  refine cD.mono ?_
  rintro e w2 ⟨ad, m, cp, f, x, y, l, rfl, hm, hnil, hpx, hb⟩
  have HN := hide hnil
  have HB2 := hide hb
  have HP2 := hide hpx
  have hb3 := bnew w2 (cQuery x y 26)
  have HX3 : Hid (Bx w2.heap.size [.int .i64 x, .int .i64 y] (w2.alloc (cQuery x y 26))) := Bx.new [.int .i64 x, .int .i64 y] 26 w2
  have hs3 : w2.heap.size < (w2.alloc (cQuery x y 26)).heap.size := by simp
  have HB3 := hide (bnext hb (Nat.le_refl _) hb3)
  have HP3 := hide (hpx.below hb3)
  clear cD hnil hb hpx hb3 HB2 HP2
  go_upto_region 4 with fail
  generalize hw3 : w2.alloc (cQuery x y 26) = w3 at *
  clear hw3
  generalize w2.heap.size = X at *
  have i0 := (HX3.out 0 _ rfl).1
  have i1 := (HX3.out 1 _ rfl).1
  have cS := specCount_any ad m cp f (by omega) x y l w3 HP3.out
  have HV : Hid (cnV f m x y l = if cnOk f m x y l = true then ctS (clN f m) x y l 64 else -1) := rfl
  have HOK : Hid (cnOk f m x y l = true → ptsB f m = true ∧ inB x 0 255 = true ∧ inB y 0 255 = true ∧ inB l 1 200 = true) := fun h => by
    unfold cnOk at h
    simpa only [Bool.and_eq_true] using h
  cases hok : cnOk f m x y l
  · rw [hok] at HV
    rw [HV.out] at cS
    have q1 : ((-1 : Int) < 0) := by omega
    clear HOK hok HN HX3 HP3 HV
    go_wp2_with fail
    refine cS.mono ?_
    rintro e w4 ⟨rfl, hb4⟩
    have HF := hide (bnext HB3.out (Nat.le_refl _) hb4)
    clear cS hb4 i0 i1
    go_wp2_with fail
    go_ret
    exact ⟨rfl, HF.out⟩
  obtain ⟨k1, k2, k3, k4⟩ := HOK.out hok
  have hx := inB_at k2
  have hy := inB_at k3
  have hl := inB_at k4
  have hpt := ptsB_at k1
  have HBs : Hid (∀ c, 0 ≤ clN f m c ∧ clN f m c ≤ 200) := fun c => by have := clN_bd f m c; omega
  have v1 : cnV f m x y l = ctS (clN f m) x y l 64 := by rw [HV.out, hok]; rfl
  have v2 : cnV f m (255 - x) y l = ctS (clN f m) (255 - x) y l 64 := by unfold cnV cnOk; rw [k1, (inB_iff (255 - x) 0 255).2 (by omega), k3, k4]; rfl
  have v3 : cnV f m 255 y l = ctS (clN f m) 255 y l 64 := by unfold cnV cnOk; rw [k1, (inB_iff 255 0 255).2 (by omega), k3, k4]; rfl
  have v4 : cnV f m 255 255 1 = ctS (clN f m) 255 255 1 64 := by unfold cnV cnOk; rw [k1, (inB_iff 255 0 255).2 (by omega), (inB_iff 1 1 200).2 (by omega)]; rfl
  have b1 := ctS_bd HBs.out x y l 64
  have b2 := ctS_bd HBs.out (255 - x) y l 64
  have hsum := ct_add (s := clN f m) (y := y) (l := l) hx.1 hx.2 64 (Nat.le_refl _)
  have hge := ct_ge (s := clN f m) (fun c => (HBs.out c).1) (x := x) (y := y) hl.1 64
  have hall := ct_all (s := clN f m) (fun c => (HBs.out c).1) 64 (Nat.le_refl _)
  rw [sm_cells m hpt.2.1] at hall
  rw [v1] at cS
  have cI1 := fun ad' cp' w' h => implCount_any ad' m cp' f (by omega) x y l w' h
  have cI2 := fun ad' cp' w' h => implCount_any ad' m cp' f (by omega) (255 - x) y l w' h
  have cI3 := fun ad' cp' w' h => implCount_any ad' m cp' f (by omega) 255 y l w' h
  have cI4 := fun ad' cp' w' h => implCount_any ad' m cp' f (by omega) 255 255 1 w' h
  simp only [v1] at cI1
  simp only [v2] at cI2
  simp only [v3] at cI3
  simp only [v4, hall] at cI4
  generalize ctS (clN f m) x y l 64 = V1 at *
  generalize ctS (clN f m) (255 - x) y l 64 = V2 at *
  generalize ctS (clN f m) 255 y l 64 = V3 at *
  have HG := hide hge
  have HSM := hide hsum
  clear v1 v2 v3 v4 hall HV HOK hok HBs k1 k2 k3 k4 hpt hge hsum
  have n1 : ¬ V1 < 0 := by omega
  go_wp2_with fail
  refine cS.mono ?_
  rintro e w4 ⟨rfl, hb4⟩
  have HX4 := hide (HX3.out.below hb4 hs3)
  have HP4 := hide (HP3.out.below hb4)
  have HB4 := hide (bnext HB3.out (Nat.le_refl _) hb4)
  have hs4 : X < w4.heap.size := Nat.lt_of_lt_of_le hs3 hb4.size
  have hb5 := bnew w4 (.cells #[] 31)
  have HO5 : Hid ((w4.alloc (.cells #[] 31)).ownsRow w4.heap.size 31 4 (.slice (some ⟨w4.heap.size, 0, none⟩) 0 0) 0 (ints [])) := World.ownsRow_lit w4 #[] 0 (Nat.le_refl _) (by unfold maxLen; omega) rfl
  have HP5 := hide (HP4.out.below hb5)
  have hs5 : w4.heap.size < (w4.alloc (.cells #[] 31)).heap.size := by simp
  have HB5 := hide hb5
  clear cS hb4 HX3 HP3 HB3 i0 i1 hb5 hs3
  go_wp2_with (refine growCP _ rfl _ _ rfl w4.heap.size _ 0 [] rfl w4 HO5.out HB5.out (Nat.le_of_lt hs5) ad m cp f rfl HN.out HP5.out (by omega) ?_)
  intro v' w6 ho6 hb6
  obtain ⟨ad6, cp6, rfl, -, hp6⟩ := own_px ho6
  have HQ6 := hide (px_fl hp6)
  have HP6 := hide (HP4.out.below hb6)
  have HX6 := hide (HX4.out.below hb6 hs4)
  have HB6 := hide (bnext HB4.out (Nat.le_refl _) hb6)
  have hs6 : X < w6.heap.size := Nat.lt_of_lt_of_le hs4 hb6.size
  have i0 := (HX6.out 0 _ rfl).1
  have i1 := (HX6.out 1 _ rfl).1
  clear ho6 hb6 hp6 HO5 HP5 HB5 hs5 HX4 HP4 HB4 hs4 HN
  go_wp2_with fail
  refine (cI1 _ _ _ HQ6.out).mono ?_
  rintro e w7 ⟨rfl, hb7⟩
  have HQ7 := hide (HQ6.out.below hb7)
  have HP7 := hide (HP6.out.below hb7)
  have HX7 := hide (HX6.out.below hb7 hs6)
  have HB7 := hide (bnext HB6.out (Nat.le_refl _) hb7)
  have hs7 : X < w7.heap.size := Nat.lt_of_lt_of_le hs6 hb7.size
  clear i0 i1
  have i0 := (HX7.out 0 _ rfl).1
  have i1 := (HX7.out 1 _ rfl).1
  clear hb7 HQ6 HP6 HX6 HB6 hs6 cI1
  go_wp2_with fail
  refine (cI2 _ _ _ HQ7.out).mono ?_
  rintro e w8 ⟨rfl, hb8⟩
  have HQ8 := hide (HQ7.out.below hb8)
  have HP8 := hide (HP7.out.below hb8)
  have HX8 := hide (HX7.out.below hb8 hs7)
  have HB8 := hide (bnext HB7.out (Nat.le_refl _) hb8)
  have hs8 : X < w8.heap.size := Nat.lt_of_lt_of_le hs7 hb8.size
  clear i0 i1
  have i0 := (HX8.out 0 _ rfl).1
  have i1 := (HX8.out 1 _ rfl).1
  clear hb8 HQ7 HP7 HX7 HB7 hs7 cI2
  go_wp2_with fail
  refine (cI3 _ _ _ HQ8.out).mono ?_
  rintro e w9 ⟨rfl, hb9⟩
  have HQ9 := hide (HQ8.out.below hb9)
  have HP9 := hide (HP8.out.below hb9)
  have HB9 := hide (bnext HB8.out (Nat.le_refl _) hb9)
  clear i0 i1 hb9 HQ8 HP8 HX8 HB8 hs8 cI3
  go_wp2_with fail
  refine (cI4 _ _ _ HQ9.out).mono ?_
  rintro e w10 ⟨rfl, hb10⟩
  have HP10 := hide (HP9.out.below hb10)
  have HB10 := hide (bnext HB9.out (Nat.le_refl _) hb10)
  clear hb10 HQ9 HP9 HB9 cI4
  go_wp2_with fail
  go_loop [11, 12] (fun t i => ∃ k : Nat, k ≤ m ∧ i = .int .i64 k ∧ t = .int .i64 (cnC f k)) (fun _ i => m - (intOf i).toNat)
  case atStart => exact ⟨0, by omega, rfl, rfl⟩
  case round =>
    obtain ⟨k, hk, rfl, rfl⟩ := hrel
    have hcb := cnC_bd f k
    by_cases hlt : k < m
    · obtain ⟨b, off, rfl, -, z0, z1, z2, z3⟩ := HP10.out.atPatient hlt
      have HK : Hid (cnC f (k + 1) = if 2 ≤ f (k * 4 + 3) then cnC f k + 1 else cnC f k) := rfl
      generalize f (k * 4 + 3) = y3 at *
      clear z0 z1 z2 HP10
      by_cases h2 : 2 ≤ y3
      · rw [if_pos h2] at HK
        generalize cnC f k = t at *
        go_wp2_with fail
        exact ⟨⟨k + 1, by omega, rfl, by rw [HK.out]⟩, by simp [intOf]; omega⟩
      · rw [if_neg h2] at HK
        generalize cnC f k = t at *
        go_wp2_with fail
        exact ⟨⟨k + 1, by omega, rfl, by rw [HK.out]⟩, by simp [intOf]; omega⟩
    · obtain rfl : k = m := by omega
      clear HP10
      generalize cnC f k = t at *
      have hsum := HSM.out
      have hV3 : V1 + V2 = V3 := hsum
      subst hV3
      by_cases e1 : l = 1
      · subst e1
        clear HG HSM
        go_wp2_with fail
        go_ret
        exact ⟨by simp, HB10.out⟩
      · have e1b : (l == 1) = false := by simpa using e1
        rcases HG.out with e2 | e2
        · subst e2
          clear HG HSM
          go_wp2_with fail
          go_ret
          exact ⟨by simp, HB10.out⟩
        · have e3 : ¬ V1 = 0 := by omega
          have e3b : (V1 == 0) = false := by simpa using e3
          clear HG HSM
          go_wp2_with fail
          go_ret
          exact ⟨by simp, HB10.out⟩

end Go.Proofs.Ytlailkoikcjecaa

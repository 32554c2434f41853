/- The law FnTones, walked: the blend of one coil alone is its tones. -/
import Derived.Test.YtfgjooddolnifaaFzr
import Derived.Test.YtfgjooddolnifaaZSumD2
import Derived.Test.YtfgjooddolnifaaZOrdC
import Derived.Test.YtfgjooddolnifaaZBig
namespace Go.Proofs.Ytfgjooddolnifaa
open Ieee Go.RowKit
attribute [local go_sem] run_store_float alloc_drewN setCell_drewN shape?_drewN

theorem okey_same {a b : Nat} (h : same a b) : Z.okey a = Z.okey b := by
  rcases h with rfl | ⟨h1, h2⟩
  · rfl
  · rw [Z.okey_nan h1, Z.okey_nan h2]
theorem order_same (a b : Nat) (h : same a b) (w : World) :
    Calls Try.prog 12 #[.float .f64 a, .float .f64 b] w fun e w' => e = .returned (.int .i64 0) ∧ w' = w := by
  refine (Z.order_spec a b w).mono ?_
  rintro e w' ⟨rfl, rfl⟩
  refine ⟨?_, rfl⟩
  rw [okey_same h]
  unfold Z.cmpI
  rw [if_neg (by omega), if_neg (by omega)]

/-- two lists of words as one -/
def zip2 (re im : Nat → Nat) (k : Nat) : Nat := if k % 2 = 0 then re (k / 2) else im (k / 2)
theorem pxv_of_cs {a : Option Addr} {n : Nat} {re im : Nat → Nat} {w : World} (h : Z.Cs a n re im w) : PxV a (n * 2) (flt (zip2 re im)) w := by
  rcases h with h | ⟨b, off, ha, h⟩
  · exact .inl (by omega)
  · refine .inr ⟨b, off, ha, fun k hk => ?_⟩
    have := h (k / 2) (by omega)
    show _ = some (Value.float .f64 (zip2 re im k))
    unfold zip2
    by_cases e : k % 2 = 0
    · rw [if_pos e, ← this.1]
      congr 2; omega
    · rw [if_neg e, ← this.2]
      congr 2; omega

theorem drawTones_any (a : Option Addr) (len cap : Nat) (w : World) (h : Z.Bytes a len w) :
    Calls Try.prog 9 #[.slice a len cap] w fun e w' => ∃ a' n cap' F, e = .returned (.slice a' n cap') ∧ n ≤ 4097 ∧ PxV a' (n * 2) (flt F) w' ∧ Below w.heap.size w w' := by
  have c := Z.drawSum_any a len cap w h
  clear h
  go_enter Try.func9, Try.ntmps9
  go_wp2_with fail
  refine c.mono ?_
  rintro e w1 ⟨a', n, cap', re, im, rfl, h1, h2, h3, h4, h5⟩
  have H4 := hide (pxv_of_cs h4)
  have H5 := hide h5
  clear c h4 h5 h3 h2
  go_wp2_with fail
  go_ret
  exact ⟨a', n, cap', _, rfl, h1, H4.out, H5.out⟩

set_option maxRecDepth 100000 in
theorem infoC : ∃ i, Try.prog.info? 34 = some i ∧ i.zero = some (cx 0 0) ∧ i.size = 2 ∧ i.bytes = 16 := ⟨_, rfl, rfl, rfl, rfl⟩
theorem src_cells {p : Addr} {n : Nat} {F : Nat → Nat} {w : World} (h : PxV (some p) (n * 2) (flt F) w) : ∀ (j : Nat) (u : Value), (fls ((List.range (n * 2)).map F))[j]? = some u → w.cell? (p.add j) = some u := by
  intro j u hu
  have hj : j < n * 2 := by
    have := (List.getElem?_eq_some_iff.1 hu).1
    rw [fls_length] at this
    simpa using this
  obtain ⟨b, off, e, -, hc⟩ := h.at (by omega)
  cases e
  have e2 : (⟨b, off, none⟩ : Addr).add j = ⟨b, off + j, none⟩ := by by_cases h0 : j = 0 <;> simp [Addr.add, h0]
  rw [e2, hc j hj]
  unfold fls at hu
  rw [List.getElem?_map, List.getElem?_map, List.getElem?_range hj] at hu
  exact hu

set_option maxRecDepth 100000 in
set_option maxHeartbeats 2000000 in
theorem fnTones_walk (a0 : Option Addr) (l0 c0 : Nat) (w : World) (h0 : Z.Bytes a0 l0 w) :
    Calls Try.prog 3 #[.slice a0 l0 c0] w fun e w' => e = .returned (.bool true) ∧ Below w.heap.size w w' := by
  have cB := Z.big_any a0 l0 c0
  have cD := drawTones_any a0 l0 c0 w h0
  clear h0
  by_cases hb : 1048576 < l0
  · rw [decide_eq_true hb] at cB
    clear cD
    go_enter Try.func3, Try.ntmps3
    go_wp2_with fail
    refine (cB _).mono ?_
    rintro e w1 ⟨rfl, rfl⟩
    go_wp2_with fail
    go_ret
    exact ⟨rfl, Below.refl _ _⟩
  rw [decide_eq_false hb] at cB
  go_enter Try.func3, Try.ntmps3
  go_wp2_with fail
  refine (cB _).mono ?_
  rintro e w ⟨rfl, rfl⟩
  clear cB hb
  go_wp2_with fail
  refine cD.mono ?_
  rintro e w1 ⟨a, n, cap, F, rfl, hn, hp, hb1⟩
  have HP := hide hp
  have HB1 := hide hb1
  have cT := fun w' h => implTones_any a n cap F (by omega) w' h
  unfold LsP at cT
  clear cD hp hb1
  by_cases h4 : 4096 < n
  · have h4' : (4096 : Int) < (n : Int) := by omega
    have e0 : tonN n = 0 := by unfold tonN; rw [if_pos h4]
    rw [e0] at cT
    clear e0
    go_wp2_with fail
    refine (cT _ HP.out).mono ?_
    rintro e w2 ⟨a2, c2, b2, r2, rfl, -, -, hb2, -⟩
    have HB2 := hide (bnext HB1.out (Nat.le_refl _) hb2)
    clear hb2 cT
    go_wp2_with fail
    go_ret
    exact ⟨rfl, HB2.out⟩
  have h4' : ¬ (4096 : Int) < (n : Int) := by omega
  have e0 : tonN n = n := by unfold tonN; rw [if_neg h4]
  rw [e0] at cT
  clear e0
  go_wp2_with fail
  refine (cT _ HP.out).mono ?_
  rintro e w2 ⟨a2, c2, b2, r2, rfl, ho2, -, hb2, hp2⟩
  have HP2 := hide (HP.out.below hb2)
  have HO2 := hide ho2.pxv
  have HB2 := hide (bnext HB1.out (Nat.le_refl _) hb2)
  have HT2 := hide hp2
  clear hb2 cT HP HB1 ho2 hp2
  have HI := hide infoC
  obtain ⟨ti, hi1, hi2, hi3, hi4⟩ := HI.out
  have HI1 := hide hi1
  have HE := hide (World.ownsRow_lit (e := 34) (size := 2) w2 #[] 0 (Nat.le_refl _) (by unfold maxLen; omega) rfl)
  have HBe := hide (bnew w2 (.cells #[] 34))
  clear hi1 HI
  cases a with
  | none =>
    obtain rfl : n = 0 := by
      rcases HP2.out with h | ⟨b, off, h, _⟩
      · omega
      · cases h
    have hpx : PxS (some ⟨w2.heap.size + 1, 0, none⟩) 1 (fun _ => some ⟨w2.heap.size, 0, none⟩) (fun _ => 0) (fun _ => 0) (fun _ => F) ((w2.alloc (.cells #[] 34)).alloc (.cells #[.slice (some ⟨w2.heap.size, 0, none⟩) 0 0] 24)) :=
      ⟨.inr ⟨w2.heap.size + 1, 0, rfl, fun k hk => by obtain rfl : k = 0 := by omega
                                                      simp [go_sem]⟩, fun i hi => .inl (by simp)⟩
    have cBl := implBlend_any (some ⟨w2.heap.size + 1, 0, none⟩) 1 1 (fun _ => some ⟨w2.heap.size, 0, none⟩) (fun _ => 0) (fun _ => 0) (fun _ => F) (by omega) _ hpx
    have hbn : blN 1 (fun _ => 0) = 0 := by
      unfold blN
      split <;> rfl
    unfold LsP at cBl
    rw [hbn] at cBl
    have HBx := hide (bnext (bnext HB2.out (Nat.le_refl _) HBe.out) (Nat.le_refl _) (bnew (w2.alloc (.cells #[] 34)) (.cells #[.slice (some ⟨w2.heap.size, 0, none⟩) 0 0] 24)))
    clear hpx hbn HE HBe HI1 HT2 HO2 HP2 HB2
    go_wp2_with fail
    refine cBl.mono ?_
    rintro e w5 ⟨a5, c5, b5, r5, rfl, -, -, hb5, -⟩
    have HB5 := hide (bnext HBx.out (Nat.le_refl _) hb5)
    clear cBl hb5 HBx
    go_wp2_with fail
    go_loopw [6] (fun i wr => i = .int .i64 0 ∧ wr = w5) (fun _ _ => 0)
    case atStart => exact ⟨rfl, rfl⟩
    case round =>
      obtain ⟨rfl, rfl⟩ := hrel
      go_wp2_with fail
      go_ret
      exact ⟨rfl, HB5.out⟩
  | some p =>
    have N1 := hide (src_cells (HP2.out.below HBe.out))
    have N2 : Hid ((fls ((List.range (n * 2)).map F)).length = n * 2) := by
      show _ = _
      rw [fls_length]; simp
    have N3 : Hid (0 + n ≤ maxLen) := by
      show _ ≤ _
      unfold maxLen; omega
    have N4 : Hid ((0 + n) * 16 ≤ 140737488355328) := by show _ ≤ _; omega
    have N5 := hide HBe.out.size
    go_wp2_with (refine wpList_append_own _ rfl _ _ 24 rfl w2.heap.size 34 ti (cx 0 0) 2 16 Try.underlying24 HI1.out hi2 hi3 hi4 rfl (by omega) _ 0 [] rfl HE.out p n cap (fls ((List.range (n * 2)).map F)) rfl N2.out N1.out (fls_one _) N3.out N4.out N5.out ?_)
    intro v4 w4 ho hg _
    have hb4 := HBe.out.trans ((Below.refl _ _).grown hg N5.out (fun q hq => (HE.out.lt q hq).1))
    have ho' : w4.ownsRow w2.heap.size 34 2 v4 n (fls ((List.range (n * 2)).map F)) := by simpa using ho
    obtain ⟨a4, cap4, b4, rfl, ow4, -⟩ := owv_of ho'
    have P4 : PxV a4 (n * 2) (flt F) w4 := ow4.pxv.congr (fun k hk => by
      show Value.float .f64 (((List.range (n * 2)).map F).getD k 0) = .float .f64 (F k)
      rw [List.getD_eq_getElem?_getD, List.getElem?_map, List.getElem?_range hk]
      rfl)
    clear ho hg ho' ow4 N1 N2 N3 N4 N5 HE HBe HI1
    have HB4 := hide hb4
    have hpx : PxS (some ⟨w4.heap.size, 0, none⟩) 1 (fun _ => a4) (fun _ => n) (fun _ => cap4) (fun _ => F) (w4.alloc (.cells #[.slice a4 n cap4] 24)) :=
      ⟨.inr ⟨w4.heap.size, 0, rfl, fun k hk => by obtain rfl : k = 0 := by omega
                                                  simp [go_sem]⟩, fun i hi => P4.below (bnew _ _)⟩
    have cBl := implBlend_any (some ⟨w4.heap.size, 0, none⟩) 1 1 (fun _ => a4) (fun _ => n) (fun _ => cap4) (fun _ => F) (by omega) _ hpx
    have hbn : blN 1 (fun _ => n) = n := by
      have hcan : canB 1 (fun _ => n) = true := by
        unfold canB inB
        simp [allG]
        omega
      unfold blN
      rw [hcan, if_pos rfl]
    unfold LsP at cBl
    rw [hbn] at cBl
    have HBx := hide (bnew w4 (.cells #[.slice a4 n cap4] 24))
    clear hpx hbn P4 hb4
    go_wp2_with fail
    refine cBl.mono ?_
    rintro e w5 ⟨a5, c5, b5, r5, rfl, ho5, -, hb5, hp5⟩
    have hb25 := bnext (bnext HB4.out (Nat.le_refl _) HBx.out) (Nat.le_refl _) hb5
    have HO5 := hide ho5.pxv
    have HL5 := hide (HP2.out.below hb25)
    have HO25 := hide (HO2.out.below hb25)
    have HB5 := hide (bnext HB2.out (Nat.le_refl _) hb25)
    have HT : Hid (∀ k, k < n → same (r2 k) (r5 k)) := fun k hk => by
      have h1 := isSize_csz (HT2.out k hk)
      have h2 : same (r5 k) (cop .add 0 (csz (F (k * 2)) (F (k * 2 + 1)))) := hp5 k hk
      exact h1.trans ((zero_csz _ _).symm.trans h2.symm)
    have qn : ((n : Int) != (n : Int)) = false := by simp
    clear cBl ho5 hb5 hp5 hb25 HB4 HBx HP2 HO2 HB2
    go_wp2_with fail
    go_loopw [6] (fun i wr => ∃ k : Nat, k ≤ n ∧ i = .int .i64 k ∧ Below w5.heap.size w5 wr) (fun i _ => n - (intOf i).toNat)
    case atStart => exact ⟨0, by omega, rfl, Below.refl _ _⟩
    case round =>
      obtain ⟨k, hk, rfl, hb⟩ := hrel
      by_cases hlt : k < n
      · obtain ⟨b1, o1, rfl, -, hc1⟩ := (HO25.out.below hb).at (by omega)
        obtain ⟨b2, o2, rfl, -, hc2⟩ := (HO5.out.below hb).at (by omega)
        obtain ⟨b3, o3, e3, -, hc3⟩ := (HL5.out.below hb).at (by omega)
        cases e3
        have x1 : wr.cell? ⟨b1, o1 + k, none⟩ = some (.float .f64 (r2 k)) := hc1 k (by omega)
        have x2 : wr.cell? ⟨b2, o2 + k, none⟩ = some (.float .f64 (r5 k)) := hc2 k (by omega)
        have x3 : wr.cell? ⟨b3, o3 + k * 2, none⟩ = some (.float .f64 (F (k * 2))) := hc3 (k * 2) (by omega)
        have x4 : wr.cell? ⟨b3, o3 + k * 2 + 1, none⟩ = some (.float .f64 (F (k * 2 + 1))) := hc3 (k * 2 + 1) (by omega)
        have cO := order_same (r2 k) (r5 k) (HT.out k hlt)
        have cZ := size_spec (F (k * 2)) (F (k * 2 + 1))
        have HTk := hide (HT2.out k hlt)
        have X : Hid (wr.drew.cell? ⟨b1, o1 + k, none⟩ = some (.float .f64 (r2 k)) ∧ wr.drew.cell? ⟨b2, o2 + k, none⟩ = some (.float .f64 (r5 k)) ∧ wr.drew.cell? ⟨b3, o3 + k * 2, none⟩ = some (.float .f64 (F (k * 2))) ∧ wr.drew.cell? ⟨b3, o3 + k * 2 + 1, none⟩ = some (.float .f64 (F (k * 2 + 1)))) := ⟨x1, x2, x3, x4⟩
        have HBr := hide hb.drew
        clear hc1 hc2 hc3 hb HT2 HT HO25 HO5 HL5
        go_wp2_with fail
        go_region_held (fun w' => w'.cell? ⟨b1, o1 + k, none⟩ = some (.float .f64 (r2 k)) ∧ w'.cell? ⟨b2, o2 + k, none⟩ = some (.float .f64 (r5 k)) ∧ w'.cell? ⟨b3, o3 + k * 2, none⟩ = some (.float .f64 (F (k * 2))) ∧ w'.cell? ⟨b3, o3 + k * 2 + 1, none⟩ = some (.float .f64 (F (k * 2 + 1))))
          ((first | with_reducible exact XA.out | with_reducible exact X.out))
          (first
            | (go_at_call 12; (with_reducible refine (cO _).mono ?_); rintro e wo ⟨rfl, rfl⟩)
            | (go_at_call 13; (with_reducible refine (cZ _).mono ?_); rintro e wA ⟨⟨r, rfl, hr⟩, hbA⟩; have XA := hide (And.intro (cell_kept hbA X.out.1) (And.intro (cell_kept hbA X.out.2.1) (And.intro (cell_kept hbA X.out.2.2.1) (cell_kept hbA X.out.2.2.2)))); have cP := order_same (r2 k) r (IsSize.same HTk.out hr))
            | (go_at_call 12; (with_reducible refine (cP _).mono ?_); rintro e wo ⟨rfl, rfl⟩))
        all_goals
          have HBf := hide (bnext HBr.out (Nat.le_refl _) hbA)
          clear cO cZ cP X XA HBr hbA hr HTk x1 x2 x3 x4
          go_wp2_with fail
          exact ⟨⟨k + 1, by omega, rfl, HBf.out⟩, by simp [intOf]; omega⟩
      · have HB := hide (bnext HB5.out (Nat.le_refl _) hb)
        clear HO25 HO5 HL5 HT HT2
        go_wp2_with fail
        go_ret
        exact ⟨rfl, HB.out⟩

end Go.Proofs.Ytfgjooddolnifaa

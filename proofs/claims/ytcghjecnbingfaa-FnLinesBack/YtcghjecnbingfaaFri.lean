/- An image from its lines: the program. -/
import Derived.Test.YtcghjecnbingfaaFrn
import Derived.Test.YtcghjecnbingfaaIlt
import Derived.Test.YtcghjecnbingfaaTvl
namespace Go.Proofs.Ytcghjecnbingfaa
open Go.RowKit

theorem Px.pre {a : Option Addr} {n m : Nat} {f : Nat → Int} {w : World} (h : Px a n f w) (hm : m ≤ n) : Px a m f w := by
  rcases h with h | ⟨b, off, ha, h⟩
  · exact .inl (by omega)
  · exact .inr ⟨b, off, ha, fun k hk => h k (by omega)⟩

set_option maxRecDepth 100000 in
set_option maxHeartbeats 8000000 in
theorem imageOfLines_any (p : Nat) (h2 : 2 ≤ p) (h31 : p ≤ 31) (a : Option Addr) (m cap : Nat) (g : Nat → Int) (hm : m = (p + 1) * p) (hcap : m ≤ cap) (hg : ∀ k, k < m → -200000 ≤ g k ∧ g k ≤ 200000) (w : World) (h : Px a m g w) :
    Calls Try.prog 24 #[.slice a m cap, .int .i64 p] w (ImR p p (p * p) (frX p g) w) := by
  have HP := hide h
  have hpp : p * p ≤ 31 * 31 := Nat.mul_le_mul h31 h31
  have hN : m ≤ 32 * 31 := by rw [hm]; exact Nat.mul_le_mul (by omega) h31
  have hpm : p ≤ m := by rw [hm, Nat.succ_mul]; omega
  have hpos : 0 < p * p := Nat.mul_pos (by omega) (by omega)
  obtain ⟨ba, off, rfl, hba⟩ := HP.out.lt (by omega)
  have cV := fun w Bs hc px => total_values (some ⟨ba, off, none⟩) p cap g (by omega) (by omega) (fun k hk => by have := hg k (by omega); omega) w Bs hc px
  have cT : Hid (∀ k, k < p * p → ∀ w b1 b2 b3 Bp Bl, Bx3 b1 b2 b3 p (k / p : Nat) (k % p : Nat) w →
      w.cell? ⟨Bp, 0, none⟩ = some (.func (.func 52) #[] #[.pointer (some ⟨b1, 0, none⟩), .pointer (some ⟨b2, 0, none⟩), .pointer (some ⟨b3, 0, none⟩)]) → w.cell? ⟨Bl, 0, none⟩ = some (.slice (some ⟨ba, off, none⟩) m cap) → Px (some ⟨ba, off, none⟩) m g w →
      Calls Try.prog 20 #[.func (.func 39) #[] #[.pointer (some ⟨Bp, 0, none⟩), .pointer (some ⟨Bl, 0, none⟩)]] w fun e w' => e = .returned (.int .i64 (Lnm.sm (fun i => g (Lnm.thr p (k % p) (k / p) i)) (p + 1))) ∧ Below w.heap.size w w') := by
    intro k hk w b1 b2 b3 Bp Bl hB hcp hcl px
    subst hm
    exact total_lines (k % p) (k / p) p (by omega) h31 (Nat.mod_lt k (by omega)) (Nat.div_lt_of_lt_mul hk) _ cap g (fun j hj => by have := hg j hj; omega) w b1 b2 b3 Bp Bl hB hcp hcl px
  have HSb := hide (fun k => frS_bound h2 h31 hm hg k)
  have hp0 : ((p : Int) == 0) = false := by simp; omega
  have wP : IntKind.i64.wrap ((p : Int) * (p : Int)) = ((p * p : Nat) : Int) := by rw [IntKind.wrap_i64, ← Int.natCast_mul]; omega
  have HSt := hide ((St.start w).box [.int .i64 0, .int .i64 0, .slice none 0 0] 26)
  have HU : Hid (∀ k, frS p g k = Lnm.sm (fun i => g (Lnm.thr p (k % p) (k / p) i)) (p + 1) - Lnm.sm g p) := fun _ => rfl
  obtain ⟨TT, hTT⟩ : ∃ TT, TT = Lnm.sm g p := ⟨_, rfl⟩
  rw [← hTT] at HU cV
  have hTb : -200000000 ≤ TT ∧ TT ≤ 200000000 := by
    have := Lnm.sm_bound (f := g) (M := 200000) (n := p) (fun i hi => hg i (by omega))
    rw [hTT]; omega
  have HTb := hide hTb
  have hc1 : (p : Int) ≤ (cap : Int) := by omega
  clear hTT hTb h hg hm
  obtain ⟨PP, hPP⟩ : ∃ PP, PP = p * p := ⟨_, rfl⟩
  rw [← hPP] at wP hpp hpos cT ⊢
  have hmk := make_px PP (by omega)
  clear hPP
  generalize hA : w.alloc (.cells [.int .i64 0, .int .i64 0, .slice none 0 0].toArray 26) = wA at HSt
  have hA' : w.alloc (.cells #[.int .i64 0, .int .i64 0, .slice none 0 0] 26) = wA := hA
  clear hA
  go_enter Try.func24, Try.ntmps24
  go_wp2_with fail
  refine (values_any _ _ _ _).mono ?_
  rintro e w1 ⟨rfl, rfl⟩
  have HS1 := hide (HSt.out.box [.slice (some ⟨ba, off, none⟩) p cap] 24)
  have hc1' := HS1.out.cell 0 rfl 0 rfl
  have pV : Px (some ⟨ba, off, none⟩) p g _ := (HP.out.below HS1.out.below).pre hpm
  clear HSt hA'
  generalize hB1 : wA.alloc (.cells [.slice (some ⟨ba, off, none⟩) p cap].toArray 24) = wB at HS1 hc1' pV
  have hB1' : wA.alloc (.cells #[.slice (some ⟨ba, off, none⟩) p cap] 24) = wB := hB1
  clear hB1
  go_wp2_with fail
  refine (cV _ _ hc1' pV).mono ?_
  clear hB1'
  rintro e w2 ⟨rfl, hb⟩
  have HS2 := hide (HS1.out.next hb)
  have hm := hmk w2
  have HR2 := hide (row_new PP w2)
  have HS3 := hide ((HS2.out.own (bnew w2 (.cells (madeCells #[.int .i64 0] PP) 2)) HR2.out.v (.inr (Nat.le_refl _))).box [.int .i64 p, .int .i64 p, .slice (some ⟨w2.heap.size, 0, none⟩) PP PP] 26)
  have HR3 := hide (HR2.out.below (bnew (w2.alloc (.cells (madeCells #[.int .i64 0] PP) 2)) (.cells #[.int .i64 p, .int .i64 p, .slice (some ⟨w2.heap.size, 0, none⟩) PP PP] 26)) (by simp))
  clear HS1 hb hc1' pV cV hmk
  go_wp2_with fail
  clear hm
  generalize hX : (w2.alloc (.cells (madeCells #[.int .i64 0] PP) 2)).alloc (.cells #[.int .i64 p, .int .i64 p, .slice (some ⟨w2.heap.size, 0, none⟩) PP PP] 26) = wX at *
  have hsz : (w2.alloc (.cells (madeCells #[.int .i64 0] PP) 2)).heap.size = w2.heap.size + 1 := by simp
  rw [hsz] at HS3
  have hBX : w2.heap.size < wX.heap.size := by rw [← hX]; simp; omega
  clear hX hsz HS2 HR2
  generalize w2.heap.size = B at *
  go_loopw [7, 8, 24] (fun _ _ i wr => ∃ k : Nat, k ≤ PP ∧ i = .int .i64 k ∧ Kept B wX wr ∧ Part B PP k (frX p g) wr) (fun _ _ i _ => PP - (intOf i).toNat)
  case atStart => exact ⟨0, by omega, rfl, Kept.refl _ _, HR3.out.part⟩
  case round =>
    obtain ⟨k, hk, rfl, hkept, hpart⟩ := hrel
    clear HR3
    by_cases hlt : k < PP
    · have HSr := hide (HS3.out.out (by omega) hkept)
      have cL := linesThrough_any k p (by omega) (by omega) (by omega)
      have cT' := hide (cT.out k hlt)
      have hBr : B < wr.heap.size := Nat.lt_of_lt_of_le hBX hkept.size
      have HK := hide hkept
      have HPt := hide hpart
      have hs1 := HSb.out k
      have hs2 := HU.out k
      have hTb := HTb.out
      obtain ⟨X, hX⟩ : ∃ X, X = frX p g k := ⟨_, rfl⟩
      have hX2 : X = (frS p g k).tdiv p := hX
      have HXX := hide hX
      have hbd : -20000000 ≤ X ∧ X ≤ 20000000 := by
        rw [hX2]
        have := Int.natAbs_tdiv_le_natAbs (frS p g k) p
        omega
      clear hkept hpart HS3 cT hX HSb HU
      generalize Lnm.sm (fun i => g (Lnm.thr p (k % p) (k / p) i)) (p + 1) = SS at *
      generalize k / p = kd at *
      generalize k % p = km at *
      generalize frS p g k = FF at *
      have wS : IntKind.i64.wrap (SS - TT) = FF := by rw [IntKind.wrap_i64]; omega
      have wD : IntKind.i64.wrap (FF.tdiv (p : Int)) = X := by rw [IntKind.wrap_i64, ← hX2]; omega
      have wD2 : FF.tdiv (p : Int) = X := hX2.symm
      clear hs1 hs2 hTb hX2
      go_wp2_with fail
      refine (cL _).mono ?_
      rintro e w3 ⟨b1, b2, b3, rfl, hB3, hbel3⟩
      have HS3 := hide (HSr.out.next hbel3)
      clear cL
      go_wp2_with fail
      refine (numbersAt_any _ _ _ _ _ _).mono ?_
      rintro e w4 ⟨rfl, hcp, hcl, -, hbel4⟩
      have HS4 := hide (HS3.out.next hbel4)
      go_wp2_with fail
      refine (cT'.out _ _ _ _ _ _ (hB3.below hbel4) hcp hcl (HP.out.below HS4.out.below)).mono ?_
      rintro e w5 ⟨rfl, hbel5⟩
      have hbA : Below wr.heap.size wr w5 := (hbel3.trans (hbel4.mono hbel3.size)).trans (hbel5.mono (Nat.le_trans hbel3.size hbel4.size))
      have HS5 := hide (HS4.out.next hbel5)
      have HPA := hide (HPt.out.below hbA hBr)
      obtain ⟨⟨y, hy, _⟩, fr⟩ := HPA.out k hlt
      have HKA := hide (HK.out.trans (Kept.of_below (p := B) hbA))
      obtain ⟨i0, i1, i2⟩ := HS5.out.im3 0 rfl
      have HPn := hide (HPA.out.step hlt X HXX.out).drew
      have HKn := hide (HKA.out.setCell (a := ⟨B, k, none⟩) rfl (.int .i64 X)).drew
      clear hbA HPA HKA HPt HK HS3 HS4 HS5 HSr hcp hcl hB3 hbel3 hbel4 hbel5 cT'
      go_upto_region 7 with fail
      go_region_with (fail)
      all_goals
        generalize (w5.setCell ⟨B, k, none⟩ (.int .i64 X)).drew = wz at *
        clear hy fr i0 i1 i2 wS wD wD2
        go_wp2_with fail
        exact ⟨⟨k + 1, by omega, rfl, HKn.out, HPn.out⟩, by simp [intOf]; omega⟩
    · obtain rfl : k = PP := by omega
      have HSe := hide (HS3.out.mark0 (by omega) hkept hpart.row.v)
      obtain ⟨i0, i1, i2⟩ := HSe.out.im3 0 rfl
      obtain ⟨z0, z1, z2⟩ := HSe.out.im3 2 rfl
      obtain ⟨e0, e1, e2⟩ := HSe.out.fr3 2 rfl
      have HE := hide ((St.fill3' (L1 := [_, _]) HSe.out (.int .i64 p) (.int .i64 p) (.slice (some ⟨B, 0, none⟩) k k)).imR p p k)
      clear HS3 hkept hpart cT HSb HU HSe HP
      go_wp2_with fail
      exact bodyPost_ret (v := im p p (some ⟨B, 0, none⟩) k k) (by simp [results, Try.results24, go_sem, z0, z1, z2]) rfl HE.out

end Go.Proofs.Ytcghjecnbingfaa

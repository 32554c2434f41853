/- Gridding: the specification. -/
import Derived.Test.YtfgjooddolnifaaGri
namespace Go.Proofs.Ytfgjooddolnifaa
open Ieee Go.RowKit
attribute [local go_sem] run_store_float alloc_drewN setCell_drewN shape?_drewN

theorem ash_pos {n P v0 v1 : Nat} {p s : Int} {g : Nat → Nat} (hs : 0 < s) (hp : p = P) (hP : P < n) : ash n p v0 v1 s g = updG g P v0 v1 (q16 s) := by
  subst hp
  unfold ash
  rw [if_pos ⟨hs, by omega, by omega⟩, Int.toNat_natCast]
theorem ash_neg {n v0 v1 : Nat} {p s : Int} {g : Nat → Nat} (h : ¬ (0 < s ∧ 0 ≤ p ∧ p < n)) : ash n p v0 v1 s g = g := by
  unfold ash
  rw [if_neg h]

set_option maxRecDepth 100000 in
set_option maxHeartbeats 4000000 in
theorem specGrid_any (n : Int) (a : Option Addr) (len cap : Nat) (A : Nat → Int) (F : Nat → Nat) (hA : ∀ k, -9223372036854775808 ≤ A k ∧ A k ≤ 9223372036854775807) (hl : len ≤ 1048576) (w : World) (h : PxV a (len * 3) (spv A F) w) :
    Calls Try.prog 32 #[.int .i64 n, .slice a len cap] w (LsP (gridN n len) (gridN n len * 2) (gridP n A F len) w) := by
  have hI := n_l1In_any n 1 4096
  have HB0 : Hid (Below w.heap.size w (w.alloc (.cells #[] 34))) := bnew _ _
  unfold gridN
  by_cases hn : inB n 1 4096 = true
  · by_cases hm : 4096 < len
    · rw [if_neg (by omega)]
      rw [hn] at hI
      clear h hn hA
      go_enter Try.func32, Try.ntmps32
      go_wp2_with fail
      refine (hI _).mono ?_
      rintro e w1 ⟨rfl, rfl⟩
      go_wp2_with fail
      go_ret
      exact ⟨_, _, 0, fun _ => 0, rfl, .inl rfl, .inl rfl, HB0.out, fun j hj => absurd hj (Nat.not_lt_zero _)⟩
    · rw [if_pos ⟨hn, by omega⟩]
      rw [hn] at hI
      have hn2 : 1 ≤ n ∧ n ≤ 4096 := by unfold inB at hn; simp at hn; exact hn
      obtain ⟨m, rfl⟩ : ∃ m : Nat, n = m := ⟨n.toNat, by omega⟩
      unfold gridP
      rw [Int.toNat_natCast]
      have hm1 : 1 ≤ m := by omega
      have hm2 : m ≤ 4096 := by omega
      have hmk := make_cs m (by omega) w
      have HP := hide h
      have HA := hide hA
      clear h hn hA hn2 HB0
      go_enter Try.func32, Try.ntmps32
      go_wp2_with fail
      refine (hI _).mono ?_
      rintro e w ⟨rfl, rfl⟩
      clear hI
      go_wp2_with fail
      go_loopw [6, 7, 8] (fun i _ _ wr => ∃ k : Nat, k ≤ len ∧ i = .int .i64 k ∧ GR w.heap.size (m * 2) (gridF m A F k) wr ∧ Below w.heap.size w wr ∧ w.heap.size < wr.heap.size) (fun i _ _ _ => len - (intOf i).toNat)
      case atStart => exact ⟨0, by omega, rfl, fun j hj => ⟨⟨0, ((rowC_new (m * 2) 34 w) j hj).1, fun _ => same_rfl _⟩, ((rowC_new (m * 2) 34 w) j hj).2⟩, bnew _ _, by simp⟩
      case round =>
        obtain ⟨k, hk, rfl, hp, hb, hs⟩ := hrel
        clear hmk
        by_cases hlt : k < len
        · obtain ⟨b, off, rfl, hbl, hz0, hz', hz''⟩ := HP.out.spot hlt
          have hz := cell_kept hb hz0
          obtain ⟨hA1, hA2⟩ := HA.out k
          have cD := n_down16_any (A k) hA1 hA2
          have cM : ∀ w, Calls Try.prog 51 #[.int .i64 (A k), .int .i64 16] w fun e w' => e = .returned (.int .i64 (A k % 16)) ∧ w' = w := fun w => n_l1Mod_any (A k) 16 (by omega) (by omega) w
          have hgk : gridF m A F (k + 1) = ash m (A k / 16 + 1) (F (k * 2)) (F (k * 2 + 1)) (A k % 16) (ash m (A k / 16) (F (k * 2)) (F (k * 2 + 1)) (16 - A k % 16) (gridF m A F k)) := rfl
          have d1 : -9223372036854775807 ≤ A k / 16 := by omega
          have d2 : A k / 16 ≤ 9223372036854775800 := by omega
          have v1 : 0 ≤ A k % 16 := by omega
          have v2 : A k % 16 ≤ 15 := by omega
          generalize A k / 16 = d at *
          generalize A k % 16 = v at *
          generalize A k = x at *
          have HGK := hide hgk
          have hq1 := q16_eq (16 - v) (by omega) (by omega)
          have hq2 := q16_eq v (by omega) (by omega)
          have hqr1 := fun w => run_float_arith (P := Try.prog) w .quo 31 .f64 _ _ _ hq1
          have hqr2 := fun w => run_float_arith (P := Try.prog) w .quo 31 .f64 _ _ _ hq2
          have hw16 : IntKind.i64.wrap (16 - v) = 16 - v := by rw [IntKind.wrap_i64]; omega
          have HG := hide hp
          have HB := hide hb
          have HSz := hide hs
          generalize hgg : gridF m A F k = g at *
          clear hgg HP HA hp hb hs hgk hA1 hA2 hq1 hq2 hz0 hm
          have cI1 := n_l1In_any d 0 ((m : Int) - 1)
          by_cases hd : 0 ≤ d ∧ d < m
          · obtain ⟨P, rfl⟩ : ∃ P : Nat, d = P := ⟨d.toNat, by omega⟩
            have hPm : P < m := by omega
            have hin : inB P 0 ((m : Int) - 1) = true := by unfold inB; simp; omega
            rw [hin] at cI1
            clear hin hd
            go_wp2_with fail
            refine (cD _).mono ?_
            rintro e wr ⟨rfl, rfl⟩
            go_wp2_with fail
            refine (cM _).mono ?_
            rintro e wr ⟨rfl, rfl⟩
            go_wp2_with fail
            refine (cI1 _).mono ?_
            rintro e wr ⟨rfl, rfl⟩
            clear cD cM cI1 hz
            obtain ⟨⟨x, hx, ex⟩, fx⟩ := HG.out (P * 2) (by omega)
            obtain ⟨⟨y, hy, ey⟩, fy⟩ := HG.out (P * 2 + 1) (by omega)
            have EX : Hid (same x (g (P * 2))) := ex (by omega)
            have EY : Hid (same y (g (P * 2 + 1))) := ey (by omega)
            have z1 := cell_kept HB.out hz'
            have z2 := cell_kept HB.out hz''
            clear ex ey
            go_upto_region 10 with fail
            have HW := hide ((Below.refl wr.heap.size wr).drew)
            go_region_with (first
              | (go_at_call 43; (with_reducible refine (times_spec _ _ _ _).mono ?_); rintro e wA ⟨r0, s0, rfl, hbA, hr0, hs0⟩; have HA := hide (bnext HW.out (Nat.le_refl _) hbA); have xA := cell_kept HA.out hx; have yA := cell_kept HA.out hy)
              | (go_at_call 44; (with_reducible refine (add_spec_b _ _ _ _ _).mono ?_); rintro e wB ⟨r1, s1, rfl, hbB, hr1, hs1⟩; have HC := hide (bnext HA.out (Nat.le_refl _) hbB); have xB := cell_kept HC.out hx; have yB := cell_kept HC.out hy; have fxB := froz_kept HC.out hx fx; have fyB := froz_kept HC.out hy fy))
            all_goals
              have HGa' := GR.upd (P := P) (g := g) (v0 := F (k * 2)) (v1 := F (k * 2 + 1)) (c := q16 (16 - v)) (HG.out.below HC.out HSz.out) (hr1.cop aAdd EX.out (hr0.cop aMul (same_rfl _) (same_rfl _))) (hs1.cop aAdd EY.out (hs0.cop aMul (same_rfl _) (same_rfl _)))
              have hka := (Kept.of_below (p := w.heap.size) HC.out).set2 (P * 2) (P * 2 + 1) (.float .f64 r1) (.float .f64 s1)
              generalize (wB.setCell _ _).setCell _ _ = wv at HGa' hka ⊢
              have HGa := hide HGa'
              have HBa := hide (HB.out.trans (hka.below (Nat.le_refl _) (Nat.le_of_lt HSz.out)))
              have HSza : Hid (w.heap.size < wv.heap.size) := Nat.lt_of_lt_of_le HSz.out hka.size
              clear HGa' hka HG HB HSz HC HA HW EX EY hr0 hs0 hr1 hs1 xA yA xB yB fxB fyB hx hy fx fy z1 z2 hbA hbB
              by_cases hv0 : v = 0
              · have hv1 : (v != 0) = false := by simp [hv0]
                go_wp2_with fail
                exact ⟨⟨k + 1, by omega, rfl, by rw [HGK.out, ash_pos (P := P) (p := (P : Int)) (s := 16 - v) (by omega) rfl hPm, ash_neg (by omega)]; exact HGa.out, HBa.out, HSza.out⟩, by simp [intOf]; omega⟩
              · have hv1 : (v != 0) = true := by simp [hv0]
                have hvs : 0 < v := by omega
                have hwP : IntKind.i64.wrap ((P : Int) + 1) = (P : Int) + 1 := by rw [IntKind.wrap_i64]; omega
                have cI2 := n_l1In_any ((P : Int) + 1) 0 ((m : Int) - 1)
                by_cases hQ : P + 1 < m
                · have hin : inB ((P : Int) + 1) 0 ((m : Int) - 1) = true := by unfold inB; simp; omega
                  rw [hin] at cI2
                  clear hin
                  go_wp2_with fail
                  refine (cI2 _).mono ?_
                  rintro e wy ⟨rfl, rfl⟩
                  clear cI2
                  obtain ⟨⟨xa, hxa, exa⟩, fxa⟩ := HGa.out ((P + 1) * 2) (by omega)
                  obtain ⟨⟨ya, hya, eya⟩, fya⟩ := HGa.out ((P + 1) * 2 + 1) (by omega)
                  have EXa : Hid (same xa ((updG g P (F (k * 2)) (F (k * 2 + 1)) (q16 (16 - v))) ((P + 1) * 2))) := exa (by omega)
                  have EYa : Hid (same ya ((updG g P (F (k * 2)) (F (k * 2 + 1)) (q16 (16 - v))) ((P + 1) * 2 + 1))) := eya (by omega)
                  have z1a := cell_kept HBa.out hz'
                  have z2a := cell_kept HBa.out hz''
                  clear exa eya
                  go_upto_region 12 with fail
                  have HWa := hide ((Below.refl wy.heap.size wy).drew)
                  go_region_with (first
                    | (go_at_call 43; (with_reducible refine (times_spec _ _ _ _).mono ?_); rintro e wAa ⟨r0a, s0a, rfl, hbAa, hr0a, hs0a⟩; have HAa := hide (bnext HWa.out (Nat.le_refl _) hbAa); have xAa := cell_kept HAa.out hxa; have yAa := cell_kept HAa.out hya)
                    | (go_at_call 44; (with_reducible refine (add_spec_b _ _ _ _ _).mono ?_); rintro e wBa ⟨r1a, s1a, rfl, hbBa, hr1a, hs1a⟩; have HCa := hide (bnext HAa.out (Nat.le_refl _) hbBa); have xBa := cell_kept HCa.out hxa; have yBa := cell_kept HCa.out hya; have fxBa := froz_kept HCa.out hxa fxa; have fyBa := froz_kept HCa.out hya fya))
                  all_goals
                    have HGaz' := GR.upd (P := (P + 1)) (g := (updG g P (F (k * 2)) (F (k * 2 + 1)) (q16 (16 - v)))) (v0 := F (k * 2)) (v1 := F (k * 2 + 1)) (c := q16 (v)) (HGa.out.below HCa.out HSza.out) (hr1a.cop aAdd EXa.out (hr0a.cop aMul (same_rfl _) (same_rfl _))) (hs1a.cop aAdd EYa.out (hs0a.cop aMul (same_rfl _) (same_rfl _)))
                    have hkaz := (Kept.of_below (p := w.heap.size) HCa.out).set2 ((P + 1) * 2) ((P + 1) * 2 + 1) (.float .f64 r1a) (.float .f64 s1a)
                    generalize (wBa.setCell _ _).setCell _ _ = wq at HGaz' hkaz ⊢
                    have HGaz := hide HGaz'
                    have HBaz := hide (HBa.out.trans (hkaz.below (Nat.le_refl _) (Nat.le_of_lt HSza.out)))
                    have HSzaz : Hid (w.heap.size < wq.heap.size) := Nat.lt_of_lt_of_le HSza.out hkaz.size
                    clear HGaz' hkaz HGa HBa HSza HCa HAa HWa EXa EYa hr0a hs0a hr1a hs1a xAa yAa xBa yBa fxBa fyBa hxa hya fxa fya z1a z2a hbAa hbBa
                    go_wp2_with fail
                    exact ⟨⟨k + 1, by omega, rfl, by rw [HGK.out, ash_pos (P := P) (p := (P : Int)) (s := 16 - v) (by omega) rfl hPm, ash_pos (P := P + 1) hvs (by omega) hQ]; exact HGaz.out, HBaz.out, HSzaz.out⟩, by simp [intOf]; omega⟩
                · have hin : inB ((P : Int) + 1) 0 ((m : Int) - 1) = false := by unfold inB; simp; omega
                  rw [hin] at cI2
                  clear hin
                  go_wp2_with fail
                  refine (cI2 _).mono ?_
                  rintro e wy ⟨rfl, rfl⟩
                  clear cI2
                  go_wp2_with fail
                  exact ⟨⟨k + 1, by omega, rfl, by rw [HGK.out, ash_pos (P := P) (p := (P : Int)) (s := 16 - v) (by omega) rfl hPm, ash_neg (by omega)]; exact HGa.out, HBa.out, HSza.out⟩, by simp [intOf]; omega⟩
          · have hin : inB d 0 ((m : Int) - 1) = false := by unfold inB; simp; omega
            rw [hin] at cI1
            clear hin
            go_wp2_with fail
            refine (cD _).mono ?_
            rintro e wr ⟨rfl, rfl⟩
            go_wp2_with fail
            refine (cM _).mono ?_
            rintro e wr ⟨rfl, rfl⟩
            go_wp2_with fail
            refine (cI1 _).mono ?_
            rintro e wr ⟨rfl, rfl⟩
            clear cD cM cI1 hz
            have HGa := hide HG.out
            have HBa := hide HB.out
            have HSza := hide HSz.out
            clear HG HB HSz
            by_cases hv0 : v = 0
            · have hv1 : (v != 0) = false := by simp [hv0]
              go_wp2_with fail
              exact ⟨⟨k + 1, by omega, rfl, by rw [HGK.out, ash_neg (n := m) (p := d) (s := 16 - v) (by omega), ash_neg (by omega)]; exact HGa.out, HBa.out, HSza.out⟩, by simp [intOf]; omega⟩
            · have hv1 : (v != 0) = true := by simp [hv0]
              have hvs : 0 < v := by omega
              have cI2 := n_l1In_any (d + 1) 0 ((m : Int) - 1)
              by_cases hQ : d = -1
              · subst hQ
                have m0 : (0 : Int) < (m : Int) := by omega
                have m0' : 0 < m := by omega
                have hw0 : IntKind.i64.wrap 0 = 0 := by decide
                have hin : inB (-1 + 1) 0 ((m : Int) - 1) = true := by unfold inB; simp; omega
                rw [hin] at cI2
                simp only [Int.reduceAdd, Int.reduceNeg] at cI2
                clear hin
                go_wp2_with fail
                refine (cI2 _).mono ?_
                rintro e wy ⟨rfl, rfl⟩
                clear cI2
                obtain ⟨⟨xa, hxa, exa⟩, fxa⟩ := HGa.out (0 * 2) (by omega)
                obtain ⟨⟨ya, hya, eya⟩, fya⟩ := HGa.out (0 * 2 + 1) (by omega)
                have EXa : Hid (same xa (g (0 * 2))) := exa (by omega)
                have EYa : Hid (same ya (g (0 * 2 + 1))) := eya (by omega)
                have z1a := cell_kept HBa.out hz'
                have z2a := cell_kept HBa.out hz''
                clear exa eya
                simp only [Nat.zero_mul, Nat.zero_add] at hxa fxa hya fya
                go_upto_region 12 with fail
                have HWa := hide ((Below.refl wy.heap.size wy).drew)
                go_region_with (first
                  | (go_at_call 43; (with_reducible refine (times_spec _ _ _ _).mono ?_); rintro e wAa ⟨r0a, s0a, rfl, hbAa, hr0a, hs0a⟩; have HAa := hide (bnext HWa.out (Nat.le_refl _) hbAa); have xAa := cell_kept HAa.out hxa; have yAa := cell_kept HAa.out hya)
                  | (go_at_call 44; (with_reducible refine (add_spec_b _ _ _ _ _).mono ?_); rintro e wBa ⟨r1a, s1a, rfl, hbBa, hr1a, hs1a⟩; have HCa := hide (bnext HAa.out (Nat.le_refl _) hbBa); have xBa := cell_kept HCa.out hxa; have yBa := cell_kept HCa.out hya; have fxBa := froz_kept HCa.out hxa fxa; have fyBa := froz_kept HCa.out hya fya))
                all_goals
                  have HGaz' := GR.upd (P := 0) (g := g) (v0 := F (k * 2)) (v1 := F (k * 2 + 1)) (c := q16 (v)) (HGa.out.below HCa.out HSza.out) (hr1a.cop aAdd EXa.out (hr0a.cop aMul (same_rfl _) (same_rfl _))) (hs1a.cop aAdd EYa.out (hs0a.cop aMul (same_rfl _) (same_rfl _)))
                  have hkaz := (Kept.of_below (p := w.heap.size) HCa.out).set2 (0 * 2) (0 * 2 + 1) (.float .f64 r1a) (.float .f64 s1a)
                  simp only [Nat.zero_mul, Nat.zero_add] at HGaz' hkaz
                  generalize (wBa.setCell _ _).setCell _ _ = wq at HGaz' hkaz ⊢
                  have HGaz := hide HGaz'
                  have HBaz := hide (HBa.out.trans (hkaz.below (Nat.le_refl _) (Nat.le_of_lt HSza.out)))
                  have HSzaz : Hid (w.heap.size < wq.heap.size) := Nat.lt_of_lt_of_le HSza.out hkaz.size
                  clear HGaz' hkaz HGa HBa HSza HCa HAa HWa EXa EYa hr0a hs0a hr1a hs1a xAa yAa xBa yBa fxBa fyBa hxa hya fxa fya z1a z2a hbAa hbBa
                  go_wp2_with fail
                  exact ⟨⟨k + 1, by omega, rfl, by rw [HGK.out, ash_neg (n := m) (p := -1) (s := 16 - v) (by omega), ash_pos (P := 0) (p := -1 + 1) hvs (by omega) (by omega)]; exact HGaz.out, HBaz.out, HSzaz.out⟩, by simp [intOf]; omega⟩
              · have hin : inB (d + 1) 0 ((m : Int) - 1) = false := by unfold inB; simp; omega
                rw [hin] at cI2
                clear hin
                go_wp2_with fail
                refine (cI2 _).mono ?_
                rintro e wy ⟨rfl, rfl⟩
                clear cI2
                go_wp2_with fail
                exact ⟨⟨k + 1, by omega, rfl, by rw [HGK.out, ash_neg (n := m) (p := d) (s := 16 - v) (by omega), ash_neg (by omega)]; exact HGa.out, HBa.out, HSza.out⟩, by simp [intOf]; omega⟩
        · obtain rfl : k = len := by omega
          clear HP HA
          go_wp2
          go_ret
          obtain ⟨r, hr, hP⟩ := PartP.row hp
          exact ⟨_, _, w.heap.size, r, rfl, hr.ow, .inr (Nat.le_refl _), hb, hP⟩
  · rw [if_neg (fun h => hn h.1)]
    have hn' : inB n 1 4096 = false := by simpa using hn
    rw [hn'] at hI
    clear h hn hA hn'
    go_enter Try.func32, Try.ntmps32
    go_wp2_with fail
    refine (hI _).mono ?_
    rintro e w1 ⟨rfl, rfl⟩
    go_wp2_with fail
    go_ret
    exact ⟨_, _, 0, fun _ => 0, rfl, .inl rfl, .inl rfl, HB0.out, fun j hj => absurd hj (Nat.not_lt_zero _)⟩

end Go.Proofs.Ytfgjooddolnifaa

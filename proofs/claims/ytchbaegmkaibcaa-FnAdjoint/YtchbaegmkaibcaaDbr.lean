/- The draw of a brush. -/
import Derived.Test.YtchbaegmkaibcaaDsd
import Derived.Test.YtchbaegmkaibcaaSgr
import Derived.BigRegion
namespace Go.Proofs.Ytchbaegmkaibcaa
open Go.RowKit

/-- some brush is drawn, with at most so many spots, in memory of its own -/
def DrawnS (p : Nat) (a : Option Addr) (len cap N : Nat) (w : World) (e : Ending) (w' : World) : Prop :=
  ∃ v m f, e = .returned v ∧ m ≤ N ∧ w'.ownsRow w.heap.size 35 2 v m (ints (fl f (m * 2))) ∧ Cur p a len cap w' ∧ Kept p w w'
/-- one spot more -/
def spotX (f : Nat → Int) (m : Nat) (x0 x1 : Int) (q : Nat) : Int := if q < m * 2 then f q else if q = m * 2 then x0 else x1
theorem fl_ext {f g : Nat → Int} : ∀ {n : Nat}, (∀ j, j < n → f j = g j) → fl f n = fl g n
  | 0, _ => rfl
  | n + 1, h => by simp only [fl]; rw [fl_ext (fun j hj => h j (by omega)), h n (by omega)]
theorem fl_spotX (f : Nat → Int) (m : Nat) (x0 x1 : Int) : fl f (m * 2) = fl (spotX f m x0 x1) (m * 2) := fl_ext fun j hj => by unfold spotX; rw [if_pos hj]

theorem own_form {w : World} {B m : Nat} {e : TypeId} {v : Value} {f : Nat → Int} (h : w.ownsRow B e 2 v m (ints (fl f (m * 2)))) :
    ∃ ad cp, v = .slice ad m cp ∧ (m ≠ 0 → ∃ b, ad = some ⟨b, 0, none⟩ ∧ ∀ k, k < m * 2 → w.cell? ⟨b, k, none⟩ = some (.int .i64 (f k))) := by
  have h' := h
  obtain ⟨hlen, hv | ⟨b, cap, cur, hv, hg, hcur, _, hm, _, _⟩⟩ := h'
  · obtain ⟨rfl, h0⟩ := hv
    exact ⟨none, 0, by rw [h0], fun h => absurd h0 h⟩
  · subst hv
    refine ⟨_, cap, rfl, fun _ => ⟨b, rfl, fun k hk => ?_⟩⟩
    rw [h.cellAt k hk, ints_at _ _ (by rw [fl_len]; exact hk), fl_at _ _ _ hk]

set_option maxRecDepth 100000 in
set_option maxHeartbeats 4000000 in
theorem drawBrush_any (p : Nat) (a : Option Addr) (len cap : Nat) (w : World) (h : Cur p a len cap w) (hp : p < w.heap.size) (hab : len = 0 ∨ ∀ b off, a = some ⟨b, off, none⟩ → b < w.heap.size) :
    Calls Try.prog 35 #[.pointer (some ⟨p, 0, none⟩)] w (DrawnS p a len cap 5 w) := by
  have HAB := hide hab
  have hb0 := bnew w (.cells #[] 35)
  have HO0 : Hid ((w.alloc (.cells #[] 35)).ownsRow w.heap.size 35 2 (.slice (some ⟨w.heap.size, 0, none⟩) 0 0) 0 (ints [])) := World.ownsRow_lit w #[] 0 (Nat.le_refl _) (by unfold maxLen; omega) rfl
  have HK0 := hide (Kept.of_below (p := p) hb0)
  have c6 := below_any p a len cap _ (h.below hb0) 6 (by omega) (by omega)
  clear h hab hb0
  go_enter Try.func35, Try.ntmps35
  go_upto_region 2 with fail
  generalize hw1 : w.alloc (.cells #[] 35) = w1 at *
  clear hw1
  go_wp2_with fail
  refine c6.mono ?_
  rintro e w2 ⟨y, rfl, y0, y1, hc, hk⟩
  obtain ⟨Y, rfl⟩ : ∃ Y : Nat, y = Y := ⟨y.toNat, by omega⟩
  have HC2 := hide hc
  have HO2 := hide (owns_kept HO0.out hk hp)
  have HK2 := hide (HK0.out.trans hk)
  clear c6 hc hk HO0 HK0
  go_wp2_with fail
  go_loopw [3, 4, 5, 6, 7] (fun v i _ _ _ wr => ∃ (m j : Nat) (f : Nat → Int), m + j ≤ 5 ∧ i = .int .i64 j ∧ wr.ownsRow w.heap.size 35 2 v m (ints (fl f (m * 2))) ∧ Cur p a len cap wr ∧ Kept p w wr) (fun _ i _ _ _ _ => (intOf i).toNat)
  case atStart => exact ⟨0, Y, fun _ => 0, by omega, rfl, HO2.out, HC2.out, HK2.out⟩
  case round =>
    obtain ⟨m, j, f, hmj, rfl, ho, hc, hk⟩ := hrel
    have HO := hide ho
    have HK := hide hk
    clear ho hk HO2 HC2 HK2
    by_cases hj : 0 < j
    · have c1 := fromG p a len cap _ hc (-2) 2
      clear hc
      go_wp2_with fail
      refine c1.mono ?_
      rintro e w3 ⟨x0, rfl, hc3, hk3⟩
      have HO3 := hide (owns_kept HO.out hk3 hp)
      have HK3 := hide (HK.out.trans hk3)
      have c2 := fromG p a len cap _ hc3 (-2) 2
      clear c1 hc3 hk3 HO HK
      go_wp2_with fail
      refine c2.mono ?_
      rintro e w4 ⟨x1, rfl, hc4, hk4⟩
      have HO4 := hide (owns_kept HO3.out hk4 hp)
      have HK4 := hide (HK3.out.trans hk4)
      have hb5 := bnew w4 (.cells #[.int .i64 x0, .int .i64 x1] 35)
      have HB5 := hide (Bx.new [.int .i64 x0, .int .i64 x1] 35 w4)
      have HC5 := hide (hc4.below hb5)
      have HO5 := hide (HO4.out.alloc (.cells #[.int .i64 x0, .int .i64 x1] 35))
      have HK5 := hide (HK4.out.trans (Kept.of_below hb5))
      clear c2 hc4 hk4 HO3 HK3 HO4 HK4 hb5
      go_upto_region 6 with fail
      generalize hw5 : w4.alloc (.cells #[.int .i64 x0, .int .i64 x1] 35) = w5 at *
      have hs5 : w4.heap.size < w5.heap.size := by rw [← hw5]; simp
      clear hw5
      generalize hX : w4.heap.size = X at *
      clear hX
      obtain ⟨ad, cp, rfl, hcells⟩ := own_form HO5.out
      have HCL := hide hcells
      clear hcells
      have i0 := (HB5.out 0 _ rfl).1
      have i1 := (HB5.out 1 _ rfl).1
      clear HB5
      go_wp2_with fail
      go_loopw [6, 7] (fun t i ws => ∃ (k d : Nat) (q : Bool), k ≤ m ∧ i = .int .i64 k ∧ t = .bool q ∧ ws = w5.drewN d) (fun _ i _ => m - (intOf i).toNat)
      case atStart => exact ⟨0, 0, false, by omega, rfl, rfl, rfl⟩
      case round =>
        obtain ⟨k, d, q, hkm, rfl, rfl, rfl⟩ := hrel
        by_cases hlt : k < m
        · obtain ⟨b, rfl, hcc⟩ := HCL.out (by omega)
          have z0 := hcc (k * 2) (by omega)
          have z1 := hcc (k * 2 + 1) (by omega)
          clear HCL hcc HO5 HC5 HK5
          generalize f (k * 2) = g0 at *
          generalize f (k * 2 + 1) = g1 at *
          cases q
          · by_cases e0 : g0 = x0
            · subst e0
              by_cases e1 : g1 = x1
              · subst e1
                go_wp2_with fail
                go_region
                go_wp2_with fail
                go_roundw
                case rel => exact ⟨k + 1, _, _, by omega, by go_num, rfl, rfl⟩
                case measure => simp [intOf]; omega
              · go_wp2_with fail
                go_region
                go_wp2_with fail
                go_roundw
                case rel => exact ⟨k + 1, _, _, by omega, by go_num, rfl, rfl⟩
                case measure => simp [intOf]; omega
            · go_wp2_with fail
              go_region
              go_wp2_with fail
              go_roundw
              case rel => exact ⟨k + 1, _, _, by omega, by go_num, rfl, rfl⟩
              case measure => simp [intOf]; omega
          · go_wp2_with fail
            go_quiet (fail)
            go_wp2_with fail
            go_roundw
            case rel => exact ⟨k + 1, _, _, by omega, by go_num, rfl, rfl⟩
            case measure => simp [intOf]; omega
        · obtain rfl : k = m := by omega
          clear HCL
          have HO6 : Hid ((w5.drewN d).ownsRow w.heap.size 35 2 (.slice ad k cp) k (ints (fl f (k * 2)))) := owns_kept HO5.out ((Kept.refl p w5).drewN d) hp
          have HC6 : Hid (Cur p a len cap (w5.drewN d)) := HC5.out.drewN d
          have HK6 : Hid (Kept p w (w5.drewN d)) := HK5.out.drewN d
          have j0 : (w5.drewN d).cell? ⟨X, 0, none⟩ = some (.int .i64 x0) := i0
          have j1 : (w5.drewN d).cell? ⟨X, 1, none⟩ = some (.int .i64 x1) := i1
          clear HO5 HC5 HK5 i0 i1
          generalize World.drewN w5 d = w6 at *
          cases q
          · have HO7 : Hid (w6.ownsRow w.heap.size 35 2 (.slice ad k cp) k (ints (fl (spotX f k x0 x1) (k * 2)))) := by show World.ownsRow _ _ _ _ _ _ _; rw [← fl_spotX]; exact HO6.out
            have HS6 : Hid (w.heap.size ≤ w6.heap.size) := HK6.out.size
            have E0 : Hid (x0 = spotX f k x0 x1 (k * 2)) := by show _ = _; unfold spotX; rw [if_neg (by omega), if_pos rfl]
            have E1 : Hid (x1 = spotX f k x0 x1 (k * 2 + 1)) := by show _ = _; unfold spotX; rw [if_neg (by omega), if_neg (by omega)]
            clear HO6
            go_upto_region 12 with fail
            generalize hv0 : Value.slice ad k cp = v0 at *
            go_wp2_with (refine growS _ rfl _ _ rfl w.heap.size v0 k (spotX f k x0 x1) rfl w6 HO7.out (Below.refl _ _) HS6.out x0 x1 E0.out E1.out rfl (by omega) ?_)
            intro v' w' ho' hb' hs'
            have HO8 := hide ho'
            have HC8 : Hid (Cur p a len cap w') := HC6.out.belowB hb' hp HAB.out
            have HK8 : Hid (Kept p w w') := HK6.out.belowB hb' (Nat.le_refl _)
            clear ho' hb' hs' HO7 HC6 HK6 HS6 hv0
            go_wp2_with fail
            go_roundw
            case rel => exact ⟨k + 1, j - 1, spotX f k x0 x1, by omega, by congr 1; omega, HO8.out, HC8.out, HK8.out⟩
            case measure => simp [intOf]; omega
          · go_wp2_with fail
            go_roundw
            case rel => exact ⟨k, j - 1, f, by omega, by congr 1; omega, HO6.out, HC6.out, HK6.out⟩
            case measure => simp [intOf]; omega
    · obtain rfl : j = 0 := by omega
      have HR : Hid (∀ v, wr.ownsRow w.heap.size 35 2 v m (ints (fl f (m * 2))) → DrawnS p a len cap 5 w (.returned v) wr) := fun v hv => ⟨v, m, f, rfl, by omega, hv, hc, HK.out⟩
      have HR2 := hide (HR.out _ HO.out)
      clear HR HO HK hc
      go_wp2_with fail
      go_ret
      exact HR2.out

end Go.Proofs.Ytchbaegmkaibcaa

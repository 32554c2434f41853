/- The law on Count, walked. -/
import Derived.Test.YtickogmibmdjoaaWdk
import Derived.Test.YtickogmibmdjoaaHom
import Derived.Deep.RegionHeld3
namespace Go.Proofs.Ytickogmibmdjoaa
open Go.RowKit

set_option maxRecDepth 100000 in
set_option maxHeartbeats 4000000 in
theorem fnExactCount_walk (a0 : Option Addr) (n0 cap0 : Nat) (f0 : Nat → Int) (hl0 : n0 ≤ maxLen) (x y l : Int) (w : World) (h0 : Px a0 (n0 * 4) f0 w) :
    Calls Try.prog 4 #[.slice a0 n0 cap0, vQuery x y, .int .i64 l] w fun e w' => e = .returned (.bool true) ∧ Below w.heap.size w w' := by
  unfold maxLen at hl0
  obtain ⟨W, hW⟩ : ∃ W, W = w.alloc (.cells #[.int .i64 x, .int .i64 y] 34) := ⟨_, rfl⟩
  have hWB : Below w.heap.size w W := by rw [hW]; exact bnew _ _
  have hWs : w.heap.size < W.heap.size := by rw [hW]; simp
  have i0 : W.cell? ⟨w.heap.size, 0, none⟩ = some (.int .i64 x) := by rw [hW]; simp [go_sem]
  have i1 : W.cell? ⟨w.heap.size, 1, none⟩ = some (.int .i64 y) := by rw [hW]; simp [go_sem]
  have HKEEP : Hid (∀ wz, Below W.heap.size W wz → wz.cell? ⟨w.heap.size, 0, none⟩ = some (.int .i64 x) ∧ wz.cell? ⟨w.heap.size, 1, none⟩ = some (.int .i64 y)) := fun wz hb => ⟨(hb.cell (p := ⟨w.heap.size, 0, none⟩) hWs).trans i0, (hb.cell (p := ⟨w.heap.size, 1, none⟩) hWs).trans i1⟩
  have hW' := hW.symm
  have HWB := hide hWB
  have HP := hide (h0.below hWB)
  have hz := szPatientS_any a0 n0 cap0 1048576 (by omega) (by omega) (by omega)
  clear h0 hW hWB hWs i0 i1
  by_cases hb0 : (1048576 : Int) < n0
  · rw [if_pos hb0] at hz
    clear hb0 hl0 HP HKEEP
    go_enter Try.func4, Try.ntmps4
    go_wp2_with fail
    refine (hz _).mono ?_
    rintro e wz0 ⟨rfl, rfl⟩
    clear hz
    go_wp2_with fail
    go_ret
    exact ⟨rfl, HWB.out⟩
  rw [if_neg hb0] at hz
  have hn0 : ¬ (1048576 - (n0 : Int) : Int) < 0 := by omega
  have hL0 : n0 ≤ 1048576 := by omega
  have cT : ∀ wz, Below W.heap.size W wz → Calls Try.prog 7 #[.slice a0 n0 cap0] wz fun e w' => ∃ g : Nat, e = .returned (.slice (some ⟨g, 0, none⟩) n0 n0) ∧ Px (some ⟨g, 0, none⟩) (n0 * 4) f0 w' ∧ Below wz.heap.size wz w' := fun wz hb =>
    (toPatientS_any a0 n0 cap0 f0 hL0 wz (HP.out.below hb)).mono fun e w' ⟨h1, h2, h3, _⟩ => ⟨_, h1, h2.px, h3⟩
  have cA := fun a1 a2 => eqPatientS_any a1 a2 n0 n0 n0 f0 hL0
  have cS := fun b0 w' h0 => specCount_any b0 n0 n0 f0 hL0 x y l w' h0
  have cI := fun b0 w' h0 => implCount_any b0 n0 n0 f0 hL0 x y l w' h0
  generalize cnV f0 n0 x y l = V at *
  clear hl0
  have cQ := toQuery_any x y
  go_enter Try.func4, Try.ntmps4
  go_wp2_with fail
  refine (hz _).mono ?_
  rintro e w1 ⟨rfl, rfl⟩
  clear hz hW'
  have HD0 : Hid (Below w1.heap.size w1 w1.drew) := (Below.refl _ _).drew
  have SK0 := hide (HKEEP.out w1.drew HD0.out)
  go_upto_region 5 with fail
  go_region_held3 (fun (w' : World) => w'.cell? ⟨w.heap.size, 0, none⟩ = some (.int .i64 x) ∧ w'.cell? ⟨w.heap.size, 1, none⟩ = some (.int .i64 y))
    (first | with_reducible exact SK0.out | with_reducible exact SKp.out | with_reducible exact SKq.out | with_reducible exact SKc.out)
    (first
      | (go_at_call 7; (first | with_reducible refine (cT _ HD0.out).mono ?_ | with_reducible refine (cT _ HQW.out).mono ?_); rintro e wp ⟨gp, rfl, hrp, hbp⟩; have HPW : Hid (Below w1.heap.size w1 wp) := (by first | exact bnext HD0.out (Nat.le_refl _) hbp | exact bnext HQW.out (Nat.le_refl _) hbp); have SKp := hide (HKEEP.out wp HPW.out); have HRP := hide hrp; clear hrp hbp)
      | (go_at_call 15; (with_reducible refine (cQ _).mono ?_); rintro e wq ⟨rfl, hbq⟩; have HQW : Hid (Below w1.heap.size w1 wq) := (by first | exact bnext HD0.out (Nat.le_refl _) hbq | exact bnext HPW.out (Nat.le_refl _) hbq); have SKq := hide (HKEEP.out wq HQW.out); have HBQ := hide hbq; clear hbq)
      | (go_at_call 14; (first | with_reducible refine (cS _ _ HRP.out).mono ?_ | with_reducible refine (cS _ _ (HRP.out.below HBQ.out)).mono ?_); rintro e wc ⟨rfl, hbc⟩; have HCW : Hid (Below w1.heap.size w1 wc) := (by first | exact bnext HQW.out (Nat.le_refl _) hbc | exact bnext HPW.out (Nat.le_refl _) hbc); have SKc := hide (HKEEP.out wc HCW.out); clear hbc))
  all_goals
    clear SK0 SKp SKq SKc HRP HBQ HPW HQW HD0 cS
    go_wp2_with fail
    refine (cT _ HCW.out).mono ?_
    rintro e w3 ⟨g3, rfl, hr3, hb3⟩
    have HB3 := hide (bnext HCW.out (Nat.le_refl _) hb3)
    obtain ⟨i0, i1⟩ := HKEEP.out w3 HB3.out
    have HR3 := hide hr3
    clear hr3 hb3 HCW
    go_wp2_with fail
    refine (cQ _).mono ?_
    rintro e w4 ⟨rfl, hb4⟩
    have HB4 := hide (bnext HB3.out (Nat.le_refl _) hb4)
    have HR4 := hide (HR3.out.below hb4)
    clear hb4 HR3 HB3 i0 i1
    go_wp2_with fail
    refine (cI _ _ HR4.out).mono ?_
    rintro e w5 ⟨rfl, hb5⟩
    have HB5 := hide (bnext HB4.out (Nat.le_refl _) hb5)
    have HR5 := hide (HR4.out.below hb5)
    have qv : (V != V) = false := by simp
    clear hb5 HR4 HB4 cI
    go_wp2_with fail
    refine (cT _ HB5.out).mono ?_
    rintro e w6 ⟨g6, rfl, hr6, hb6⟩
    have HB6 := hide (bnext HB5.out (Nat.le_refl _) hb6)
    have HR6 := hide (HR5.out.below hb6)
    have HRR := hide hr6
    clear hr6 hb6 HR5 HB5
    go_wp2_with fail
    refine (cA _ _ _ HR6.out HRR.out).mono ?_
    rintro e w7 ⟨rfl, hb7⟩
    have HF : Hid (Below w.heap.size w w7) := bnext HWB.out (Nat.le_refl _) (bnext HB6.out (Nat.le_refl _) hb7)
    clear hb7 HR6 HRR HB6 cA cT
    go_wp2_with fail
    go_ret
    exact ⟨rfl, HF.out⟩

end Go.Proofs.Ytickogmibmdjoaa

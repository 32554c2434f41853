/- The law on GatherOk, walked. -/
import Derived.Test.YtoomnfjcbdghgaaGsz
namespace Go.Proofs.Ytoomnfjcbdghgaa
open Go.RowKit

theorem Row.at0 {g n : Nat} {f : Nat → Int} {w : World} (h : Row g n f w) : ∀ k, k < n → w.cell? ⟨g, 0 + k, none⟩ = some (.int .i64 (f k)) := fun k hk => by rw [Nat.zero_add]; exact (h k hk).1

set_option maxRecDepth 100000 in
set_option maxHeartbeats 4000000 in
theorem fnExactGatherOk_walk (a1 : Option Addr) (n1 c1 : Nat) (f1 : Nat → Int) (a2 : Option Addr) (n2 c2 : Nat) (f2 : Nat → Int) (a3 : Option Addr) (m c3 : Nat) (E : Nat → SPart) (hn1 : n1 ≤ maxLen) (hn2 : n2 ≤ maxLen) (hm : m ≤ maxLen) (hl : ∀ i, (E i).f3.size ≤ maxLen) (w : World) (h : PxR a1 n1 f1 a2 n2 f2 a3 m E w) :
    Calls Try.prog 10 #[vGa a1 n1 c1 a2 n2 c2 a3 m c3] w fun e w' => e = .returned (.bool true) ∧ Below w.heap.size w w' := by
  obtain ⟨W, hW⟩ : ∃ W, W = w.alloc (.cells #[.slice a1 n1 c1, .slice a2 n2 c2, .slice a3 m c3] 65) := ⟨_, rfl⟩
  have hWB : Below w.heap.size w W := by rw [hW]; exact bnew _ _
  have hWs : w.heap.size < W.heap.size := by rw [hW]; simp
  have q0 : Bx w.heap.size [.slice a1 n1 c1, .slice a2 n2 c2, .slice a3 m c3] W := by rw [hW]; exact Bx.new _ _ w
  have HQ0 := hide q0
  have hW' := hW.symm
  have HP := hide (h.below hWB)
  have HWB := hide hWB
  have HWs := hide hWs
  have cZ := szGather_any a1 n1 c1 f1 a2 n2 c2 f2 a3 m c3 E hn1 hn2 hm hl W HP.out
  have i0 := (q0 0 _ rfl).1
  have i1 := (q0 1 _ rfl).1
  have i2 := (q0 2 _ rfl).1
  clear h hW hWB q0 hWs hn1 hn2 hm hl
  go_enter Try.func10, Try.ntmps10
  go_wp2_with fail
  refine cZ.mono ?_
  rintro e w1 ⟨hb1, v1, rfl, hv1⟩
  have HB1 := hide hb1
  clear cZ hb1 hW' i0 i1 i2
  rcases hv1 with hv1 | ⟨hv1, hz⟩
  · have HF : Hid (Below w.heap.size w w1) := bnext HWB.out (Nat.le_refl _) HB1.out
    clear HP HQ0
    go_wp2_with fail
    go_ret
    exact ⟨rfl, HF.out⟩
  have g1 : ¬ v1 < 0 := by omega
  have cT := fun wz hb => toGather_any a1 n1 c1 f1 a2 n2 c2 f2 a3 m c3 E hz wz (HP.out.below hb)
  have HI : Hid (∀ wz, Below W.heap.size W wz → Bx w.heap.size [.slice a1 n1 c1, .slice a2 n2 c2, .slice a3 m c3] wz) := fun wz hb => HQ0.out.below hb HWs.out
  have HZ := hide hz
  clear hz HQ0
  obtain ⟨i0, i1, i2⟩ : (w1.cell? ⟨w.heap.size, 0, none⟩ = some (.slice a1 n1 c1) ∧ w1.cell? ⟨w.heap.size, 1, none⟩ = some (.slice a2 n2 c2) ∧ w1.cell? ⟨w.heap.size, 2, none⟩ = some (.slice a3 m c3)) := by
    have hq := HI.out w1 HB1.out
    exact ⟨(hq 0 _ rfl).1, (hq 1 _ rfl).1, (hq 2 _ rfl).1⟩
  go_wp2_with fail
  refine (cT _ HB1.out).mono ?_
  rintro e w2 ⟨b1, b2, b3, rfl, hr2, hb2⟩
  have HB2 : Hid (Below W.heap.size W w2) := bnext HB1.out (Nat.le_refl _) hb2
  have cS := specGatherOk_any b1 0 n1 n1 f1 b2 0 n2 n2 f2 (some ⟨b3, 0, none⟩) m m E HZ.out.o HZ.out.d HZ.out.p (Nat.le_refl _) (Nat.le_refl _) HZ.out.b w2 hr2.o.at0 hr2.d.at0 hr2.px.p
  have cI' := fun (b1 b2 b3 : Nat) wz h1 h2 h3 => implGatherOk_any b1 0 n1 n1 f1 b2 0 n2 n2 f2 (some ⟨b3, 0, none⟩) m m E HZ.out.o HZ.out.d HZ.out.p (Nat.le_refl _) HZ.out.b wz h1 h2 h3
  generalize gaB n1 f1 n2 f2 m E = AB at *
  clear hr2 hb2 i0 i1 i2
  go_wp2_with fail
  refine cS.mono ?_
  rintro e w3 ⟨rfl, hb3⟩
  have HB3 : Hid (Below W.heap.size W w3) := bnext HB2.out (Nat.le_refl _) hb3
  clear cS hb3 HB1 HB2
  obtain ⟨i0, i1, i2⟩ : (w3.cell? ⟨w.heap.size, 0, none⟩ = some (.slice a1 n1 c1) ∧ w3.cell? ⟨w.heap.size, 1, none⟩ = some (.slice a2 n2 c2) ∧ w3.cell? ⟨w.heap.size, 2, none⟩ = some (.slice a3 m c3)) := by
    have hq := HI.out w3 HB3.out
    exact ⟨(hq 0 _ rfl).1, (hq 1 _ rfl).1, (hq 2 _ rfl).1⟩
  go_wp2_with fail
  refine (cT _ HB3.out).mono ?_
  rintro e w4 ⟨d1, d2, d3, rfl, hr4, hb4⟩
  have HB4 : Hid (Below W.heap.size W w4) := bnext HB3.out (Nat.le_refl _) hb4
  obtain ⟨X, hX⟩ : ∃ X, X = w4.alloc (.cells #[.slice (some ⟨d1, 0, none⟩) n1 n1, .slice (some ⟨d2, 0, none⟩) n2 n2, .slice (some ⟨d3, 0, none⟩) m m] 34) := ⟨_, rfl⟩
  have hX4 : Below w4.heap.size w4 X := by rw [hX]; exact bnew _ _
  have HBX : Hid (Below W.heap.size W X) := bnext HB4.out (Nat.le_refl _) hX4
  have HPX := hide (hr4.px.below hX4)
  have hXs : w4.heap.size < X.heap.size := by rw [hX]; simp
  have x0 : Bx w4.heap.size [.slice (some ⟨d1, 0, none⟩) n1 n1, .slice (some ⟨d2, 0, none⟩) n2 n2, .slice (some ⟨d3, 0, none⟩) m m] X := by rw [hX]; exact Bx.new _ _ w4
  have HX0 := hide x0
  have p0 := (x0 0 _ rfl).1
  have p1 := (x0 1 _ rfl).1
  have p2 := (x0 2 _ rfl).1
  have hX' := hX.symm
  have cI2 := cI' d1 d2 d3 X (fun k hk => cell_kept' hX4 (hr4.o.at0 k hk)) (fun k hk => cell_kept' hX4 (hr4.d.at0 k hk)) HPX.out.p
  clear hr4 hb4 hX hX4 x0 i0 i1 i2 cI' HB3 HB4
  go_wp2_with fail
  refine cI2.mono ?_
  rintro e w5 ⟨rfl, hb5⟩
  have HB5 : Hid (Below W.heap.size W w5) := bnext HBX.out (Nat.le_refl _) hb5
  have qb : (AB != AB) = false := by simp
  have HP5 := hide (HPX.out.below hb5)
  have hx5 := HX0.out.below hb5 hXs
  clear p0 p1 p2
  obtain ⟨p0, p1, p2⟩ : (w5.cell? ⟨w4.heap.size, 0, none⟩ = some (.slice (some ⟨d1, 0, none⟩) n1 n1) ∧ w5.cell? ⟨w4.heap.size, 1, none⟩ = some (.slice (some ⟨d2, 0, none⟩) n2 n2) ∧ w5.cell? ⟨w4.heap.size, 2, none⟩ = some (.slice (some ⟨d3, 0, none⟩) m m)) := ⟨(hx5 0 _ rfl).1, (hx5 1 _ rfl).1, (hx5 2 _ rfl).1⟩
  obtain ⟨i0, i1, i2⟩ : (w5.cell? ⟨w.heap.size, 0, none⟩ = some (.slice a1 n1 c1) ∧ w5.cell? ⟨w.heap.size, 1, none⟩ = some (.slice a2 n2 c2) ∧ w5.cell? ⟨w.heap.size, 2, none⟩ = some (.slice a3 m c3)) := by
    have hq := HI.out w5 HB5.out
    exact ⟨(hq 0 _ rfl).1, (hq 1 _ rfl).1, (hq 2 _ rfl).1⟩
  have HX5 := hide hx5
  have hs5 : w4.heap.size < w5.heap.size := Nat.lt_of_lt_of_le hXs hb5.size
  have HB5d : Hid (Below W.heap.size W w5.drew) := HB5.out.drew
  have cT5 := cT w5.drew HB5d.out
  have HP5d := hide (HP5.out.below (Below.refl _ _).drew)
  have HDR : Hid (Below w5.heap.size w5 w5.drew) := (Below.refl _ _).drew
  have cE := fun (g1 g2 g3 : Nat) wz h1 h2 => eqGather_any (some ⟨d1, 0, none⟩) (some ⟨g1, 0, none⟩) n1 n1 n1 f1 (some ⟨d2, 0, none⟩) (some ⟨g2, 0, none⟩) n2 n2 n2 f2 (some ⟨d3, 0, none⟩) (some ⟨g3, 0, none⟩) m m m E HZ.out wz h1 h2
  have SK0 : Hid (w5.drew.cell? ⟨w4.heap.size, 0, none⟩ = some (.slice (some ⟨d1, 0, none⟩) n1 n1) ∧ w5.drew.cell? ⟨w4.heap.size, 1, none⟩ = some (.slice (some ⟨d2, 0, none⟩) n2 n2) ∧ w5.drew.cell? ⟨w4.heap.size, 2, none⟩ = some (.slice (some ⟨d3, 0, none⟩) m m) ∧ w5.drew.cell? ⟨w.heap.size, 0, none⟩ = some (.slice a1 n1 c1) ∧ w5.drew.cell? ⟨w.heap.size, 1, none⟩ = some (.slice a2 n2 c2) ∧ w5.drew.cell? ⟨w.heap.size, 2, none⟩ = some (.slice a3 m c3)) := ⟨p0, p1, p2, i0, i1, i2⟩
  have HKEEP : Hid (∀ wz, Below w5.heap.size w5 wz → (wz.cell? ⟨w4.heap.size, 0, none⟩ = some (.slice (some ⟨d1, 0, none⟩) n1 n1) ∧ wz.cell? ⟨w4.heap.size, 1, none⟩ = some (.slice (some ⟨d2, 0, none⟩) n2 n2) ∧ wz.cell? ⟨w4.heap.size, 2, none⟩ = some (.slice (some ⟨d3, 0, none⟩) m m) ∧ wz.cell? ⟨w.heap.size, 0, none⟩ = some (.slice a1 n1 c1) ∧ wz.cell? ⟨w.heap.size, 1, none⟩ = some (.slice a2 n2 c2) ∧ wz.cell? ⟨w.heap.size, 2, none⟩ = some (.slice a3 m c3))) := fun wz hb => by
    have hx := HX5.out.below hb hs5
    have hq := HI.out wz (bnext HB5.out (Nat.le_refl _) hb)
    exact ⟨(hx 0 _ rfl).1, (hx 1 _ rfl).1, (hx 2 _ rfl).1, (hq 0 _ rfl).1, (hq 1 _ rfl).1, (hq 2 _ rfl).1⟩
  clear cI2 hb5 hx5 HX0 HPX HBX hX' cT HP HI hXs
  go_upto_region 10 with fail
  go_region_held3 (fun (w' : World) => w'.cell? ⟨w4.heap.size, 0, none⟩ = some (.slice (some ⟨d1, 0, none⟩) n1 n1) ∧ w'.cell? ⟨w4.heap.size, 1, none⟩ = some (.slice (some ⟨d2, 0, none⟩) n2 n2) ∧ w'.cell? ⟨w4.heap.size, 2, none⟩ = some (.slice (some ⟨d3, 0, none⟩) m m) ∧ w'.cell? ⟨w.heap.size, 0, none⟩ = some (.slice a1 n1 c1) ∧ w'.cell? ⟨w.heap.size, 1, none⟩ = some (.slice a2 n2 c2) ∧ w'.cell? ⟨w.heap.size, 2, none⟩ = some (.slice a3 m c3))
    (first | with_reducible exact SK0.out | with_reducible exact SK6.out | with_reducible exact SK7.out)
    (first
      | (go_at_call 40; (with_reducible refine cT5.mono ?_); rintro e w6 ⟨g1', g2', g3', rfl, hr6, hb6⟩; have HB56 : Hid (Below w5.heap.size w5 w6) := HDR.out.trans hb6; have SK6 := hide (HKEEP.out w6 HB56.out); have HE6 := hide (cE g1' g2' g3' w6 (HP5d.out.below hb6) hr6.px); clear hr6 hb6)
      | (go_at_call 41; (with_reducible refine HE6.out.mono ?_); rintro e w7 ⟨rfl, hb7⟩; have HB57 : Hid (Below w5.heap.size w5 w7) := bnext HB56.out (Nat.le_refl _) hb7; have SK7 := hide (HKEEP.out w7 HB57.out); clear hb7))
  all_goals
    have HF : Hid (Below w.heap.size w w7) := bnext HWB.out (Nat.le_refl _) (bnext HB5.out (Nat.le_refl _) HB57.out)
    clear SK0 SK6 SK7 cT5 cE HE6 HKEEP i0 i1 i2 p0 p1 p2
    go_wp2_with fail
    go_ret
    exact ⟨rfl, HF.out⟩

end Go.Proofs.Ytoomnfjcbdghgaa

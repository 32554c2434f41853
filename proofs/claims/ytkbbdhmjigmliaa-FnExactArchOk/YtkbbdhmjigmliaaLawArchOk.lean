/- Archives: the law's own comparison, and the law on ArchOk, walked. -/
import Derived.Test.YtkbbdhmjigmliaaAsz
namespace Go.Proofs.Ytkbbdhmjigmliaa
open Go.RowKit

set_option maxRecDepth 100000 in
set_option maxHeartbeats 2000000 in
theorem eqArch_any (aI aI' : Option Addr) (nI cI cI' : Nat) (I : Nat → SEntry) (aL aL' : Option Addr) (nL cL cL' : Nat) (L : Nat → SCopy) (aR aR' : Option Addr) (nR cR cR' : Nat) (R : Nat → SCopy) (aA aA' : Option Addr) (nA cA cA' : Nat) (A : Nat → SNote) (clock : Int) (hz : SzA nI I nL L nR R nA A) (w : World) (h : PxA aI nI I aL nL L aR nR R aA nA A w) (h' : PxA aI' nI I aL' nL L aR' nR R aA' nA A w) :
    Calls Try.prog 9 #[vArch aI nI cI aL nL cL aR nR cR aA nA cA clock, vArch aI' nI cI' aL' nL cL' aR' nR cR' aA' nA cA' clock] w fun e w' => e = .returned (.bool true) ∧ Below w.heap.size w w' := by
  obtain ⟨W, hW⟩ : ∃ W, W = (w.alloc (.cells #[.slice aI nI cI, .slice aL nL cL, .slice aR nR cR, .slice aA nA cA, .int .i64 clock] 33)).alloc (.cells #[.slice aI' nI cI', .slice aL' nL cL', .slice aR' nR cR', .slice aA' nA cA', .int .i64 clock] 33) := ⟨_, rfl⟩
  have hWB : Below w.heap.size w W := by rw [hW]; exact (bnew _ _).alloc (by simp) _
  have hWs : W.heap.size = w.heap.size + 2 := by rw [hW]; simp
  have q0 : Bx w.heap.size [.slice aI nI cI, .slice aL nL cL, .slice aR nR cR, .slice aA nA cA, .int .i64 clock] W := by
    rw [hW]; exact (Bx.new [.slice aI nI cI, .slice aL nL cL, .slice aR nR cR, .slice aA nA cA, .int .i64 clock] _ w).below (bnew _ _) (by simp)
  have q1 : Bx (w.heap.size + 1) [.slice aI' nI cI', .slice aL' nL cL', .slice aR' nR cR', .slice aA' nA cA', .int .i64 clock] W := by
    have := Bx.new [.slice aI' nI cI', .slice aL' nL cL', .slice aR' nR cR', .slice aA' nA cA', .int .i64 clock] 33 (w.alloc (.cells #[.slice aI nI cI, .slice aL nL cL, .slice aR nR cR, .slice aA nA cA, .int .i64 clock] 33))
    rw [hW]
    simpa using this
  have HQ0 := hide q0
  have HQ1 := hide q1
  have hW' := hW.symm
  have HP := hide (h.below hWB)
  have HP' := hide (h'.below hWB)
  have HWB := hide hWB
  have HWs := hide hWs
  have c1 := eqEntryS_any aI aI' nI cI cI' I hz.ni W HP.out.i HP'.out.i
  have c2 := fun wz hb => eqCopyS_any aL aL' nL cL cL' L hz.nl wz (HP.out.below hb).l (HP'.out.below hb).l
  have c3 := fun wz hb => eqCopyS_any aR aR' nR cR cR' R hz.nr wz (HP.out.below hb).r (HP'.out.below hb).r
  have c4 := fun wz hb => eqNoteS_any aA aA' nA cA cA' A hz.na wz (HP.out.below hb).a (HP'.out.below hb).a
  have qc : (clock != clock) = false := by simp
  have i0 := (q0 0 _ rfl).1
  have j0 := (q1 0 _ rfl).1
  clear h h' hW hWB q0 q1 hWs hz
  go_enter Try.func9, Try.ntmps9
  go_wp2_with fail
  refine c1.mono ?_
  rintro e w1 ⟨rfl, hb1⟩
  have HB1 := hide hb1
  clear c1 hb1 hW' i0 j0
  have i1 := ((HQ0.out.below HB1.out (by have := HWs.out; omega)) 1 _ rfl).1
  have j1 := ((HQ1.out.below HB1.out (by have := HWs.out; omega)) 1 _ rfl).1
  go_wp2_with fail
  refine (c2 _ HB1.out).mono ?_
  rintro e w2 ⟨rfl, hb2⟩
  have HB2 : Hid (Below W.heap.size W w2) := bnext HB1.out (Nat.le_refl _) hb2
  clear c2 hb2 i1 j1
  have i2 := ((HQ0.out.below HB2.out (by have := HWs.out; omega)) 2 _ rfl).1
  have j2 := ((HQ1.out.below HB2.out (by have := HWs.out; omega)) 2 _ rfl).1
  go_wp2_with fail
  refine (c3 _ HB2.out).mono ?_
  rintro e w3 ⟨rfl, hb3⟩
  have HB3 : Hid (Below W.heap.size W w3) := bnext HB2.out (Nat.le_refl _) hb3
  clear c3 hb3 i2 j2
  have i3 := ((HQ0.out.below HB3.out (by have := HWs.out; omega)) 3 _ rfl).1
  have j3 := ((HQ1.out.below HB3.out (by have := HWs.out; omega)) 3 _ rfl).1
  go_wp2_with fail
  refine (c4 _ HB3.out).mono ?_
  rintro e w4 ⟨rfl, hb4⟩
  have HB4 : Hid (Below W.heap.size W w4) := bnext HB3.out (Nat.le_refl _) hb4
  clear c4 hb4 i3 j3
  have i4 := ((HQ0.out.below HB4.out (by have := HWs.out; omega)) 4 _ rfl).1
  have j4 := ((HQ1.out.below HB4.out (by have := HWs.out; omega)) 4 _ rfl).1
  have HF : Hid (Below w.heap.size w w4) := bnext HWB.out (Nat.le_refl _) HB4.out
  clear HQ0 HQ1 HP HP' HB1 HB2 HB3 HB4
  go_wp2_with fail
  go_ret
  exact ⟨rfl, HF.out⟩

set_option maxRecDepth 100000 in
set_option maxHeartbeats 4000000 in
theorem fnExactArchOk_walk (aI : Option Addr) (nI cI : Nat) (I : Nat → SEntry) (aL : Option Addr) (nL cL : Nat) (L : Nat → SCopy) (aR : Option Addr) (nR cR : Nat) (R : Nat → SCopy) (aA : Option Addr) (nA cA : Nat) (A : Nat → SNote) (clock : Int) (hn : nI ≤ maxLen ∧ nL ≤ maxLen ∧ nR ≤ maxLen ∧ nA ≤ maxLen) (ht : TxA I L R A) (w : World) (h : PxA aI nI I aL nL L aR nR R aA nA A w) :
    Calls Try.prog 3 #[vArch aI nI cI aL nL cL aR nR cR aA nA cA clock] w fun e w' => e = .returned (.bool true) ∧ Below w.heap.size w w' := by
  obtain ⟨W, hW⟩ : ∃ W, W = w.alloc (.cells #[.slice aI nI cI, .slice aL nL cL, .slice aR nR cR, .slice aA nA cA, .int .i64 clock] 26) := ⟨_, rfl⟩
  have hWB : Below w.heap.size w W := by rw [hW]; exact bnew _ _
  have hWs : w.heap.size < W.heap.size := by rw [hW]; simp
  have q0 : Bx w.heap.size [.slice aI nI cI, .slice aL nL cL, .slice aR nR cR, .slice aA nA cA, .int .i64 clock] W := by rw [hW]; exact Bx.new _ _ w
  have HQ0 := hide q0
  have hW' := hW.symm
  have HP := hide (h.below hWB)
  have HWB := hide hWB
  have HWs := hide hWs
  have cZ := szArch_any aI nI cI I aL nL cL L aR nR cR R aA nA cA A clock hn ht W HP.out
  have i0 := (q0 0 _ rfl).1
  have i1 := (q0 1 _ rfl).1
  have i2 := (q0 2 _ rfl).1
  have i3 := (q0 3 _ rfl).1
  have i4 := (q0 4 _ rfl).1
  clear h hW hWB q0 hWs hn ht
  go_enter Try.func3, Try.ntmps3
  go_wp2_with fail
  refine cZ.mono ?_
  rintro e w1 ⟨hb1, v1, rfl, hv1⟩
  have HB1 := hide hb1
  clear cZ hb1 hW' i0 i1 i2 i3 i4
  rcases hv1 with hv1 | ⟨hv1, hz⟩
  · have HF : Hid (Below w.heap.size w w1) := bnext HWB.out (Nat.le_refl _) HB1.out
    clear HP HQ0
    go_wp2_with fail
    go_ret
    exact ⟨rfl, HF.out⟩
  have g1 : ¬ v1 < 0 := by omega
  have cT := fun wz hb => toArch_any aI nI cI I aL nL cL L aR nR cR R aA nA cA A clock hz wz (HP.out.below hb)
  have HI : Hid (∀ wz, Below W.heap.size W wz → Bx w.heap.size [.slice aI nI cI, .slice aL nL cL, .slice aR nR cR, .slice aA nA cA, .int .i64 clock] wz) := fun wz hb => HQ0.out.below hb HWs.out
  have HZ := hide hz
  clear hz HQ0
  obtain ⟨i0, i1, i2, i3, i4⟩ : (w1.cell? ⟨w.heap.size, 0, none⟩ = some (.slice aI nI cI) ∧ w1.cell? ⟨w.heap.size, 1, none⟩ = some (.slice aL nL cL) ∧ w1.cell? ⟨w.heap.size, 2, none⟩ = some (.slice aR nR cR) ∧ w1.cell? ⟨w.heap.size, 3, none⟩ = some (.slice aA nA cA) ∧ w1.cell? ⟨w.heap.size, 4, none⟩ = some (.int .i64 clock)) := by
    have hq := HI.out w1 HB1.out
    exact ⟨(hq 0 _ rfl).1, (hq 1 _ rfl).1, (hq 2 _ rfl).1, (hq 3 _ rfl).1, (hq 4 _ rfl).1⟩
  go_wp2_with fail
  refine (cT _ HB1.out).mono ?_
  rintro e w2 ⟨bI, bL, bR, bA, rfl, hr2, hl2, hb2⟩
  have HB2 : Hid (Below W.heap.size W w2) := bnext HB1.out (Nat.le_refl _) hb2
  have cS := specArchOk_any (some ⟨bI, 0, none⟩) nI nI I (some ⟨bL, 0, none⟩) nL nL L (some ⟨bR, 0, none⟩) nR nR R (some ⟨bA, 0, none⟩) nA nA A clock HZ.out w2 hr2.px
  have cI' := fun (bI bL bR bA : Nat) wz hz2 => implArchOk_any (some ⟨bI, 0, none⟩) nI nI I (some ⟨bL, 0, none⟩) nL nL L (some ⟨bR, 0, none⟩) nR nR R (some ⟨bA, 0, none⟩) nA nA A clock HZ.out wz hz2
  generalize archB I nI L nL R nR A nA clock = AB at *
  clear hr2 hl2 hb2 i0 i1 i2 i3 i4
  go_wp2_with fail
  refine cS.mono ?_
  rintro e w3 ⟨rfl, hb3⟩
  have HB3 : Hid (Below W.heap.size W w3) := bnext HB2.out (Nat.le_refl _) hb3
  clear cS hb3 HB1 HB2
  obtain ⟨i0, i1, i2, i3, i4⟩ : (w3.cell? ⟨w.heap.size, 0, none⟩ = some (.slice aI nI cI) ∧ w3.cell? ⟨w.heap.size, 1, none⟩ = some (.slice aL nL cL) ∧ w3.cell? ⟨w.heap.size, 2, none⟩ = some (.slice aR nR cR) ∧ w3.cell? ⟨w.heap.size, 3, none⟩ = some (.slice aA nA cA) ∧ w3.cell? ⟨w.heap.size, 4, none⟩ = some (.int .i64 clock)) := by
    have hq := HI.out w3 HB3.out
    exact ⟨(hq 0 _ rfl).1, (hq 1 _ rfl).1, (hq 2 _ rfl).1, (hq 3 _ rfl).1, (hq 4 _ rfl).1⟩
  go_wp2_with fail
  refine (cT _ HB3.out).mono ?_
  rintro e w4 ⟨dI, dL, dR, dA, rfl, hr4, hl4, hb4⟩
  have HB4 : Hid (Below W.heap.size W w4) := bnext HB3.out (Nat.le_refl _) hb4
  obtain ⟨X, hX⟩ : ∃ X, X = w4.alloc (.cells #[.slice (some ⟨dI, 0, none⟩) nI nI, .slice (some ⟨dL, 0, none⟩) nL nL, .slice (some ⟨dR, 0, none⟩) nR nR, .slice (some ⟨dA, 0, none⟩) nA nA, .int .i64 clock] 33) := ⟨_, rfl⟩
  have hX4 : Below w4.heap.size w4 X := by rw [hX]; exact bnew _ _
  have HBX : Hid (Below W.heap.size W X) := bnext HB4.out (Nat.le_refl _) hX4
  have HPX := hide (hr4.px.below hX4)
  have hXs : w4.heap.size < X.heap.size := by rw [hX]; simp
  have x0 : Bx w4.heap.size [.slice (some ⟨dI, 0, none⟩) nI nI, .slice (some ⟨dL, 0, none⟩) nL nL, .slice (some ⟨dR, 0, none⟩) nR nR, .slice (some ⟨dA, 0, none⟩) nA nA, .int .i64 clock] X := by rw [hX]; exact Bx.new _ _ w4
  have HX0 := hide x0
  have p0 := (x0 0 _ rfl).1
  have p1 := (x0 1 _ rfl).1
  have p2 := (x0 2 _ rfl).1
  have p3 := (x0 3 _ rfl).1
  have p4 := (x0 4 _ rfl).1
  have hX' := hX.symm
  have cI2 := cI' dI dL dR dA X HPX.out
  clear hr4 hl4 hb4 hX hX4 x0 i0 i1 i2 i3 i4 cI' HB3 HB4
  go_wp2_with fail
  refine cI2.mono ?_
  rintro e w5 ⟨rfl, hb5⟩
  have HB5 : Hid (Below W.heap.size W w5) := bnext HBX.out (Nat.le_refl _) hb5
  have qb : (AB != AB) = false := by simp
  have HP5 := hide (HPX.out.below hb5)
  have hx5 := HX0.out.below hb5 hXs
  obtain ⟨p0, p1, p2, p3, p4⟩ : (w5.cell? ⟨w4.heap.size, 0, none⟩ = some (.slice (some ⟨dI, 0, none⟩) nI nI) ∧ w5.cell? ⟨w4.heap.size, 1, none⟩ = some (.slice (some ⟨dL, 0, none⟩) nL nL) ∧ w5.cell? ⟨w4.heap.size, 2, none⟩ = some (.slice (some ⟨dR, 0, none⟩) nR nR) ∧ w5.cell? ⟨w4.heap.size, 3, none⟩ = some (.slice (some ⟨dA, 0, none⟩) nA nA) ∧ w5.cell? ⟨w4.heap.size, 4, none⟩ = some (.int .i64 clock)) := ⟨(hx5 0 _ rfl).1, (hx5 1 _ rfl).1, (hx5 2 _ rfl).1, (hx5 3 _ rfl).1, (hx5 4 _ rfl).1⟩
  obtain ⟨i0, i1, i2, i3, i4⟩ : (w5.cell? ⟨w.heap.size, 0, none⟩ = some (.slice aI nI cI) ∧ w5.cell? ⟨w.heap.size, 1, none⟩ = some (.slice aL nL cL) ∧ w5.cell? ⟨w.heap.size, 2, none⟩ = some (.slice aR nR cR) ∧ w5.cell? ⟨w.heap.size, 3, none⟩ = some (.slice aA nA cA) ∧ w5.cell? ⟨w.heap.size, 4, none⟩ = some (.int .i64 clock)) := by
    have hq := HI.out w5 HB5.out
    exact ⟨(hq 0 _ rfl).1, (hq 1 _ rfl).1, (hq 2 _ rfl).1, (hq 3 _ rfl).1, (hq 4 _ rfl).1⟩
  have HX5 := hide hx5
  have hs5 : w4.heap.size < w5.heap.size := Nat.lt_of_lt_of_le hXs hb5.size
  have HB5d : Hid (Below W.heap.size W w5.drew) := HB5.out.drew
  have cT5 := cT w5.drew HB5d.out
  have HP5d := hide (HP5.out.below (Below.refl _ _).drew)
  have HDR : Hid (Below w5.heap.size w5 w5.drew) := (Below.refl _ _).drew
  have cE := fun (gI gL gR gA : Nat) wz h1 h2 => eqArch_any (some ⟨dI, 0, none⟩) (some ⟨gI, 0, none⟩) nI nI nI I (some ⟨dL, 0, none⟩) (some ⟨gL, 0, none⟩) nL nL nL L (some ⟨dR, 0, none⟩) (some ⟨gR, 0, none⟩) nR nR nR R (some ⟨dA, 0, none⟩) (some ⟨gA, 0, none⟩) nA nA nA A clock HZ.out wz h1 h2
  have SK0 : Hid (w5.drew.cell? ⟨w4.heap.size, 0, none⟩ = some (.slice (some ⟨dI, 0, none⟩) nI nI) ∧ w5.drew.cell? ⟨w4.heap.size, 1, none⟩ = some (.slice (some ⟨dL, 0, none⟩) nL nL) ∧ w5.drew.cell? ⟨w4.heap.size, 2, none⟩ = some (.slice (some ⟨dR, 0, none⟩) nR nR) ∧ w5.drew.cell? ⟨w4.heap.size, 3, none⟩ = some (.slice (some ⟨dA, 0, none⟩) nA nA) ∧ w5.drew.cell? ⟨w4.heap.size, 4, none⟩ = some (.int .i64 clock) ∧ w5.drew.cell? ⟨w.heap.size, 0, none⟩ = some (.slice aI nI cI) ∧ w5.drew.cell? ⟨w.heap.size, 1, none⟩ = some (.slice aL nL cL) ∧ w5.drew.cell? ⟨w.heap.size, 2, none⟩ = some (.slice aR nR cR) ∧ w5.drew.cell? ⟨w.heap.size, 3, none⟩ = some (.slice aA nA cA) ∧ w5.drew.cell? ⟨w.heap.size, 4, none⟩ = some (.int .i64 clock)) := ⟨p0, p1, p2, p3, p4, i0, i1, i2, i3, i4⟩
  have HKEEP : Hid (∀ wz, Below w5.heap.size w5 wz → (wz.cell? ⟨w4.heap.size, 0, none⟩ = some (.slice (some ⟨dI, 0, none⟩) nI nI) ∧ wz.cell? ⟨w4.heap.size, 1, none⟩ = some (.slice (some ⟨dL, 0, none⟩) nL nL) ∧ wz.cell? ⟨w4.heap.size, 2, none⟩ = some (.slice (some ⟨dR, 0, none⟩) nR nR) ∧ wz.cell? ⟨w4.heap.size, 3, none⟩ = some (.slice (some ⟨dA, 0, none⟩) nA nA) ∧ wz.cell? ⟨w4.heap.size, 4, none⟩ = some (.int .i64 clock) ∧ wz.cell? ⟨w.heap.size, 0, none⟩ = some (.slice aI nI cI) ∧ wz.cell? ⟨w.heap.size, 1, none⟩ = some (.slice aL nL cL) ∧ wz.cell? ⟨w.heap.size, 2, none⟩ = some (.slice aR nR cR) ∧ wz.cell? ⟨w.heap.size, 3, none⟩ = some (.slice aA nA cA) ∧ wz.cell? ⟨w.heap.size, 4, none⟩ = some (.int .i64 clock))) := fun wz hb => by
    have hx := HX5.out.below hb hs5
    have hq := HI.out wz (bnext HB5.out (Nat.le_refl _) hb)
    exact ⟨(hx 0 _ rfl).1, (hx 1 _ rfl).1, (hx 2 _ rfl).1, (hx 3 _ rfl).1, (hx 4 _ rfl).1, (hq 0 _ rfl).1, (hq 1 _ rfl).1, (hq 2 _ rfl).1, (hq 3 _ rfl).1, (hq 4 _ rfl).1⟩
  clear cI2 hb5 hx5 HX0 HPX HBX hX' cT HP HI hXs
  go_upto_region 10 with fail
  go_region_held3 (fun (w' : World) => w'.cell? ⟨w4.heap.size, 0, none⟩ = some (.slice (some ⟨dI, 0, none⟩) nI nI) ∧ w'.cell? ⟨w4.heap.size, 1, none⟩ = some (.slice (some ⟨dL, 0, none⟩) nL nL) ∧ w'.cell? ⟨w4.heap.size, 2, none⟩ = some (.slice (some ⟨dR, 0, none⟩) nR nR) ∧ w'.cell? ⟨w4.heap.size, 3, none⟩ = some (.slice (some ⟨dA, 0, none⟩) nA nA) ∧ w'.cell? ⟨w4.heap.size, 4, none⟩ = some (.int .i64 clock) ∧ w'.cell? ⟨w.heap.size, 0, none⟩ = some (.slice aI nI cI) ∧ w'.cell? ⟨w.heap.size, 1, none⟩ = some (.slice aL nL cL) ∧ w'.cell? ⟨w.heap.size, 2, none⟩ = some (.slice aR nR cR) ∧ w'.cell? ⟨w.heap.size, 3, none⟩ = some (.slice aA nA cA) ∧ w'.cell? ⟨w.heap.size, 4, none⟩ = some (.int .i64 clock))
    (first | with_reducible exact SK0.out | with_reducible exact SK6.out | with_reducible exact SK7.out)
    (first
      | (go_at_call 7; (with_reducible refine cT5.mono ?_); rintro e w6 ⟨gI, gL, gR, gA, rfl, hr6, hl6, hb6⟩; have HB56 : Hid (Below w5.heap.size w5 w6) := HDR.out.trans hb6; have SK6 := hide (HKEEP.out w6 HB56.out); have HE6 := hide (cE gI gL gR gA w6 (HP5d.out.below hb6) hr6.px); clear hr6 hl6 hb6)
      | (go_at_call 9; (with_reducible refine HE6.out.mono ?_); rintro e w7 ⟨rfl, hb7⟩; have HB57 : Hid (Below w5.heap.size w5 w7) := bnext HB56.out (Nat.le_refl _) hb7; have SK7 := hide (HKEEP.out w7 HB57.out); clear hb7))
  all_goals
    have HF : Hid (Below w.heap.size w w7) := bnext HWB.out (Nat.le_refl _) (bnext HB5.out (Nat.le_refl _) HB57.out)
    clear SK0 SK6 SK7 cT5 cE HE6 HKEEP i0 i1 i2 i3 i4 p0 p1 p2 p3 p4
    go_wp2_with fail
    go_ret
    exact ⟨rfl, HF.out⟩

end Go.Proofs.Ytkbbdhmjigmliaa

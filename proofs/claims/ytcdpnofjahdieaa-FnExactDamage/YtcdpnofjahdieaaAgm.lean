/- Archives: compared by their lengths alone, marked, held. -/
import Derived.Test.YtcdpnofjahdieaaAgd
import Derived.Test.YtcdpnofjahdieaaBxs
import Derived.Test.YtcdpnofjahdieaaSme
import Derived.Test.YtcdpnofjahdieaaSmc
import Derived.Test.YtcdpnofjahdieaaSmn
namespace Go.Proofs.Ytcdpnofjahdieaa
open Go.RowKit

structure Nz4 (nI nL nR nA : Nat) : Prop where
  ni : nI ≤ 1048576
  nl : nL ≤ 1048576
  nr : nR ≤ 1048576
  na : nA ≤ 1048576

set_option maxRecDepth 100000 in
set_option maxHeartbeats 2000000 in
theorem eqArchN_any (aI aI' : Option Addr) (nI cI cI' : Nat) (I : Nat → SEntry) (aL aL' : Option Addr) (nL cL cL' : Nat) (L : Nat → SCopy) (aR aR' : Option Addr) (nR cR cR' : Nat) (R : Nat → SCopy) (aA aA' : Option Addr) (nA cA cA' : Nat) (A : Nat → SNote) (clock : Int) (hz : Nz4 nI nL nR nA) (w : World) (h : PxA aI nI I aL nL L aR nR R aA nA A w) (h' : PxA aI' nI I aL' nL L aR' nR R aA' nA A w) :
    Calls Try.prog 8 #[vArch aI nI cI aL nL cL aR nR cR aA nA cA clock, vArch aI' nI cI' aL' nL cL' aR' nR cR' aA' nA cA' clock] w fun e w' => e = .returned (.bool true) ∧ Below w.heap.size w w' := by
  obtain ⟨W, hW⟩ : ∃ W, W = (w.alloc (.cells #[.slice aI nI cI, .slice aL nL cL, .slice aR nR cR, .slice aA nA cA, .int .i64 clock] 32)).alloc (.cells #[.slice aI' nI cI', .slice aL' nL cL', .slice aR' nR cR', .slice aA' nA cA', .int .i64 clock] 32) := ⟨_, rfl⟩
  have hWB : Below w.heap.size w W := by rw [hW]; exact (bnew _ _).alloc (by simp) _
  have hWs : W.heap.size = w.heap.size + 2 := by rw [hW]; simp
  have q0 : Bx w.heap.size [.slice aI nI cI, .slice aL nL cL, .slice aR nR cR, .slice aA nA cA, .int .i64 clock] W := by
    rw [hW]; exact (Bx.new [.slice aI nI cI, .slice aL nL cL, .slice aR nR cR, .slice aA nA cA, .int .i64 clock] _ w).below (bnew _ _) (by simp)
  have q1 : Bx (w.heap.size + 1) [.slice aI' nI cI', .slice aL' nL cL', .slice aR' nR cR', .slice aA' nA cA', .int .i64 clock] W := by
    have := Bx.new [.slice aI' nI cI', .slice aL' nL cL', .slice aR' nR cR', .slice aA' nA cA', .int .i64 clock] 32 (w.alloc (.cells #[.slice aI nI cI, .slice aL nL cL, .slice aR nR cR, .slice aA nA cA, .int .i64 clock] 32))
    rw [hW]
    simpa using this
  have HQ0 := hide q0
  have HQ1 := hide q1
  have hW' := hW.symm
  have HP := hide (h.below hWB)
  have HP' := hide (h'.below hWB)
  have HWB := hide hWB
  have HWs := hide hWs
  have c1 := eqEntryS_any aI aI' nI cI cI' I hz.ni W HP.out.i HP'.out.i
  have c2 := fun wz hb => eqCopyS_any aL aL' nL cL cL' L hz.nl wz (HP.out.below hb).l (HP'.out.below hb).l
  have c3 := fun wz hb => eqCopyS_any aR aR' nR cR cR' R hz.nr wz (HP.out.below hb).r (HP'.out.below hb).r
  have c4 := fun wz hb => eqNoteS_any aA aA' nA cA cA' A hz.na wz (HP.out.below hb).a (HP'.out.below hb).a
  have qc : (clock != clock) = false := by simp
  have i0 := (q0 0 _ rfl).1
  have j0 := (q1 0 _ rfl).1
  clear h h' hW hWB q0 q1 hWs hz
  go_enter Try.func8, Try.ntmps8
  go_wp2_with fail
  refine c1.mono ?_
  rintro e w1 ⟨rfl, hb1⟩
  have HB1 := hide hb1
  clear c1 hb1 hW' i0 j0
  have i1 := ((HQ0.out.below HB1.out (by have := HWs.out; omega)) 1 _ rfl).1
  have j1 := ((HQ1.out.below HB1.out (by have := HWs.out; omega)) 1 _ rfl).1
  go_wp2_with fail
  refine (c2 _ HB1.out).mono ?_
  rintro e w2 ⟨rfl, hb2⟩
  have HB2 : Hid (Below W.heap.size W w2) := bnext HB1.out (Nat.le_refl _) hb2
  clear c2 hb2 i1 j1
  have i2 := ((HQ0.out.below HB2.out (by have := HWs.out; omega)) 2 _ rfl).1
  have j2 := ((HQ1.out.below HB2.out (by have := HWs.out; omega)) 2 _ rfl).1
  go_wp2_with fail
  refine (c3 _ HB2.out).mono ?_
  rintro e w3 ⟨rfl, hb3⟩
  have HB3 : Hid (Below W.heap.size W w3) := bnext HB2.out (Nat.le_refl _) hb3
  clear c3 hb3 i2 j2
  have i3 := ((HQ0.out.below HB3.out (by have := HWs.out; omega)) 3 _ rfl).1
  have j3 := ((HQ1.out.below HB3.out (by have := HWs.out; omega)) 3 _ rfl).1
  go_wp2_with fail
  refine (c4 _ HB3.out).mono ?_
  rintro e w4 ⟨rfl, hb4⟩
  have HB4 : Hid (Below W.heap.size W w4) := bnext HB3.out (Nat.le_refl _) hb4
  clear c4 hb4 i3 j3
  have i4 := ((HQ0.out.below HB4.out (by have := HWs.out; omega)) 4 _ rfl).1
  have j4 := ((HQ1.out.below HB4.out (by have := HWs.out; omega)) 4 _ rfl).1
  have HF : Hid (Below w.heap.size w w4) := bnext HWB.out (Nat.le_refl _) HB4.out
  clear HQ0 HQ1 HP HP' HB1 HB2 HB3 HB4
  go_wp2_with fail
  go_ret
  exact ⟨rfl, HF.out⟩


set_option maxRecDepth 100000 in
set_option maxHeartbeats 2000000 in
theorem markArch_any {w0 : World} {L9 : List BoxT} {O1 O2 : List OwnT} (aI : Option Addr) (bI nI cI : Nat) (FI : Nat → Value) (aL : Option Addr) (bL nL cL : Nat) (FL : Nat → Value) (aR : Option Addr) (bR nR cR : Nat) (FR : Nat → Value) (aA : Option Addr) (bA nA cA : Nat) (FA : Nat → Value) (clock : Int) (hz : Nz4 nI nL nR nA) (k0 : Int) (hk0 : 0 < k0) (hk1 : k0 ≤ 1000) (w : World)
    (h : St w0 L9 (O1 ++ (aI, bI, nI * 5, FI) :: (aL, bL, nL * 4, FL) :: (aR, bR, nR * 4, FR) :: (aA, bA, nA * 5, FA) :: O2) w) :
    Calls Try.prog 9 #[vArch aI nI cI aL nL cL aR nR cR aA nA cA clock, .int .i64 k0] w fun e w' => e = .returned (.int .i64 (k0 + 5 * (nI : Int) + 4 * (nL : Int) + 4 * (nR : Int) + 5 * (nA : Int))) ∧ St w0 L9 (O1 ++ (aI, bI, nI * 5, MEntry k0) :: (aL, bL, nL * 4, MCopy (k0 + 5 * (nI : Int))) :: (aR, bR, nR * 4, MCopy (k0 + 5 * (nI : Int) + 4 * (nL : Int))) :: (aA, bA, nA * 5, MNote (k0 + 5 * (nI : Int) + 4 * (nL : Int) + 4 * (nR : Int))) :: O2) w' := by
  have HS0 := hide (h.box [.slice aI nI cI, .slice aL nL cL, .slice aR nR cR, .slice aA nA cA, .int .i64 clock] 32)
  have HZ := hide hz
  have hn1 := hz.ni
  have hn2 := hz.nl
  have hn3 := hz.nr
  have hn4 := hz.na
  clear h hz
  have c0 := markEntryS_any aI _ nI cI FI hn1 k0 (by omega) (by omega) _ (OwV.bk (HS0.out.ow (aI, bI, nI * 5, FI) (by simp)))
  have c1 := fun w' h => markCopyS_any aL (bk (nL * 4) bL w') nL cL FL hn2 (k0 + 5 * (nI : Int)) (by omega) (by omega) w' h
  have c2 := fun w' h => markCopyS_any aR (bk (nR * 4) bR w') nR cR FR hn3 (k0 + 5 * (nI : Int) + 4 * (nL : Int)) (by omega) (by omega) w' h
  have c3 := fun w' h => markNoteS_any aA (bk (nA * 5) bA w') nA cA FA hn4 (k0 + 5 * (nI : Int) + 4 * (nL : Int) + 4 * (nR : Int)) (by omega) (by omega) w' h
  generalize hX : w.heap.size = X at *
  go_enter Try.func9, Try.ntmps9
  go_upto_region 1 with fail
  generalize hW : w.alloc (.cells #[.slice aI nI cI, .slice aL nL cL, .slice aR nR cR, .slice aA nA cA, .int .i64 clock] 32) = W at *
  have HS : Hid (St w0 ((X, [.slice aI nI cI, .slice aL nL cL, .slice aR nR cR, .slice aA nA cA, .int .i64 clock]) :: L9) (O1 ++ (aI, bI, nI * 5, FI) :: (aL, bL, nL * 4, FL) :: (aR, bR, nR * 4, FR) :: (aA, bA, nA * 5, FA) :: O2) W) := HS0.out
  clear HS0 hW hX
  obtain ⟨i0, -⟩ := (HS.out.bxAt 0 rfl) 0 _ rfl
  go_wp2_with fail
  refine c0.mono ?_
  rintro e W1 ⟨rfl, ho, hk⟩
  have HSn : Hid (St w0 ((X, [.slice aI nI cI, .slice aL nL cL, .slice aR nR cR, .slice aA nA cA, .int .i64 clock]) :: L9) (O1 ++ (aI, bI, nI * 5, MEntry k0) :: (aL, bL, nL * 4, FL) :: (aR, bR, nR * 4, FR) :: (aA, bA, nA * 5, FA) :: O2) W1) := HS.out.mark hk ho
  clear HS ho hk i0 c0
  have HS := HSn
  clear HSn
  obtain ⟨i1, -⟩ := (HS.out.bxAt 0 rfl) 1 _ rfl
  have cc := c1 W1 (OwV.bk (HS.out.ow (aL, bL, nL * 4, FL) (by simp)))
  go_wp2_with fail
  refine cc.mono ?_
  rintro e W2 ⟨rfl, ho, hk⟩
  have HSn : Hid (St w0 ((X, [.slice aI nI cI, .slice aL nL cL, .slice aR nR cR, .slice aA nA cA, .int .i64 clock]) :: L9) (O1 ++ (aI, bI, nI * 5, MEntry k0) :: (aL, bL, nL * 4, MCopy (k0 + 5 * (nI : Int))) :: (aR, bR, nR * 4, FR) :: (aA, bA, nA * 5, FA) :: O2) W2) := by
    have h1 : St w0 ((X, [.slice aI nI cI, .slice aL nL cL, .slice aR nR cR, .slice aA nA cA, .int .i64 clock]) :: L9) ((O1 ++ [(aI, bI, nI * 5, MEntry k0)]) ++ (aL, bL, nL * 4, FL) :: (aR, bR, nR * 4, FR) :: (aA, bA, nA * 5, FA) :: O2) W1 := by rw [List.append_assoc]; exact HS.out
    have h2 := h1.mark hk ho
    rw [List.append_assoc] at h2
    exact h2
  clear HS ho hk i1 cc c1
  have HS := HSn
  clear HSn
  obtain ⟨i2, -⟩ := (HS.out.bxAt 0 rfl) 2 _ rfl
  have cc := c2 W2 (OwV.bk (HS.out.ow (aR, bR, nR * 4, FR) (by simp)))
  go_wp2_with fail
  refine cc.mono ?_
  rintro e W3 ⟨rfl, ho, hk⟩
  have HSn : Hid (St w0 ((X, [.slice aI nI cI, .slice aL nL cL, .slice aR nR cR, .slice aA nA cA, .int .i64 clock]) :: L9) (O1 ++ (aI, bI, nI * 5, MEntry k0) :: (aL, bL, nL * 4, MCopy (k0 + 5 * (nI : Int))) :: (aR, bR, nR * 4, MCopy (k0 + 5 * (nI : Int) + 4 * (nL : Int))) :: (aA, bA, nA * 5, FA) :: O2) W3) := by
    have h1 : St w0 ((X, [.slice aI nI cI, .slice aL nL cL, .slice aR nR cR, .slice aA nA cA, .int .i64 clock]) :: L9) ((O1 ++ [(aI, bI, nI * 5, MEntry k0), (aL, bL, nL * 4, MCopy (k0 + 5 * (nI : Int)))]) ++ (aR, bR, nR * 4, FR) :: (aA, bA, nA * 5, FA) :: O2) W2 := by rw [List.append_assoc]; exact HS.out
    have h2 := h1.mark hk ho
    rw [List.append_assoc] at h2
    exact h2
  clear HS ho hk i2 cc c2
  have HS := HSn
  clear HSn
  obtain ⟨i3, -⟩ := (HS.out.bxAt 0 rfl) 3 _ rfl
  have cc := c3 W3 (OwV.bk (HS.out.ow (aA, bA, nA * 5, FA) (by simp)))
  go_wp2_with fail
  refine cc.mono ?_
  rintro e W4 ⟨rfl, ho, hk⟩
  have HSn : Hid (St w0 ((X, [.slice aI nI cI, .slice aL nL cL, .slice aR nR cR, .slice aA nA cA, .int .i64 clock]) :: L9) (O1 ++ (aI, bI, nI * 5, MEntry k0) :: (aL, bL, nL * 4, MCopy (k0 + 5 * (nI : Int))) :: (aR, bR, nR * 4, MCopy (k0 + 5 * (nI : Int) + 4 * (nL : Int))) :: (aA, bA, nA * 5, MNote (k0 + 5 * (nI : Int) + 4 * (nL : Int) + 4 * (nR : Int))) :: O2) W4) := by
    have h1 : St w0 ((X, [.slice aI nI cI, .slice aL nL cL, .slice aR nR cR, .slice aA nA cA, .int .i64 clock]) :: L9) ((O1 ++ [(aI, bI, nI * 5, MEntry k0), (aL, bL, nL * 4, MCopy (k0 + 5 * (nI : Int))), (aR, bR, nR * 4, MCopy (k0 + 5 * (nI : Int) + 4 * (nL : Int)))]) ++ (aA, bA, nA * 5, FA) :: O2) W3 := by rw [List.append_assoc]; exact HS.out
    have h2 := h1.mark hk ho
    rw [List.append_assoc] at h2
    exact h2
  clear HS ho hk i3 cc c3
  have HS := HSn
  clear HSn
  have HF := hide (HS.out.sub (List.sublist_cons_self _ _) (List.Sublist.refl _))
  clear HS
  go_wp2_with fail
  go_ret
  exact ⟨rfl, HF.out⟩

set_option maxRecDepth 100000 in
set_option maxHeartbeats 2000000 in
theorem heldArch_any (aI : Option Addr) (nI cI : Nat) (aL : Option Addr) (nL cL : Nat) (aR : Option Addr) (nR cR : Nat) (aA : Option Addr) (nA cA : Nat) (clock : Int) (hz : Nz4 nI nL nR nA) (k0 : Int) (hk0 : 0 < k0) (hk1 : k0 ≤ 1000) (w : World)
    (h0 : PxG aI (nI * 5) (MEntry k0) w) (h1 : PxG aL (nL * 4) (MCopy (k0 + 5 * (nI : Int))) w) (h2 : PxG aR (nR * 4) (MCopy (k0 + 5 * (nI : Int) + 4 * (nL : Int))) w) (h3 : PxG aA (nA * 5) (MNote (k0 + 5 * (nI : Int) + 4 * (nL : Int) + 4 * (nR : Int))) w) :
    Calls Try.prog 10 #[vArch aI nI cI aL nL cL aR nR cR aA nA cA clock, .int .i64 k0] w fun e w' => e = .returned (.int .i64 (k0 + 5 * (nI : Int) + 4 * (nL : Int) + 4 * (nR : Int) + 5 * (nA : Int))) ∧ Below w.heap.size w w' := by
  have HS0 := hide ((St.start w).box [.slice aI nI cI, .slice aL nL cL, .slice aR nR cR, .slice aA nA cA, .int .i64 clock] 32)
  have hn1 := hz.ni
  have hn2 := hz.nl
  have hn3 := hz.nr
  have hn4 := hz.na
  have HP0 := hide h0
  have HP1 := hide h1
  have HP2 := hide h2
  have HP3 := hide h3
  clear h0 h1 h2 h3 hz
  have c0 := fun w' h => heldEntryS_any aI nI cI hn1 k0 (by omega) (by omega) w' h
  have c1 := fun w' h => heldCopyS_any aL nL cL hn2 (k0 + 5 * (nI : Int)) (by omega) (by omega) w' h
  have c2 := fun w' h => heldCopyS_any aR nR cR hn3 (k0 + 5 * (nI : Int) + 4 * (nL : Int)) (by omega) (by omega) w' h
  have c3 := fun w' h => heldNoteS_any aA nA cA hn4 (k0 + 5 * (nI : Int) + 4 * (nL : Int) + 4 * (nR : Int)) (by omega) (by omega) w' h
  have g1 : ¬ (k0 + 5 * (nI : Int)) < 0 := by omega
  have g2 : ¬ (k0 + 5 * (nI : Int) + 4 * (nL : Int)) < 0 := by omega
  have g3 : ¬ (k0 + 5 * (nI : Int) + 4 * (nL : Int) + 4 * (nR : Int)) < 0 := by omega
  have g4 : ¬ (k0 + 5 * (nI : Int) + 4 * (nL : Int) + 4 * (nR : Int) + 5 * (nA : Int)) < 0 := by omega
  go_enter Try.func10, Try.ntmps10
  go_upto_region 1 with fail
  generalize hW : w.alloc (.cells #[.slice aI nI cI, .slice aL nL cL, .slice aR nR cR, .slice aA nA cA, .int .i64 clock] 32) = W0 at *
  have HS : Hid (St w [(w.heap.size, [.slice aI nI cI, .slice aL nL cL, .slice aR nR cR, .slice aA nA cA, .int .i64 clock])] [] W0) := HS0.out
  clear HS0 hW
  obtain ⟨i0, -⟩ := (HS.out.bxAt 0 rfl) 0 _ rfl
  have cc := c0 W0 (HP0.out.below HS.out.below)
  go_wp2_with fail
  refine cc.mono ?_
  rintro e W1 ⟨rfl, hb⟩
  have HSn := hide (HS.out.next hb)
  clear HS hb i0 cc c0
  have HS := HSn
  clear HSn
  obtain ⟨i1, -⟩ := (HS.out.bxAt 0 rfl) 1 _ rfl
  have cc := c1 W1 (HP1.out.below HS.out.below)
  go_wp2_with fail
  refine cc.mono ?_
  rintro e W2 ⟨rfl, hb⟩
  have HSn := hide (HS.out.next hb)
  clear HS hb i1 cc c1
  have HS := HSn
  clear HSn
  obtain ⟨i2, -⟩ := (HS.out.bxAt 0 rfl) 2 _ rfl
  have cc := c2 W2 (HP2.out.below HS.out.below)
  go_wp2_with fail
  refine cc.mono ?_
  rintro e W3 ⟨rfl, hb⟩
  have HSn := hide (HS.out.next hb)
  clear HS hb i2 cc c2
  have HS := HSn
  clear HSn
  obtain ⟨i3, -⟩ := (HS.out.bxAt 0 rfl) 3 _ rfl
  have cc := c3 W3 (HP3.out.below HS.out.below)
  go_wp2_with fail
  refine cc.mono ?_
  rintro e W4 ⟨rfl, hb⟩
  have HSn := hide (HS.out.next hb)
  clear HS hb i3 cc c3
  have HS := HSn
  clear HSn
  have HF := hide HS.out.below
  clear HS
  go_wp2_with fail
  go_ret
  exact ⟨rfl, HF.out⟩

end Go.Proofs.Ytcdpnofjahdieaa

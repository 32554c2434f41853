/- The law on Damage, walked. -/
import Derived.Test.YtcdpnofjahdieaaAgm
import Derived.Test.YtcdpnofjahdieaaAgi
import Derived.Test.YtcdpnofjahdieaaAgj
import Derived.Deep.RegionHeld3
import Derived.Deep.DeepCutAuto
namespace Go.Proofs.Ytcdpnofjahdieaa
open Go.RowKit

theorem ow_pxG {a : Option Addr} {b n : Nat} {F : Nat → Value} {w : World} (h : OwV a b n F w) : PxG a n F w := by
  rcases h with h | ⟨ha, h⟩
  · exact .inl h
  · exact .inr ⟨b, 0, ha, fun k hk => by rw [Nat.zero_add]; exact (h k hk).1⟩
theorem pxA_of {aI aL aR aA : Option Addr} {bI bL bR bA nI nL nR nA : Nat} {I : Nat → SEntry} {L R : Nat → SCopy} {A : Nat → SNote} {w : World} (h1 : OwV aI bI (nI * 5) (FEntry I) w) (h2 : OwV aL bL (nL * 4) (FCopy L) w) (h3 : OwV aR bR (nR * 4) (FCopy R) w) (h4 : OwV aA bA (nA * 5) (FNote A) w) : PxA aI nI I aL nL L aR nR R aA nA A w :=
  ⟨ow_pxG h1, ow_pxG h2, ow_pxG h3, ow_pxG h4⟩
theorem ow_cells {b n : Nat} {F : Nat → Value} {w : World} (h : OwV (some ⟨b, 0, none⟩) b n F w) : ∀ j, j < n → w.cell? ⟨b, j, none⟩ = some (F j) := fun j hj => by
  rcases h with h | ⟨-, h⟩
  · omega
  · exact (h j hj).1
theorem rd_of {bI bL bR bA nI nL nR nA : Nat} {I : Nat → SEntry} {L R : Nat → SCopy} {A : Nat → SNote} {w : World} (h1 : OwV (some ⟨bI, 0, none⟩) bI (nI * 5) (FEntry I) w) (h2 : OwV (some ⟨bL, 0, none⟩) bL (nL * 4) (FCopy L) w) (h3 : OwV (some ⟨bR, 0, none⟩) bR (nR * 4) (FCopy R) w) (h4 : OwV (some ⟨bA, 0, none⟩) bA (nA * 5) (FNote A) w) : RdA bI nI I bL nL L bR nR R bA nA A w :=
  ⟨ow_cells h1, ow_cells h2, ow_cells h3, ow_cells h4⟩
theorem toArchS_any (aI : Option Addr) (nI cI : Nat) (I : Nat → SEntry) (aL : Option Addr) (nL cL : Nat) (L : Nat → SCopy) (aR : Option Addr) (nR cR : Nat) (R : Nat → SCopy) (aA : Option Addr) (nA cA : Nat) (A : Nat → SNote) (clock : Int) (hz : SzA nI I nL L nR R nA A) (w : World) (h : PxA aI nI I aL nL L aR nR R aA nA A w) :
    Calls Try.prog 6 #[vArch aI nI cI aL nL cL aR nR cR aA nA cA clock] w fun e w' => ∃ xbI xbL xbR xbA, e = .returned (vArch (some ⟨xbI, 0, none⟩) nI nI (some ⟨xbL, 0, none⟩) nL nL (some ⟨xbR, 0, none⟩) nR nR (some ⟨xbA, 0, none⟩) nA nA clock) ∧ St w [] [(some ⟨xbI, 0, none⟩, xbI, nI * 5, FEntry I), (some ⟨xbL, 0, none⟩, xbL, nL * 4, FCopy L), (some ⟨xbR, 0, none⟩, xbR, nR * 4, FCopy R), (some ⟨xbA, 0, none⟩, xbA, nA * 5, FNote A)] w' :=
  (toArch_any aI nI cI I aL nL cL L aR nR cR R aA nA cA A clock hz w h).mono fun e w' ⟨bI, bL, bR, bA, he, hr, hs, hb⟩ => ⟨bI, bL, bR, bA, he, St.four hb (.inr ⟨rfl, hr.i⟩) (.inr ⟨rfl, hr.l⟩) (.inr ⟨rfl, hr.r⟩) (.inr ⟨rfl, hr.a⟩) (.inr (by omega)) (.inr (by omega)) (.inr (by omega)) (.inr (by omega)) (fun _ _ => by omega) (fun _ _ => by omega) (fun _ _ => by omega) (fun _ _ => by omega) (fun _ _ => by omega) (fun _ _ => by omega)⟩
theorem DmR_ex (ok right : Bool) (nI : Nat) (I : Nat → SEntry) (nL : Nat) (L : Nat → SCopy) (nR : Nat) (R : Nat → SCopy) (nA : Nat) (A : Nat → SNote) (clock at_ : Int) (body : ByteArray) (hz : SzA nI I nL L nR R nA A) :
    ∃ rI rL EL rR ER rA rC, Nz4 rI rL rR rA ∧ ∀ w, DmR ok right nI I nL L nR R nA A clock at_ body w = ArR rI I rL EL rR ER rA A rC w := by
  have h1 := hz.ni
  have h2 := hz.nl
  have h3 := hz.nr
  have h4 := hz.na
  have h5 : dmN nL at_ ≤ nL := by unfold dmN; split <;> omega
  have h6 : dmN nR at_ ≤ nR := by unfold dmN; split <;> omega
  refine ⟨_, _, _, _, _, _, _, ⟨?_, ?_, ?_, ?_⟩, fun _ => rfl⟩
  all_goals (repeat' split) <;> omega

set_option maxRecDepth 100000 in
set_option maxHeartbeats 16000000 in
theorem fnExactDamage_walk (aI : Option Addr) (nI cI : Nat) (I : Nat → SEntry) (aL : Option Addr) (nL cL : Nat) (L : Nat → SCopy) (aR : Option Addr) (nR cR : Nat) (R : Nat → SCopy) (aA : Option Addr) (nA cA : Nat) (A : Nat → SNote) (clock : Int) (hn : nI ≤ maxLen ∧ nL ≤ maxLen ∧ nR ≤ maxLen ∧ nA ≤ maxLen) (ht : TxA I L R A) (right : Bool) (at_ : Int) (body : ByteArray) (hbody : body.size ≤ maxLen) (w : World) (h : PxA aI nI I aL nL L aR nR R aA nA A w) :
    Calls Try.prog 3 #[vArch aI nI cI aL nL cL aR nR cR aA nA cA clock, .bool right, .int .i64 at_, .string body] w fun e w' => e = .returned (.bool true) ∧ Below w.heap.size w w' := by
  have HS0 := hide ((St.start w).box [.slice aI nI cI, .slice aL nL cL, .slice aR nR cR, .slice aA nA cA, .int .i64 clock] 26)
  have HP := hide h
  have cZ := szArch_any aI nI cI I aL nL cL L aR nR cR R aA nA cA A clock hn ht _ (h.below HS0.out.below)
  unfold maxLen at hbody
  clear h hn ht
  go_enter Try.func3, Try.ntmps3
  go_upto_region 1 with fail
  generalize w.alloc (.cells #[.slice aI nI cI, .slice aL nL cL, .slice aR nR cR, .slice aA nA cA, .int .i64 clock] 26) = W0 at *
  have HS : Hid (St w [(w.heap.size, [.slice aI nI cI, .slice aL nL cL, .slice aR nR cR, .slice aA nA cA, .int .i64 clock])] [] W0) := HS0.out
  clear HS0
  by_cases hbd : (1048576 : Int) < (body.size : Int)
  · have HB := hide HS.out.below
    clear HS cZ
    go_wp2_with fail
    go_ret
    exact ⟨rfl, HB.out⟩
  obtain ⟨i0, -⟩ := (HS.out.bxAt 0 rfl) 0 _ rfl
  obtain ⟨i1, -⟩ := (HS.out.bxAt 0 rfl) 1 _ rfl
  obtain ⟨i2, -⟩ := (HS.out.bxAt 0 rfl) 2 _ rfl
  obtain ⟨i3, -⟩ := (HS.out.bxAt 0 rfl) 3 _ rfl
  obtain ⟨i4, -⟩ := (HS.out.bxAt 0 rfl) 4 _ rfl
  go_wp2_with fail
  refine cZ.mono ?_
  rintro e W1 ⟨hb, v, rfl, hv⟩
  have HS1 := hide (HS.out.next hb)
  clear HS hb cZ i0 i1 i2 i3 i4
  rcases hv with hv | ⟨hv0, hz⟩
  · have HB := hide HS1.out.below
    clear HS1
    go_wp2_with fail
    go_ret
    exact ⟨rfl, HB.out⟩
  have hv1 : ¬ v < 0 := by omega
  have hbody2 : body.size ≤ 1048576 := by omega
  have cT := fun w' h => toArchS_any aI nI cI I aL nL cL L aR nR cR R aA nA cA A clock hz w' h
  obtain ⟨rI, rL, EL, rR, ER, rA, rC, hrz, hDm⟩ := DmR_ex (archB I nI L nL R nR A nA clock && decide (body.size ≤ 2048)) right nI I nL L nR R nA A clock at_ body hz
  have cS := fun xI xL xR xA w' h => specDamage_any xI nI nI I xL nL nL L xR nR nR R xA nA nA A clock hz right at_ body hbody2 w' h
  have kI := fun xI xL xR xA w' h => implDamage_any xI nI nI I xL nL nL L xR nR nR R xA nA nA A clock hz right at_ body hbody2 w' h
  simp only [hDm] at cS kI
  have cE := fun a1 a2 c1 c2 a3 a4 c3 c4 a5 a6 c5 c6 a7 a8 c7 c8 w' h h' => eqArchN_any a1 a2 rI c1 c2 I a3 a4 rL c3 c4 EL a5 a6 rR c5 c6 ER a7 a8 rA c7 c8 A rC hrz w' h h'
  have cE' := fun a1 a2 c1 c2 a3 a4 c3 c4 a5 a6 c5 c6 a7 a8 c7 c8 w' h h' => eqArchN_any a1 a2 nI c1 c2 I a3 a4 nL c3 c4 L a5 a6 nR c5 c6 R a7 a8 nA c7 c8 A clock ⟨hz.ni, hz.nl, hz.nr, hz.na⟩ w' h h'
  have hNz : Nz4 nI nL nR nA := ⟨hz.ni, hz.nl, hz.nr, hz.na⟩
  have HNz := hide hNz
  have HRz := hide hrz
  have qx : ¬ (1 + 5 * (nI : Int) + 4 * (nL : Int) + 4 * (nR : Int) + 5 * (nA : Int)) < 0 := by omega
  have qg : ¬ (1 + 5 * (rI : Int) + 4 * (rL : Int) + 4 * (rR : Int) + 5 * (rA : Int)) < 0 := by omega
  have qe : ((1 + 5 * (rI : Int) + 4 * (rL : Int) + 4 * (rR : Int) + 5 * (rA : Int)) != (1 + 5 * (rI : Int) + 4 * (rL : Int) + 4 * (rR : Int) + 5 * (rA : Int))) = false := by simp
  clear hDm hz hNz hrz hv0 hbody hbody2 hbd
  obtain ⟨i0, -⟩ := (HS1.out.bxAt 0 rfl) 0 _ rfl
  obtain ⟨i1, -⟩ := (HS1.out.bxAt 0 rfl) 1 _ rfl
  obtain ⟨i2, -⟩ := (HS1.out.bxAt 0 rfl) 2 _ rfl
  obtain ⟨i3, -⟩ := (HS1.out.bxAt 0 rfl) 3 _ rfl
  obtain ⟨i4, -⟩ := (HS1.out.bxAt 0 rfl) 4 _ rfl
  go_wp2_with fail
  refine (cT _ (HP.out.below HS1.out.below)).mono ?_
  rintro e WT ⟨xbI, xbL, xbR, xbA, rfl, hst⟩
  have HT := hide (HS1.out.join hst)
  have cS1 := cS xbI xbL xbR xbA WT (rd_of (HT.out.nthO 0 rfl) (HT.out.nthO 1 rfl) (HT.out.nthO 2 rfl) (HT.out.nthO 3 rfl))
  clear hst HS1 i0 i1 i2 i3 i4
  go_wp2_with fail
  refine cS1.mono ?_
  rintro e WS ⟨saI, scI, sbI, saL, scL, sbL, saR, scR, sbR, saA, scA, sbA, rfl, hst⟩
  have HU := hide (((HT.out.sub (List.Sublist.refl _) (List.nil_sublist _)).join hst).box [.slice saI rI scI, .slice saL rL scL, .slice saR rR scR, .slice saA rA scA, .int .i64 rC] 32)
  clear hst HT cS1 cS
  go_upto_region 8 with fail
  generalize WS.alloc (.cells #[.slice saI rI scI, .slice saL rL scL, .slice saR rR scR, .slice saA rA scA, .int .i64 rC] 32) = W2 at *
  generalize WS.heap.size = c10 at *
  have HS2 : Hid (St w [(c10, [.slice saI rI scI, .slice saL rL scL, .slice saR rR scR, .slice saA rA scA, .int .i64 rC]), (w.heap.size, [.slice aI nI cI, .slice aL nL cL, .slice aR nR cR, .slice aA nA cA, .int .i64 clock])] [(saI, sbI, rI * 5, FEntry I), (saL, sbL, rL * 4, FCopy EL), (saR, sbR, rR * 4, FCopy ER), (saA, sbA, rA * 5, FNote A)] W2) := HU.out
  clear HU
  obtain ⟨i0, -⟩ := (HS2.out.bxAt 1 rfl) 0 _ rfl
  obtain ⟨i1, -⟩ := (HS2.out.bxAt 1 rfl) 1 _ rfl
  obtain ⟨i2, -⟩ := (HS2.out.bxAt 1 rfl) 2 _ rfl
  obtain ⟨i3, -⟩ := (HS2.out.bxAt 1 rfl) 3 _ rfl
  obtain ⟨i4, -⟩ := (HS2.out.bxAt 1 rfl) 4 _ rfl
  go_wp2_with fail
  refine (cT _ (HP.out.below HS2.out.below)).mono ?_
  rintro e WT ⟨xbI, xbL, xbR, xbA, rfl, hst⟩
  have HU := hide ((HS2.out.join hst).box [.slice (some ⟨xbI, 0, none⟩) nI nI, .slice (some ⟨xbL, 0, none⟩) nL nL, .slice (some ⟨xbR, 0, none⟩) nR nR, .slice (some ⟨xbA, 0, none⟩) nA nA, .int .i64 clock] 32)
  clear hst HS2 i0 i1 i2 i3 i4
  go_upto_region 9 with fail
  generalize WT.alloc (.cells #[.slice (some ⟨xbI, 0, none⟩) nI nI, .slice (some ⟨xbL, 0, none⟩) nL nL, .slice (some ⟨xbR, 0, none⟩) nR nR, .slice (some ⟨xbA, 0, none⟩) nA nA, .int .i64 clock] 32) = W3 at *
  generalize WT.heap.size = c11 at *
  have HS3 : Hid (St w [(c11, [.slice (some ⟨xbI, 0, none⟩) nI nI, .slice (some ⟨xbL, 0, none⟩) nL nL, .slice (some ⟨xbR, 0, none⟩) nR nR, .slice (some ⟨xbA, 0, none⟩) nA nA, .int .i64 clock]), (c10, [.slice saI rI scI, .slice saL rL scL, .slice saR rR scR, .slice saA rA scA, .int .i64 rC]), (w.heap.size, [.slice aI nI cI, .slice aL nL cL, .slice aR nR cR, .slice aA nA cA, .int .i64 clock])] [(some ⟨xbI, 0, none⟩, xbI, nI * 5, FEntry I), (some ⟨xbL, 0, none⟩, xbL, nL * 4, FCopy L), (some ⟨xbR, 0, none⟩, xbR, nR * 4, FCopy R), (some ⟨xbA, 0, none⟩, xbA, nA * 5, FNote A), (saI, sbI, rI * 5, FEntry I), (saL, sbL, rL * 4, FCopy EL), (saR, sbR, rR * 4, FCopy ER), (saA, sbA, rA * 5, FNote A)] W3) := HU.out
  clear HU
  have cI1 := kI xbI xbL xbR xbA W3 (rd_of (HS3.out.nthO 0 rfl) (HS3.out.nthO 1 rfl) (HS3.out.nthO 2 rfl) (HS3.out.nthO 3 rfl))
  obtain ⟨i0, -⟩ := (HS3.out.bxAt 0 rfl) 0 _ rfl
  obtain ⟨i1, -⟩ := (HS3.out.bxAt 0 rfl) 1 _ rfl
  obtain ⟨i2, -⟩ := (HS3.out.bxAt 0 rfl) 2 _ rfl
  obtain ⟨i3, -⟩ := (HS3.out.bxAt 0 rfl) 3 _ rfl
  obtain ⟨i4, -⟩ := (HS3.out.bxAt 0 rfl) 4 _ rfl
  go_wp2_with fail
  refine cI1.mono ?_
  rintro e WS ⟨gaI, gcI, gbI, gaL, gcL, gbL, gaR, gcR, gbR, gaA, gcA, gbA, rfl, hst⟩
  have HU := hide ((HS3.out.join hst).box [.slice gaI rI gcI, .slice gaL rL gcL, .slice gaR rR gcR, .slice gaA rA gcA, .int .i64 rC] 32)
  clear hst HS3 cI1 i0 i1 i2 i3 i4
  go_upto_region 10 with fail
  generalize WS.alloc (.cells #[.slice gaI rI gcI, .slice gaL rL gcL, .slice gaR rR gcR, .slice gaA rA gcA, .int .i64 rC] 32) = W4 at *
  generalize WS.heap.size = c12 at *
  have HS4 : Hid (St w [(c12, [.slice gaI rI gcI, .slice gaL rL gcL, .slice gaR rR gcR, .slice gaA rA gcA, .int .i64 rC]), (c11, [.slice (some ⟨xbI, 0, none⟩) nI nI, .slice (some ⟨xbL, 0, none⟩) nL nL, .slice (some ⟨xbR, 0, none⟩) nR nR, .slice (some ⟨xbA, 0, none⟩) nA nA, .int .i64 clock]), (c10, [.slice saI rI scI, .slice saL rL scL, .slice saR rR scR, .slice saA rA scA, .int .i64 rC]), (w.heap.size, [.slice aI nI cI, .slice aL nL cL, .slice aR nR cR, .slice aA nA cA, .int .i64 clock])] [(gaI, gbI, rI * 5, FEntry I), (gaL, gbL, rL * 4, FCopy EL), (gaR, gbR, rR * 4, FCopy ER), (gaA, gbA, rA * 5, FNote A), (some ⟨xbI, 0, none⟩, xbI, nI * 5, FEntry I), (some ⟨xbL, 0, none⟩, xbL, nL * 4, FCopy L), (some ⟨xbR, 0, none⟩, xbR, nR * 4, FCopy R), (some ⟨xbA, 0, none⟩, xbA, nA * 5, FNote A), (saI, sbI, rI * 5, FEntry I), (saL, sbL, rL * 4, FCopy EL), (saR, sbR, rR * 4, FCopy ER), (saA, sbA, rA * 5, FNote A)] W4) := HU.out
  clear HU
  obtain ⟨i0, -⟩ := (HS4.out.bxAt 0 rfl) 0 _ rfl
  obtain ⟨i1, -⟩ := (HS4.out.bxAt 0 rfl) 1 _ rfl
  obtain ⟨i2, -⟩ := (HS4.out.bxAt 0 rfl) 2 _ rfl
  obtain ⟨i3, -⟩ := (HS4.out.bxAt 0 rfl) 3 _ rfl
  obtain ⟨i4, -⟩ := (HS4.out.bxAt 0 rfl) 4 _ rfl
  obtain ⟨j0, -⟩ := (HS4.out.bxAt 2 rfl) 0 _ rfl
  obtain ⟨j1, -⟩ := (HS4.out.bxAt 2 rfl) 1 _ rfl
  obtain ⟨j2, -⟩ := (HS4.out.bxAt 2 rfl) 2 _ rfl
  obtain ⟨j3, -⟩ := (HS4.out.bxAt 2 rfl) 3 _ rfl
  obtain ⟨j4, -⟩ := (HS4.out.bxAt 2 rfl) 4 _ rfl
  have cc := cE _ _ gcI scI _ _ gcL scL _ _ gcR scR _ _ gcA scA _ (pxA_of (HS4.out.nthO 0 rfl) (HS4.out.nthO 1 rfl) (HS4.out.nthO 2 rfl) (HS4.out.nthO 3 rfl)) (pxA_of (HS4.out.nthO 8 rfl) (HS4.out.nthO 9 rfl) (HS4.out.nthO 10 rfl) (HS4.out.nthO 11 rfl))
  go_wp2_with fail
  refine cc.mono ?_
  rintro e WE ⟨rfl, hb⟩
  have HS5 := hide (HS4.out.next hb)
  clear hb cc HS4 i0 i1 i2 i3 i4 j0 j1 j2 j3 j4
  go_upto_region 12 with fail
  go_cut [46] (fun sv wc => sv = .bool false ∧ St w [(c12, [.slice gaI rI gcI, .slice gaL rL gcL, .slice gaR rR gcR, .slice gaA rA gcA, .int .i64 rC]), (c11, [.slice (some ⟨xbI, 0, none⟩) nI nI, .slice (some ⟨xbL, 0, none⟩) nL nL, .slice (some ⟨xbR, 0, none⟩) nR nR, .slice (some ⟨xbA, 0, none⟩) nA nA, .int .i64 clock]), (c10, [.slice saI rI scI, .slice saL rL scL, .slice saR rR scR, .slice saA rA scA, .int .i64 rC]), (w.heap.size, [.slice aI nI cI, .slice aL nL cL, .slice aR nR cR, .slice aA nA cA, .int .i64 clock])] [(gaI, gbI, rI * 5, FEntry I), (gaL, gbL, rL * 4, FCopy EL), (gaR, gbR, rR * 4, FCopy ER), (gaA, gbA, rA * 5, FNote A), (some ⟨xbI, 0, none⟩, xbI, nI * 5, FEntry I), (some ⟨xbL, 0, none⟩, xbL, nL * 4, FCopy L), (some ⟨xbR, 0, none⟩, xbR, nR * 4, FCopy R), (some ⟨xbA, 0, none⟩, xbA, nA * 5, FNote A), (saI, sbI, rI * 5, FEntry I), (saL, sbL, rL * 4, FCopy EL), (saR, sbR, rR * 4, FCopy ER), (saA, sbA, rA * 5, FNote A)] wc)
  case first =>
    obtain ⟨i0, -⟩ := (HS5.out.bxAt 1 rfl) 0 _ rfl
    obtain ⟨i1, -⟩ := (HS5.out.bxAt 1 rfl) 1 _ rfl
    obtain ⟨i2, -⟩ := (HS5.out.bxAt 1 rfl) 2 _ rfl
    obtain ⟨i3, -⟩ := (HS5.out.bxAt 1 rfl) 3 _ rfl
    obtain ⟨i4, -⟩ := (HS5.out.bxAt 1 rfl) 4 _ rfl
    obtain ⟨j0, -⟩ := (HS5.out.bxAt 3 rfl) 0 _ rfl
    obtain ⟨j1, -⟩ := (HS5.out.bxAt 3 rfl) 1 _ rfl
    obtain ⟨j2, -⟩ := (HS5.out.bxAt 3 rfl) 2 _ rfl
    obtain ⟨j3, -⟩ := (HS5.out.bxAt 3 rfl) 3 _ rfl
    obtain ⟨j4, -⟩ := (HS5.out.bxAt 3 rfl) 4 _ rfl
    have SK0 : Hid (WE.drew.cell? ⟨c11, 0, none⟩ = some (.slice (some ⟨xbI, 0, none⟩) nI nI) ∧ WE.drew.cell? ⟨c11, 1, none⟩ = some (.slice (some ⟨xbL, 0, none⟩) nL nL) ∧ WE.drew.cell? ⟨c11, 2, none⟩ = some (.slice (some ⟨xbR, 0, none⟩) nR nR) ∧ WE.drew.cell? ⟨c11, 3, none⟩ = some (.slice (some ⟨xbA, 0, none⟩) nA nA) ∧ WE.drew.cell? ⟨c11, 4, none⟩ = some (.int .i64 clock) ∧ WE.drew.cell? ⟨w.heap.size, 0, none⟩ = some (.slice aI nI cI) ∧ WE.drew.cell? ⟨w.heap.size, 1, none⟩ = some (.slice aL nL cL) ∧ WE.drew.cell? ⟨w.heap.size, 2, none⟩ = some (.slice aR nR cR) ∧ WE.drew.cell? ⟨w.heap.size, 3, none⟩ = some (.slice aA nA cA) ∧ WE.drew.cell? ⟨w.heap.size, 4, none⟩ = some (.int .i64 clock)) := ⟨i0, i1, i2, i3, i4, j0, j1, j2, j3, j4⟩
    have HD := hide HS5.out.drew
    have cT1 := cT WE.drew (HP.out.below HD.out.below)
    have HKEEP : Hid (∀ wz, Below WE.drew.heap.size WE.drew wz → wz.cell? ⟨c11, 0, none⟩ = some (.slice (some ⟨xbI, 0, none⟩) nI nI) ∧ wz.cell? ⟨c11, 1, none⟩ = some (.slice (some ⟨xbL, 0, none⟩) nL nL) ∧ wz.cell? ⟨c11, 2, none⟩ = some (.slice (some ⟨xbR, 0, none⟩) nR nR) ∧ wz.cell? ⟨c11, 3, none⟩ = some (.slice (some ⟨xbA, 0, none⟩) nA nA) ∧ wz.cell? ⟨c11, 4, none⟩ = some (.int .i64 clock) ∧ wz.cell? ⟨w.heap.size, 0, none⟩ = some (.slice aI nI cI) ∧ wz.cell? ⟨w.heap.size, 1, none⟩ = some (.slice aL nL cL) ∧ wz.cell? ⟨w.heap.size, 2, none⟩ = some (.slice aR nR cR) ∧ wz.cell? ⟨w.heap.size, 3, none⟩ = some (.slice aA nA cA) ∧ wz.cell? ⟨w.heap.size, 4, none⟩ = some (.int .i64 clock)) := fun wz hb => by
      have hx := (HD.out.next hb).bxAt 1 rfl
      have hq := (HD.out.next hb).bxAt 3 rfl
      exact ⟨(hx 0 _ rfl).1, (hx 1 _ rfl).1, (hx 2 _ rfl).1, (hx 3 _ rfl).1, (hx 4 _ rfl).1, (hq 0 _ rfl).1, (hq 1 _ rfl).1, (hq 2 _ rfl).1, (hq 3 _ rfl).1, (hq 4 _ rfl).1⟩
    clear i0 i1 i2 i3 i4 j0 j1 j2 j3 j4
    obtain ⟨i0, i1, i2, i3, i4, j0, j1, j2, j3, j4⟩ := SK0.out
    go_region_held3 (fun (w' : World) => w'.cell? ⟨c11, 0, none⟩ = some (.slice (some ⟨xbI, 0, none⟩) nI nI) ∧ w'.cell? ⟨c11, 1, none⟩ = some (.slice (some ⟨xbL, 0, none⟩) nL nL) ∧ w'.cell? ⟨c11, 2, none⟩ = some (.slice (some ⟨xbR, 0, none⟩) nR nR) ∧ w'.cell? ⟨c11, 3, none⟩ = some (.slice (some ⟨xbA, 0, none⟩) nA nA) ∧ w'.cell? ⟨c11, 4, none⟩ = some (.int .i64 clock) ∧ w'.cell? ⟨w.heap.size, 0, none⟩ = some (.slice aI nI cI) ∧ w'.cell? ⟨w.heap.size, 1, none⟩ = some (.slice aL nL cL) ∧ w'.cell? ⟨w.heap.size, 2, none⟩ = some (.slice aR nR cR) ∧ w'.cell? ⟨w.heap.size, 3, none⟩ = some (.slice aA nA cA) ∧ w'.cell? ⟨w.heap.size, 4, none⟩ = some (.int .i64 clock))
      (first | with_reducible exact SK0.out | with_reducible exact SK6.out | with_reducible exact SK7.out)
      (first
        | (go_at_call 6; (with_reducible refine cT1.mono ?_); rintro e w6 ⟨ybI, ybL, ybR, ybA, rfl, hst⟩; have SK6 := hide (HKEEP.out w6 hst.below); have HJ := hide (HD.out.join hst); have cE6 := hide (cE' _ _ nI nI _ _ nL nL _ _ nR nR _ _ nA nA w6 (pxA_of (HJ.out.nthO 8 rfl) (HJ.out.nthO 9 rfl) (HJ.out.nthO 10 rfl) (HJ.out.nthO 11 rfl)) (pxA_of (HJ.out.nthO 0 rfl) (HJ.out.nthO 1 rfl) (HJ.out.nthO 2 rfl) (HJ.out.nthO 3 rfl))); have HB6 := hide hst.below; clear hst)
        | (go_at_call 8; (with_reducible refine cE6.out.mono ?_); rintro e w7 ⟨rfl, hb7⟩; have SK7 := hide (HKEEP.out w7 (bnext HB6.out (Nat.le_refl _) hb7)); have HQ7 := hide (HJ.out.next hb7); clear hb7))
    all_goals
      have HF := hide (HQ7.out.sub (List.Sublist.refl _) (List.sublist_append_right _ _))
      clear SK0 SK6 SK7 HKEEP HD HJ HQ7 cE6 HB6 cT1 HS5
      go_wp2_with fail
      go_meet
      exact ⟨rfl, HF.out⟩
  case rest =>
    obtain ⟨rfl, hs⟩ := hcut
    obtain ⟨W6, hW6⟩ : ∃ W6, W6 = wc := ⟨_, rfl⟩
    rw [← hW6] at hs
    rw [← hW6]
    clear hW6 HS5 cE'
    have HS6 := hide hs
    clear hs
    obtain ⟨i0, -⟩ := (HS6.out.bxAt 1 rfl) 0 _ rfl
    obtain ⟨i1, -⟩ := (HS6.out.bxAt 1 rfl) 1 _ rfl
    obtain ⟨i2, -⟩ := (HS6.out.bxAt 1 rfl) 2 _ rfl
    obtain ⟨i3, -⟩ := (HS6.out.bxAt 1 rfl) 3 _ rfl
    obtain ⟨i4, -⟩ := (HS6.out.bxAt 1 rfl) 4 _ rfl
    have cc := markArch_any (O1 := [(gaI, gbI, rI * 5, FEntry I), (gaL, gbL, rL * 4, FCopy EL), (gaR, gbR, rR * 4, FCopy ER), (gaA, gbA, rA * 5, FNote A)]) (O2 := [(saI, sbI, rI * 5, FEntry I), (saL, sbL, rL * 4, FCopy EL), (saR, sbR, rR * 4, FCopy ER), (saA, sbA, rA * 5, FNote A)]) (some ⟨xbI, 0, none⟩) xbI nI nI (FEntry I) (some ⟨xbL, 0, none⟩) xbL nL nL (FCopy L) (some ⟨xbR, 0, none⟩) xbR nR nR (FCopy R) (some ⟨xbA, 0, none⟩) xbA nA nA (FNote A) clock HNz.out 1 (by omega) (by omega) _ HS6.out
    go_wp2_with fail
    refine cc.mono ?_
    rintro e WM ⟨rfl, hst⟩
    have HS7 : Hid (St w [(c12, [.slice gaI rI gcI, .slice gaL rL gcL, .slice gaR rR gcR, .slice gaA rA gcA, .int .i64 rC]), (c11, [.slice (some ⟨xbI, 0, none⟩) nI nI, .slice (some ⟨xbL, 0, none⟩) nL nL, .slice (some ⟨xbR, 0, none⟩) nR nR, .slice (some ⟨xbA, 0, none⟩) nA nA, .int .i64 clock]), (c10, [.slice saI rI scI, .slice saL rL scL, .slice saR rR scR, .slice saA rA scA, .int .i64 rC]), (w.heap.size, [.slice aI nI cI, .slice aL nL cL, .slice aR nR cR, .slice aA nA cA, .int .i64 clock])] [(gaI, gbI, rI * 5, FEntry I), (gaL, gbL, rL * 4, FCopy EL), (gaR, gbR, rR * 4, FCopy ER), (gaA, gbA, rA * 5, FNote A), (some ⟨xbI, 0, none⟩, xbI, nI * 5, MEntry 1), (some ⟨xbL, 0, none⟩, xbL, nL * 4, MCopy (1 + 5 * (nI : Int))), (some ⟨xbR, 0, none⟩, xbR, nR * 4, MCopy (1 + 5 * (nI : Int) + 4 * (nL : Int))), (some ⟨xbA, 0, none⟩, xbA, nA * 5, MNote (1 + 5 * (nI : Int) + 4 * (nL : Int) + 4 * (nR : Int))), (saI, sbI, rI * 5, FEntry I), (saL, sbL, rL * 4, FCopy EL), (saR, sbR, rR * 4, FCopy ER), (saA, sbA, rA * 5, FNote A)] WM) := hst
    clear hst cc HS6 i0 i1 i2 i3 i4
    obtain ⟨i0, -⟩ := (HS7.out.bxAt 0 rfl) 0 _ rfl
    obtain ⟨i1, -⟩ := (HS7.out.bxAt 0 rfl) 1 _ rfl
    obtain ⟨i2, -⟩ := (HS7.out.bxAt 0 rfl) 2 _ rfl
    obtain ⟨i3, -⟩ := (HS7.out.bxAt 0 rfl) 3 _ rfl
    obtain ⟨i4, -⟩ := (HS7.out.bxAt 0 rfl) 4 _ rfl
    obtain ⟨j0, -⟩ := (HS7.out.bxAt 2 rfl) 0 _ rfl
    obtain ⟨j1, -⟩ := (HS7.out.bxAt 2 rfl) 1 _ rfl
    obtain ⟨j2, -⟩ := (HS7.out.bxAt 2 rfl) 2 _ rfl
    obtain ⟨j3, -⟩ := (HS7.out.bxAt 2 rfl) 3 _ rfl
    obtain ⟨j4, -⟩ := (HS7.out.bxAt 2 rfl) 4 _ rfl
    have cc := cE _ _ gcI scI _ _ gcL scL _ _ gcR scR _ _ gcA scA _ (pxA_of (HS7.out.nthO 0 rfl) (HS7.out.nthO 1 rfl) (HS7.out.nthO 2 rfl) (HS7.out.nthO 3 rfl)) (pxA_of (HS7.out.nthO 8 rfl) (HS7.out.nthO 9 rfl) (HS7.out.nthO 10 rfl) (HS7.out.nthO 11 rfl))
    go_wp2_with fail
    refine cc.mono ?_
    rintro e WE ⟨rfl, hb⟩
    have HS8 := hide (HS7.out.next hb)
    clear hb cc HS7 i0 i1 i2 i3 i4 j0 j1 j2 j3 j4
    obtain ⟨i0, -⟩ := (HS8.out.bxAt 0 rfl) 0 _ rfl
    obtain ⟨i1, -⟩ := (HS8.out.bxAt 0 rfl) 1 _ rfl
    obtain ⟨i2, -⟩ := (HS8.out.bxAt 0 rfl) 2 _ rfl
    obtain ⟨i3, -⟩ := (HS8.out.bxAt 0 rfl) 3 _ rfl
    obtain ⟨i4, -⟩ := (HS8.out.bxAt 0 rfl) 4 _ rfl
    have cc := markArch_any (O1 := []) (O2 := [(some ⟨xbI, 0, none⟩, xbI, nI * 5, MEntry 1), (some ⟨xbL, 0, none⟩, xbL, nL * 4, MCopy (1 + 5 * (nI : Int))), (some ⟨xbR, 0, none⟩, xbR, nR * 4, MCopy (1 + 5 * (nI : Int) + 4 * (nL : Int))), (some ⟨xbA, 0, none⟩, xbA, nA * 5, MNote (1 + 5 * (nI : Int) + 4 * (nL : Int) + 4 * (nR : Int))), (saI, sbI, rI * 5, FEntry I), (saL, sbL, rL * 4, FCopy EL), (saR, sbR, rR * 4, FCopy ER), (saA, sbA, rA * 5, FNote A)]) gaI gbI rI gcI (FEntry I) gaL gbL rL gcL (FCopy EL) gaR gbR rR gcR (FCopy ER) gaA gbA rA gcA (FNote A) rC HRz.out 1 (by omega) (by omega) _ HS8.out
    go_wp2_with fail
    refine cc.mono ?_
    rintro e WM ⟨rfl, hst⟩
    have HS9 : Hid (St w [(c12, [.slice gaI rI gcI, .slice gaL rL gcL, .slice gaR rR gcR, .slice gaA rA gcA, .int .i64 rC]), (c11, [.slice (some ⟨xbI, 0, none⟩) nI nI, .slice (some ⟨xbL, 0, none⟩) nL nL, .slice (some ⟨xbR, 0, none⟩) nR nR, .slice (some ⟨xbA, 0, none⟩) nA nA, .int .i64 clock]), (c10, [.slice saI rI scI, .slice saL rL scL, .slice saR rR scR, .slice saA rA scA, .int .i64 rC]), (w.heap.size, [.slice aI nI cI, .slice aL nL cL, .slice aR nR cR, .slice aA nA cA, .int .i64 clock])] [(gaI, gbI, rI * 5, MEntry 1), (gaL, gbL, rL * 4, MCopy (1 + 5 * (rI : Int))), (gaR, gbR, rR * 4, MCopy (1 + 5 * (rI : Int) + 4 * (rL : Int))), (gaA, gbA, rA * 5, MNote (1 + 5 * (rI : Int) + 4 * (rL : Int) + 4 * (rR : Int))), (some ⟨xbI, 0, none⟩, xbI, nI * 5, MEntry 1), (some ⟨xbL, 0, none⟩, xbL, nL * 4, MCopy (1 + 5 * (nI : Int))), (some ⟨xbR, 0, none⟩, xbR, nR * 4, MCopy (1 + 5 * (nI : Int) + 4 * (nL : Int))), (some ⟨xbA, 0, none⟩, xbA, nA * 5, MNote (1 + 5 * (nI : Int) + 4 * (nL : Int) + 4 * (nR : Int))), (saI, sbI, rI * 5, FEntry I), (saL, sbL, rL * 4, FCopy EL), (saR, sbR, rR * 4, FCopy ER), (saA, sbA, rA * 5, FNote A)] WM) := hst
    clear hst cc HS8 i0 i1 i2 i3 i4
    obtain ⟨i0, -⟩ := (HS9.out.bxAt 0 rfl) 0 _ rfl
    obtain ⟨i1, -⟩ := (HS9.out.bxAt 0 rfl) 1 _ rfl
    obtain ⟨i2, -⟩ := (HS9.out.bxAt 0 rfl) 2 _ rfl
    obtain ⟨i3, -⟩ := (HS9.out.bxAt 0 rfl) 3 _ rfl
    obtain ⟨i4, -⟩ := (HS9.out.bxAt 0 rfl) 4 _ rfl
    have cc := heldArch_any gaI rI gcI gaL rL gcL gaR rR gcR gaA rA gcA rC HRz.out 1 (by omega) (by omega) _ (ow_pxG (HS9.out.nthO 0 rfl)) (ow_pxG (HS9.out.nthO 1 rfl)) (ow_pxG (HS9.out.nthO 2 rfl)) (ow_pxG (HS9.out.nthO 3 rfl))
    go_wp2_with fail
    refine cc.mono ?_
    rintro e WH ⟨rfl, hb⟩
    have HS10 := hide (HS9.out.next hb)
    clear hb cc HS9 i0 i1 i2 i3 i4
    obtain ⟨i0, -⟩ := (HS10.out.bxAt 3 rfl) 0 _ rfl
    obtain ⟨i1, -⟩ := (HS10.out.bxAt 3 rfl) 1 _ rfl
    obtain ⟨i2, -⟩ := (HS10.out.bxAt 3 rfl) 2 _ rfl
    obtain ⟨i3, -⟩ := (HS10.out.bxAt 3 rfl) 3 _ rfl
    obtain ⟨i4, -⟩ := (HS10.out.bxAt 3 rfl) 4 _ rfl
    go_wp2_with fail
    refine (cT _ (HP.out.below HS10.out.below)).mono ?_
    rintro e WT ⟨zbI, zbL, zbR, zbA, rfl, hst⟩
    have HT := hide (HS10.out.join hst)
    have cI1 := kI zbI zbL zbR zbA WT (rd_of (HT.out.nthO 0 rfl) (HT.out.nthO 1 rfl) (HT.out.nthO 2 rfl) (HT.out.nthO 3 rfl))
    clear hst HS10 i0 i1 i2 i3 i4
    go_wp2_with fail
    refine cI1.mono ?_
    rintro e WS ⟨haI, hcI, hbI, haL, hcL, hbL, haR, hcR, hbR, haA, hcA, hbA, rfl, hst⟩
    have HU := hide (((HT.out.sub (List.Sublist.refl _) (List.sublist_append_right _ _)).join hst).box [.slice haI rI hcI, .slice haL rL hcL, .slice haR rR hcR, .slice haA rA hcA, .int .i64 rC] 32)
    clear hst HT cI1 kI cT
    go_upto_region 27 with fail
    generalize WS.alloc (.cells #[.slice haI rI hcI, .slice haL rL hcL, .slice haR rR hcR, .slice haA rA hcA, .int .i64 rC] 32) = W8 at *
    generalize WS.heap.size = c16 at *
    have HS11 : Hid (St w [(c16, [.slice haI rI hcI, .slice haL rL hcL, .slice haR rR hcR, .slice haA rA hcA, .int .i64 rC]), (c12, [.slice gaI rI gcI, .slice gaL rL gcL, .slice gaR rR gcR, .slice gaA rA gcA, .int .i64 rC]), (c11, [.slice (some ⟨xbI, 0, none⟩) nI nI, .slice (some ⟨xbL, 0, none⟩) nL nL, .slice (some ⟨xbR, 0, none⟩) nR nR, .slice (some ⟨xbA, 0, none⟩) nA nA, .int .i64 clock]), (c10, [.slice saI rI scI, .slice saL rL scL, .slice saR rR scR, .slice saA rA scA, .int .i64 rC]), (w.heap.size, [.slice aI nI cI, .slice aL nL cL, .slice aR nR cR, .slice aA nA cA, .int .i64 clock])] [(haI, hbI, rI * 5, FEntry I), (haL, hbL, rL * 4, FCopy EL), (haR, hbR, rR * 4, FCopy ER), (haA, hbA, rA * 5, FNote A), (gaI, gbI, rI * 5, MEntry 1), (gaL, gbL, rL * 4, MCopy (1 + 5 * (rI : Int))), (gaR, gbR, rR * 4, MCopy (1 + 5 * (rI : Int) + 4 * (rL : Int))), (gaA, gbA, rA * 5, MNote (1 + 5 * (rI : Int) + 4 * (rL : Int) + 4 * (rR : Int))), (some ⟨xbI, 0, none⟩, xbI, nI * 5, MEntry 1), (some ⟨xbL, 0, none⟩, xbL, nL * 4, MCopy (1 + 5 * (nI : Int))), (some ⟨xbR, 0, none⟩, xbR, nR * 4, MCopy (1 + 5 * (nI : Int) + 4 * (nL : Int))), (some ⟨xbA, 0, none⟩, xbA, nA * 5, MNote (1 + 5 * (nI : Int) + 4 * (nL : Int) + 4 * (nR : Int))), (saI, sbI, rI * 5, FEntry I), (saL, sbL, rL * 4, FCopy EL), (saR, sbR, rR * 4, FCopy ER), (saA, sbA, rA * 5, FNote A)] W8) := HU.out
    clear HU
    obtain ⟨i0, -⟩ := (HS11.out.bxAt 0 rfl) 0 _ rfl
    obtain ⟨i1, -⟩ := (HS11.out.bxAt 0 rfl) 1 _ rfl
    obtain ⟨i2, -⟩ := (HS11.out.bxAt 0 rfl) 2 _ rfl
    obtain ⟨i3, -⟩ := (HS11.out.bxAt 0 rfl) 3 _ rfl
    obtain ⟨i4, -⟩ := (HS11.out.bxAt 0 rfl) 4 _ rfl
    obtain ⟨j0, -⟩ := (HS11.out.bxAt 3 rfl) 0 _ rfl
    obtain ⟨j1, -⟩ := (HS11.out.bxAt 3 rfl) 1 _ rfl
    obtain ⟨j2, -⟩ := (HS11.out.bxAt 3 rfl) 2 _ rfl
    obtain ⟨j3, -⟩ := (HS11.out.bxAt 3 rfl) 3 _ rfl
    obtain ⟨j4, -⟩ := (HS11.out.bxAt 3 rfl) 4 _ rfl
    have cc := cE _ _ hcI scI _ _ hcL scL _ _ hcR scR _ _ hcA scA _ (pxA_of (HS11.out.nthO 0 rfl) (HS11.out.nthO 1 rfl) (HS11.out.nthO 2 rfl) (HS11.out.nthO 3 rfl)) (pxA_of (HS11.out.nthO 12 rfl) (HS11.out.nthO 13 rfl) (HS11.out.nthO 14 rfl) (HS11.out.nthO 15 rfl))
    go_wp2_with fail
    refine cc.mono ?_
    rintro e WE ⟨rfl, hb⟩
    have HS12 := hide (HS11.out.next hb)
    clear hb cc HS11 i0 i1 i2 i3 i4 j0 j1 j2 j3 j4
    obtain ⟨i0, -⟩ := (HS12.out.bxAt 1 rfl) 0 _ rfl
    obtain ⟨i1, -⟩ := (HS12.out.bxAt 1 rfl) 1 _ rfl
    obtain ⟨i2, -⟩ := (HS12.out.bxAt 1 rfl) 2 _ rfl
    obtain ⟨i3, -⟩ := (HS12.out.bxAt 1 rfl) 3 _ rfl
    obtain ⟨i4, -⟩ := (HS12.out.bxAt 1 rfl) 4 _ rfl
    have cc := heldArch_any gaI rI gcI gaL rL gcL gaR rR gcR gaA rA gcA rC HRz.out 1 (by omega) (by omega) _ (ow_pxG (HS12.out.nthO 4 rfl)) (ow_pxG (HS12.out.nthO 5 rfl)) (ow_pxG (HS12.out.nthO 6 rfl)) (ow_pxG (HS12.out.nthO 7 rfl))
    go_wp2_with fail
    refine cc.mono ?_
    rintro e WH ⟨rfl, hb⟩
    have HS13 := hide (HS12.out.next hb)
    clear hb cc HS12 i0 i1 i2 i3 i4
    have HF := hide HS13.out.below
    clear HS13 cE
    go_wp2_with fail
    go_ret
    exact ⟨rfl, HF.out⟩

end Go.Proofs.Ytcdpnofjahdieaa

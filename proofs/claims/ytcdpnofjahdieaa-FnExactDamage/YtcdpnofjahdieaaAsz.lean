/- Archives: the law's own sizes, copies, comparisons. -/
import Derived.Test.YtcdpnofjahdieaaArw
namespace Go.Proofs.Ytcdpnofjahdieaa
open Go.RowKit

/-- the lengths of texts -/
structure TxA (I : Nat → SEntry) (L R : Nat → SCopy) (A : Nat → SNote) : Prop where
  i : ∀ k, (I k).f0.size ≤ maxLen
  l : ∀ k, (L k).f0.size ≤ maxLen ∧ (L k).f2.size ≤ maxLen
  r : ∀ k, (R k).f0.size ≤ maxLen ∧ (R k).f2.size ≤ maxLen
  a : ∀ k, (A k).f2.size ≤ maxLen

set_option maxRecDepth 100000 in
set_option maxHeartbeats 2000000 in
theorem szArch_any (aI : Option Addr) (nI cI : Nat) (I : Nat → SEntry) (aL : Option Addr) (nL cL : Nat) (L : Nat → SCopy) (aR : Option Addr) (nR cR : Nat) (R : Nat → SCopy) (aA : Option Addr) (nA cA : Nat) (A : Nat → SNote) (clock : Int) (hn : nI ≤ maxLen ∧ nL ≤ maxLen ∧ nR ≤ maxLen ∧ nA ≤ maxLen) (ht : TxA I L R A) (w : World) (h : PxA aI nI I aL nL L aR nR R aA nA A w) :
    Calls Try.prog 4 #[vArch aI nI cI aL nL cL aR nR cR aA nA cA clock, .int .i64 1048576] w fun e w' => Below w.heap.size w w' ∧ ∃ v : Int, e = .returned (.int .i64 v) ∧ (v < 0 ∨ (0 ≤ v ∧ SzA nI I nL L nR R nA A)) := by
  obtain ⟨W, hW⟩ : ∃ W, W = w.alloc (.cells #[.slice aI nI cI, .slice aL nL cL, .slice aR nR cR, .slice aA nA cA, .int .i64 clock] 26) := ⟨_, rfl⟩
  have hWB : Below w.heap.size w W := by rw [hW]; exact bnew _ _
  have hWs : w.heap.size < W.heap.size := by rw [hW]; simp
  have i0 : W.cell? ⟨w.heap.size, 0, none⟩ = some (.slice aI nI cI) := by rw [hW]; simp [go_sem]
  have i1 : W.cell? ⟨w.heap.size, 1, none⟩ = some (.slice aL nL cL) := by rw [hW]; simp [go_sem]
  have i2 : W.cell? ⟨w.heap.size, 2, none⟩ = some (.slice aR nR cR) := by rw [hW]; simp [go_sem]
  have i3 : W.cell? ⟨w.heap.size, 3, none⟩ = some (.slice aA nA cA) := by rw [hW]; simp [go_sem]
  have hW' := hW.symm
  have HKP : Hid (∀ wz, Below W.heap.size W wz → (wz.cell? ⟨w.heap.size, 0, none⟩ = some (.slice aI nI cI) ∧ wz.cell? ⟨w.heap.size, 1, none⟩ = some (.slice aL nL cL) ∧ wz.cell? ⟨w.heap.size, 2, none⟩ = some (.slice aR nR cR) ∧ wz.cell? ⟨w.heap.size, 3, none⟩ = some (.slice aA nA cA))) := fun wz hb => ⟨(hb.cell (p := ⟨w.heap.size, 0, none⟩) hWs).trans i0, (hb.cell (p := ⟨w.heap.size, 1, none⟩) hWs).trans i1, (hb.cell (p := ⟨w.heap.size, 2, none⟩) hWs).trans i2, (hb.cell (p := ⟨w.heap.size, 3, none⟩) hWs).trans i3⟩
  have HP := hide (h.below hWB)
  have HWB := hide hWB
  clear h hW hWB
  have c1 := szEntryS_any aI nI cI I hn.1 ht.i 1048576 (by omega) (by omega) W HP.out.i
  have c2 := fun v h0 h1 wz hb => szCopyS_any aL nL cL L hn.2.1 ht.l v h0 h1 wz (HP.out.below hb).l
  have c3 := fun v h0 h1 wz hb => szCopyS_any aR nR cR R hn.2.2.1 ht.r v h0 h1 wz (HP.out.below hb).r
  have c4 := fun v h0 h1 wz hb => szNoteS_any aA nA cA A hn.2.2.2 ht.a v h0 h1 wz (HP.out.below hb).a
  go_enter Try.func4, Try.ntmps4
  go_wp2_with fail
  refine c1.mono ?_
  rintro e w1 ⟨hb1, v1, rfl, hv1⟩
  have HB1 := hide hb1
  clear c1 hb1 i0 i1 i2 i3 hW'
  rcases hv1 with hv1 | ⟨hv1, hv1b, N1, M1⟩
  · have HBf : Hid (Below w.heap.size w w1) := bnext HWB.out (Nat.le_refl _) HB1.out
    clear HP HKP
    go_wp2_with fail
    go_ret
    exact ⟨HBf.out, _, rfl, .inl (by decide)⟩
  have g1 : ¬ v1 < 0 := by omega
  have HN1 := hide N1
  have HM1 := hide M1
  clear N1 M1
  obtain ⟨-, j1, j2, j3⟩ := HKP.out w1 HB1.out
  go_wp2_with fail
  refine (c2 v1 hv1 hv1b w1 HB1.out).mono ?_
  rintro e w2 ⟨hb2, v2, rfl, hv2⟩
  have HB2 : Hid (Below W.heap.size W w2) := bnext HB1.out (Nat.le_refl _) hb2
  clear c2 hb2 j1 j2 j3
  rcases hv2 with hv2 | ⟨hv2, hv2b, N2, M2⟩
  · have HBf : Hid (Below w.heap.size w w2) := bnext HWB.out (Nat.le_refl _) HB2.out
    clear HP HKP
    go_wp2_with fail
    go_ret
    exact ⟨HBf.out, _, rfl, .inl (by decide)⟩
  have g2 : ¬ v2 < 0 := by omega
  have HN2 := hide N2
  have HM2 := hide M2
  clear N2 M2
  obtain ⟨-, j1, j2, j3⟩ := HKP.out w2 HB2.out
  go_wp2_with fail
  refine (c3 v2 hv2 hv2b w2 HB2.out).mono ?_
  rintro e w3 ⟨hb3, v3, rfl, hv3⟩
  have HB3 : Hid (Below W.heap.size W w3) := bnext HB2.out (Nat.le_refl _) hb3
  clear c3 hb3 j1 j2 j3
  rcases hv3 with hv3 | ⟨hv3, hv3b, N3, M3⟩
  · have HBf : Hid (Below w.heap.size w w3) := bnext HWB.out (Nat.le_refl _) HB3.out
    clear HP HKP
    go_wp2_with fail
    go_ret
    exact ⟨HBf.out, _, rfl, .inl (by decide)⟩
  have g3 : ¬ v3 < 0 := by omega
  have HN3 := hide N3
  have HM3 := hide M3
  clear N3 M3
  obtain ⟨-, j1, j2, j3⟩ := HKP.out w3 HB3.out
  go_wp2_with fail
  refine (c4 v3 hv3 hv3b w3 HB3.out).mono ?_
  rintro e w4 ⟨hb4, v4, rfl, hv4⟩
  have HB4 : Hid (Below W.heap.size W w4) := bnext HB3.out (Nat.le_refl _) hb4
  clear c4 hb4 j1 j2 j3
  rcases hv4 with hv4 | ⟨hv4, hv4b, N4, M4⟩
  · have HBf : Hid (Below w.heap.size w w4) := bnext HWB.out (Nat.le_refl _) HB4.out
    clear HP HKP
    go_wp2_with fail
    go_ret
    exact ⟨HBf.out, _, rfl, .inl (by decide)⟩
  have g4 : ¬ v4 < 0 := by omega
  have HN4 := hide N4
  have HM4 := hide M4
  clear N4 M4
  have HBf : Hid (Below w.heap.size w w4) := bnext HWB.out (Nat.le_refl _) HB4.out
  have HV := hide hv4
  clear HP HKP
  go_wp2_with fail
  go_ret
  exact ⟨HBf.out, _, rfl, .inr ⟨HV.out, ⟨HN1.out, HN2.out, HN3.out, HN4.out, HM1.out, HM2.out, HM3.out, HM4.out⟩⟩⟩

theorem Bx.setN {b : Nat} {vs : List Value} {w : World} (h : Bx b vs w) {p : Addr} (hp : p.block ≠ b) (u : Value) : Bx b vs (w.setCell p u) := fun j v hv =>
  ⟨by rw [World.cell?_setCell_other _ _ _ _ (by intro e; subst e; exact hp rfl)]; exact (h j v hv).1, by simpa using (h j v hv).2⟩
/-- an archive of the call's own -/
structure RwA (bI nI : Nat) (I : Nat → SEntry) (bL nL : Nat) (L : Nat → SCopy) (bR nR : Nat) (R : Nat → SCopy) (bA nA : Nat) (A : Nat → SNote) (w : World) : Prop where
  i : RowV bI (nI * 5) (FEntry I) w
  l : RowV bL (nL * 4) (FCopy L) w
  r : RowV bR (nR * 4) (FCopy R) w
  a : RowV bA (nA * 5) (FNote A) w
theorem RwA.px {bI nI : Nat} {I : Nat → SEntry} {bL nL : Nat} {L : Nat → SCopy} {bR nR : Nat} {R : Nat → SCopy} {bA nA : Nat} {A : Nat → SNote} {w : World} (h : RwA bI nI I bL nL L bR nR R bA nA A w) : PxA (some ⟨bI, 0, none⟩) nI I (some ⟨bL, 0, none⟩) nL L (some ⟨bR, 0, none⟩) nR R (some ⟨bA, 0, none⟩) nA A w :=
  ⟨h.i.pxG, h.l.pxG, h.r.pxG, h.a.pxG⟩
theorem RowV.belowB {b n : Nat} {F : Nat → Value} {w w' : World} (h : RowV b n F w) (hb : Below w.heap.size w w') (hl : b < w.heap.size) : RowV b n F w' := fun j hj =>
  ⟨(hb.cell (p := ⟨b, j, none⟩) hl).trans (h j hj).1, (hb.frozen (p := ⟨b, j, none⟩) hl).trans (h j hj).2⟩
theorem RowV.setN {b n : Nat} {F : Nat → Value} {w : World} (h : RowV b n F w) {p : Addr} (hp : p.block ≠ b) (u : Value) : RowV b n F (w.setCell p u) := fun j hj =>
  ⟨by rw [World.cell?_setCell_other _ _ _ _ (by intro e; subst e; exact hp rfl)]; exact (h j hj).1, by simpa using (h j hj).2⟩

set_option maxRecDepth 100000 in
set_option maxHeartbeats 4000000 in
theorem toArch_any (aI : Option Addr) (nI cI : Nat) (I : Nat → SEntry) (aL : Option Addr) (nL cL : Nat) (L : Nat → SCopy) (aR : Option Addr) (nR cR : Nat) (R : Nat → SCopy) (aA : Option Addr) (nA cA : Nat) (A : Nat → SNote) (clock : Int) (hz : SzA nI I nL L nR R nA A) (w : World) (h : PxA aI nI I aL nL L aR nR R aA nA A w) :
    Calls Try.prog 6 #[vArch aI nI cI aL nL cL aR nR cR aA nA cA clock] w fun e w' => ∃ bI bL bR bA, e = .returned (vArch (some ⟨bI, 0, none⟩) nI nI (some ⟨bL, 0, none⟩) nL nL (some ⟨bR, 0, none⟩) nR nR (some ⟨bA, 0, none⟩) nA nA clock) ∧ RwA bI nI I bL nL L bR nR R bA nA A w' ∧ (w.heap.size ≤ bI ∧ bI < bL ∧ bL < bR ∧ bR < bA ∧ bA < w'.heap.size) ∧ Below w.heap.size w w' := by
  obtain ⟨W0, hW0⟩ : ∃ W0, W0 = w.alloc (.cells #[.slice aI nI cI, .slice aL nL cL, .slice aR nR cR, .slice aA nA cA, .int .i64 clock] 26) := ⟨_, rfl⟩
  obtain ⟨W1, hW1⟩ : ∃ W1, W1 = W0.alloc (.cells #[.slice none 0 0, .slice none 0 0, .slice none 0 0, .slice none 0 0, .int .i64 0] 32) := ⟨_, rfl⟩
  obtain ⟨W, hW⟩ : ∃ W, W = W1.alloc (.cells #[.slice none 0 0, .slice none 0 0, .slice none 0 0, .slice none 0 0, .int .i64 0] 32) := ⟨_, rfl⟩
  have s0 : W0.heap.size = w.heap.size + 1 := by rw [hW0]; simp
  have s1 : W1.heap.size = w.heap.size + 2 := by rw [hW1]; simp; omega
  have s2 : W.heap.size = w.heap.size + 3 := by rw [hW]; simp; omega
  have hWB : Below w.heap.size w W := by
    rw [hW, hW1, hW0]
    exact ((bnew _ _).alloc (by simp) _).alloc (by simp; omega) _
  have q0 : Bx w.heap.size [.slice aI nI cI, .slice aL nL cL, .slice aR nR cR, .slice aA nA cA, .int .i64 clock] W := by
    have a1 : Bx w.heap.size [.slice aI nI cI, .slice aL nL cL, .slice aR nR cR, .slice aA nA cA, .int .i64 clock] W0 := by rw [hW0]; exact Bx.new _ _ w
    have a2 := a1.below (bnew W0 (.cells #[.slice none 0 0, .slice none 0 0, .slice none 0 0, .slice none 0 0, .int .i64 0] 32)) (by omega)
    rw [← hW1] at a2
    have a3 := a2.below (bnew W1 (.cells #[.slice none 0 0, .slice none 0 0, .slice none 0 0, .slice none 0 0, .int .i64 0] 32)) (by omega)
    rw [← hW] at a3
    exact a3
  have q1 : Bx (w.heap.size + 1) [.slice none 0 0, .slice none 0 0, .slice none 0 0, .slice none 0 0, .int .i64 0] W := by
    have a1 : Bx W0.heap.size [.slice none 0 0, .slice none 0 0, .slice none 0 0, .slice none 0 0, .int .i64 0] W1 := by rw [hW1]; exact Bx.new _ _ W0
    rw [s0] at a1
    have a2 := a1.below (bnew W1 (.cells #[.slice none 0 0, .slice none 0 0, .slice none 0 0, .slice none 0 0, .int .i64 0] 32)) (by omega)
    rw [← hW] at a2
    exact a2
  have q2 : Bx (w.heap.size + 2) [.slice none 0 0, .slice none 0 0, .slice none 0 0, .slice none 0 0, .int .i64 0] W := by
    have a1 : Bx W1.heap.size [.slice none 0 0, .slice none 0 0, .slice none 0 0, .slice none 0 0, .int .i64 0] W := by rw [hW]; exact Bx.new _ _ W1
    rw [s1] at a1
    exact a1
  have hW0' := hW0.symm
  have hW1' := hW1.symm
  have hW' := hW.symm
  have HQ0 := hide q0
  have HQ1 := hide q1
  have HQ2 := hide q2
  have HP := hide (h.below hWB)
  have HWB := hide hWB
  have HS0 := hide s0
  have HS1 := hide s1
  have HS2 := hide s2
  have kI := fun wz hz2 => toEntryS_any aI nI cI I hz.ni wz hz2
  have kL := fun wz hz2 => toCopyS_any aL nL cL L hz.nl wz hz2
  have kR := fun wz hz2 => toCopyS_any aR nR cR R hz.nr wz hz2
  have kA := fun wz hz2 => toNoteS_any aA nA cA A hz.na wz hz2
  have i0 := (q0 0 _ rfl).1
  have HH := hide h
  clear h hW0 hW1 hW hWB q0 q1 q2 s2 hz
  go_enter Try.func6, Try.ntmps6
  go_wp2_with fail
  refine (kI _ HP.out.i).mono ?_
  rintro e w0 ⟨rfl, hr0, hb0, hs0⟩
  have b0 : Hid (∃ bb, bb = W.heap.size) := ⟨_, rfl⟩
  have E00 := HQ0.out.below hb0 (by have := HS2.out; omega)
  have E01 := HQ1.out.below hb0 (by have := HS2.out; omega)
  have E02 := HQ2.out.below hb0 (by have := HS2.out; omega)
  obtain ⟨u0, hu0⟩ : ∃ u0, u0 = w0.setCell ⟨w.heap.size + 2, 0, none⟩ (.slice (some ⟨W.heap.size, 0, none⟩) nI nI) := ⟨_, rfl⟩
  have p0 := (E02 0 _ rfl).1
  have f0 := (E02 0 _ rfl).2
  have G02 := E02.set 0 (.slice (some ⟨W.heap.size, 0, none⟩) nI nI)
  rw [← hu0] at G02
  simp only [List.set] at G02
  have G00 := Bx.setN E00 (p := ⟨w.heap.size + 2, 0, none⟩) (by simp) (.slice (some ⟨W.heap.size, 0, none⟩) nI nI)
  rw [← hu0] at G00
  have G01 := Bx.setN E01 (p := ⟨w.heap.size + 2, 0, none⟩) (by simp) (.slice (some ⟨W.heap.size, 0, none⟩) nI nI)
  rw [← hu0] at G01
  have hsz0 : u0.heap.size = w0.heap.size := by rw [hu0]; simp
  have B0 : Hid (Below w.heap.size w u0) := by show Below _ _ _; rw [hu0]; exact (bnext HWB.out (Nat.le_refl _) hb0).setCell (by show w.heap.size ≤ w.heap.size + 2; omega) _
  have R0_0 : RowV W.heap.size (nI * 5) (FEntry I) u0 := by rw [hu0]; exact hr0.setN (by show w.heap.size + 2 ≠ _; have := HS2.out; omega) _
  have L0 : Hid (W.heap.size < u0.heap.size ∧ w.heap.size + 3 ≤ W.heap.size) := ⟨by rw [hsz0]; exact hs0, by have := HS2.out; omega⟩
  have H01 := hide L0.out.1
  have PX1 := hide (HH.out.below B0.out)
  have Z1 : Hid (w.heap.size + 3 ≤ u0.heap.size) := by show _ ≤ _; have := L0.out; omega
  have i1 := (G00 1 _ rfl).1
  have hu0' := hu0.symm
  clear HQ0 HQ1 HQ2
  have HQ0 := hide G00
  have HQ1 := hide G01
  have HQ2 := hide G02
  clear kI hr0 hb0 hs0 E00 E01 E02 G00 G01 G02 hu0 i0  hsz0
  clear hW0' hW1' hW' s0 s1
  go_wp2_with fail
  refine (kL _ PX1.out.l).mono ?_
  rintro e w1 ⟨rfl, hr1, hb1, hs1⟩
  have b1 : Hid (∃ bb, bb = u0.heap.size) := ⟨_, rfl⟩
  have E10 := HQ0.out.below hb1 (by have := HS2.out; have := Z1.out; omega)
  have E11 := HQ1.out.below hb1 (by have := HS2.out; have := Z1.out; omega)
  have E12 := HQ2.out.below hb1 (by have := HS2.out; have := Z1.out; omega)
  obtain ⟨u1, hu1⟩ : ∃ u1, u1 = w1.setCell ⟨w.heap.size + 2, 1, none⟩ (.slice (some ⟨u0.heap.size, 0, none⟩) nL nL) := ⟨_, rfl⟩
  have p1 := (E12 1 _ rfl).1
  have f1 := (E12 1 _ rfl).2
  have G12 := E12.set 1 (.slice (some ⟨u0.heap.size, 0, none⟩) nL nL)
  rw [← hu1] at G12
  simp only [List.set] at G12
  have G10 := Bx.setN E10 (p := ⟨w.heap.size + 2, 1, none⟩) (by simp) (.slice (some ⟨u0.heap.size, 0, none⟩) nL nL)
  rw [← hu1] at G10
  have G11 := Bx.setN E11 (p := ⟨w.heap.size + 2, 1, none⟩) (by simp) (.slice (some ⟨u0.heap.size, 0, none⟩) nL nL)
  rw [← hu1] at G11
  have hsz1 : u1.heap.size = w1.heap.size := by rw [hu1]; simp
  have B1 : Hid (Below w.heap.size w u1) := by show Below _ _ _; rw [hu1]; exact (bnext B0.out (Nat.le_refl _) hb1).setCell (by show w.heap.size ≤ w.heap.size + 2; omega) _
  have R1_1 : RowV u0.heap.size (nL * 4) (FCopy L) u1 := by rw [hu1]; exact hr1.setN (by show w.heap.size + 2 ≠ _; have := HS2.out; have := Z1.out; omega) _
  have R1_0 : RowV W.heap.size (nI * 5) (FEntry I) u1 := by rw [hu1]; exact (RowV.belowB R0_0 hb1 (by have := L0.out; omega)).setN (by show w.heap.size + 2 ≠ _; have := HS2.out; have := L0.out; omega) _
  have L1 : Hid (u0.heap.size < u1.heap.size ∧ w.heap.size + 3 ≤ u0.heap.size) := ⟨by rw [hsz1]; exact hs1, by have := HS2.out; have := Z1.out; omega⟩
  have L0n : Hid (W.heap.size < u1.heap.size ∧ w.heap.size + 3 ≤ W.heap.size) := ⟨by have := L0.out; have := hb1.size; rw [hsz1]; omega, L0.out.2⟩
  clear L0
  have L0 := L0n
  clear L0n
  have H12 := hide L1.out.1
  have PX2 := hide (HH.out.below B1.out)
  have Z2 : Hid (w.heap.size + 3 ≤ u1.heap.size) := by show _ ≤ _; have := L1.out; omega
  have i2 := (G10 2 _ rfl).1
  have hu1' := hu1.symm
  clear HQ0 HQ1 HQ2
  have HQ0 := hide G10
  have HQ1 := hide G11
  have HQ2 := hide G12
  clear kL hr1 hb1 hs1 E10 E11 E12 G10 G11 G12 hu1 i1 R0_0 hsz1
  clear PX1
  clear hu0' p0 f0
  go_wp2_with fail
  refine (kR _ PX2.out.r).mono ?_
  rintro e w2 ⟨rfl, hr2, hb2, hs2⟩
  have b2 : Hid (∃ bb, bb = u1.heap.size) := ⟨_, rfl⟩
  have E20 := HQ0.out.below hb2 (by have := HS2.out; have := Z2.out; omega)
  have E21 := HQ1.out.below hb2 (by have := HS2.out; have := Z2.out; omega)
  have E22 := HQ2.out.below hb2 (by have := HS2.out; have := Z2.out; omega)
  obtain ⟨u2, hu2⟩ : ∃ u2, u2 = w2.setCell ⟨w.heap.size + 2, 2, none⟩ (.slice (some ⟨u1.heap.size, 0, none⟩) nR nR) := ⟨_, rfl⟩
  have p2 := (E22 2 _ rfl).1
  have f2 := (E22 2 _ rfl).2
  have G22 := E22.set 2 (.slice (some ⟨u1.heap.size, 0, none⟩) nR nR)
  rw [← hu2] at G22
  simp only [List.set] at G22
  have G20 := Bx.setN E20 (p := ⟨w.heap.size + 2, 2, none⟩) (by simp) (.slice (some ⟨u1.heap.size, 0, none⟩) nR nR)
  rw [← hu2] at G20
  have G21 := Bx.setN E21 (p := ⟨w.heap.size + 2, 2, none⟩) (by simp) (.slice (some ⟨u1.heap.size, 0, none⟩) nR nR)
  rw [← hu2] at G21
  have hsz2 : u2.heap.size = w2.heap.size := by rw [hu2]; simp
  have B2 : Hid (Below w.heap.size w u2) := by show Below _ _ _; rw [hu2]; exact (bnext B1.out (Nat.le_refl _) hb2).setCell (by show w.heap.size ≤ w.heap.size + 2; omega) _
  have R2_2 : RowV u1.heap.size (nR * 4) (FCopy R) u2 := by rw [hu2]; exact hr2.setN (by show w.heap.size + 2 ≠ _; have := HS2.out; have := Z2.out; omega) _
  have R2_0 : RowV W.heap.size (nI * 5) (FEntry I) u2 := by rw [hu2]; exact (RowV.belowB R1_0 hb2 (by have := L0.out; omega)).setN (by show w.heap.size + 2 ≠ _; have := HS2.out; have := L0.out; omega) _
  have R2_1 : RowV u0.heap.size (nL * 4) (FCopy L) u2 := by rw [hu2]; exact (RowV.belowB R1_1 hb2 (by have := L1.out; omega)).setN (by show w.heap.size + 2 ≠ _; have := HS2.out; have := L1.out; omega) _
  have L2 : Hid (u1.heap.size < u2.heap.size ∧ w.heap.size + 3 ≤ u1.heap.size) := ⟨by rw [hsz2]; exact hs2, by have := HS2.out; have := Z2.out; omega⟩
  have L0n : Hid (W.heap.size < u2.heap.size ∧ w.heap.size + 3 ≤ W.heap.size) := ⟨by have := L0.out; have := hb2.size; rw [hsz2]; omega, L0.out.2⟩
  clear L0
  have L0 := L0n
  clear L0n
  have L1n : Hid (u0.heap.size < u2.heap.size ∧ w.heap.size + 3 ≤ u0.heap.size) := ⟨by have := L1.out; have := hb2.size; rw [hsz2]; omega, L1.out.2⟩
  clear L1
  have L1 := L1n
  clear L1n
  have H23 := hide L2.out.1
  have PX3 := hide (HH.out.below B2.out)
  have Z3 : Hid (w.heap.size + 3 ≤ u2.heap.size) := by show _ ≤ _; have := L2.out; omega
  have i3 := (G20 3 _ rfl).1
  have hu2' := hu2.symm
  clear HQ0 HQ1 HQ2
  have HQ0 := hide G20
  have HQ1 := hide G21
  have HQ2 := hide G22
  clear kR hr2 hb2 hs2 E20 E21 E22 G20 G21 G22 hu2 i2 R1_0 R1_1 hsz2
  clear PX2
  clear hu1' p1 f1
  go_wp2_with fail
  refine (kA _ PX3.out.a).mono ?_
  rintro e w3 ⟨rfl, hr3, hb3, hs3⟩
  have b3 : Hid (∃ bb, bb = u2.heap.size) := ⟨_, rfl⟩
  have E30 := HQ0.out.below hb3 (by have := HS2.out; have := Z3.out; omega)
  have E31 := HQ1.out.below hb3 (by have := HS2.out; have := Z3.out; omega)
  have E32 := HQ2.out.below hb3 (by have := HS2.out; have := Z3.out; omega)
  obtain ⟨u3, hu3⟩ : ∃ u3, u3 = w3.setCell ⟨w.heap.size + 2, 3, none⟩ (.slice (some ⟨u2.heap.size, 0, none⟩) nA nA) := ⟨_, rfl⟩
  have p3 := (E32 3 _ rfl).1
  have f3 := (E32 3 _ rfl).2
  have G32 := E32.set 3 (.slice (some ⟨u2.heap.size, 0, none⟩) nA nA)
  rw [← hu3] at G32
  simp only [List.set] at G32
  have G30 := Bx.setN E30 (p := ⟨w.heap.size + 2, 3, none⟩) (by simp) (.slice (some ⟨u2.heap.size, 0, none⟩) nA nA)
  rw [← hu3] at G30
  have G31 := Bx.setN E31 (p := ⟨w.heap.size + 2, 3, none⟩) (by simp) (.slice (some ⟨u2.heap.size, 0, none⟩) nA nA)
  rw [← hu3] at G31
  have hsz3 : u3.heap.size = w3.heap.size := by rw [hu3]; simp
  have B3 : Hid (Below w.heap.size w u3) := by show Below _ _ _; rw [hu3]; exact (bnext B2.out (Nat.le_refl _) hb3).setCell (by show w.heap.size ≤ w.heap.size + 2; omega) _
  have R3_3 : RowV u2.heap.size (nA * 5) (FNote A) u3 := by rw [hu3]; exact hr3.setN (by show w.heap.size + 2 ≠ _; have := HS2.out; have := Z3.out; omega) _
  have R3_0 : RowV W.heap.size (nI * 5) (FEntry I) u3 := by rw [hu3]; exact (RowV.belowB R2_0 hb3 (by have := L0.out; omega)).setN (by show w.heap.size + 2 ≠ _; have := HS2.out; have := L0.out; omega) _
  have R3_1 : RowV u0.heap.size (nL * 4) (FCopy L) u3 := by rw [hu3]; exact (RowV.belowB R2_1 hb3 (by have := L1.out; omega)).setN (by show w.heap.size + 2 ≠ _; have := HS2.out; have := L1.out; omega) _
  have R3_2 : RowV u1.heap.size (nR * 4) (FCopy R) u3 := by rw [hu3]; exact (RowV.belowB R2_2 hb3 (by have := L2.out; omega)).setN (by show w.heap.size + 2 ≠ _; have := HS2.out; have := L2.out; omega) _
  have L3 : Hid (u2.heap.size < u3.heap.size ∧ w.heap.size + 3 ≤ u2.heap.size) := ⟨by rw [hsz3]; exact hs3, by have := HS2.out; have := Z3.out; omega⟩
  have L0n : Hid (W.heap.size < u3.heap.size ∧ w.heap.size + 3 ≤ W.heap.size) := ⟨by have := L0.out; have := hb3.size; rw [hsz3]; omega, L0.out.2⟩
  clear L0
  have L0 := L0n
  clear L0n
  have L1n : Hid (u0.heap.size < u3.heap.size ∧ w.heap.size + 3 ≤ u0.heap.size) := ⟨by have := L1.out; have := hb3.size; rw [hsz3]; omega, L1.out.2⟩
  clear L1
  have L1 := L1n
  clear L1n
  have L2n : Hid (u1.heap.size < u3.heap.size ∧ w.heap.size + 3 ≤ u1.heap.size) := ⟨by have := L2.out; have := hb3.size; rw [hsz3]; omega, L2.out.2⟩
  clear L2
  have L2 := L2n
  clear L2n
  have PX4 := hide (HH.out.below B3.out)
  have Z4 : Hid (w.heap.size + 3 ≤ u3.heap.size) := by show _ ≤ _; have := L3.out; omega
  have i4 := (G30 4 _ rfl).1
  have hu3' := hu3.symm
  clear HQ0 HQ1 HQ2
  have HQ0 := hide G30
  have HQ1 := hide G31
  have HQ2 := hide G32
  clear kA hr3 hb3 hs3 E30 E31 E32 G30 G31 G32 hu3 i3 R2_0 R2_1 R2_2 hsz3
  clear PX3
  clear hu2' p2 f2
  have m0 := (HQ2.out 0 _ rfl).1
  have m1 := (HQ2.out 1 _ rfl).1
  have m2 := (HQ2.out 2 _ rfl).1
  have m3 := (HQ2.out 3 _ rfl).1
  have m4 := (HQ2.out 4 _ rfl).1
  have mf := (HQ2.out 4 _ rfl).2
  have z0 := (HQ1.out 0 _ rfl).1
  have zf0 := (HQ1.out 0 _ rfl).2
  have z1 := (HQ1.out 1 _ rfl).1
  have zf1 := (HQ1.out 1 _ rfl).2
  have z2 := (HQ1.out 2 _ rfl).1
  have zf2 := (HQ1.out 2 _ rfl).2
  have z3 := (HQ1.out 3 _ rfl).1
  have zf3 := (HQ1.out 3 _ rfl).2
  have z4 := (HQ1.out 4 _ rfl).1
  have zf4 := (HQ1.out 4 _ rfl).2
  obtain ⟨bI, eI⟩ : ∃ bI, bI = W.heap.size := ⟨_, rfl⟩
  obtain ⟨bL, eL⟩ : ∃ bL, bL = u0.heap.size := ⟨_, rfl⟩
  obtain ⟨bR, eR⟩ : ∃ bR, bR = u1.heap.size := ⟨_, rfl⟩
  obtain ⟨bA, eA⟩ : ∃ bA, bA = u2.heap.size := ⟨_, rfl⟩
  have HRW : Hid (RwA bI nI I bL nL L bR nR R bA nA A u3) := by rw [eI, eL, eR, eA]; exact ⟨R3_0, R3_1, R3_2, R3_3⟩
  have HLT : Hid (w.heap.size + 3 ≤ bI ∧ bI < bL ∧ bL < bR ∧ bR < bA ∧ bA < u3.heap.size) := ⟨by rw [eI]; exact L0.out.2, by rw [eI, eL]; exact H01.out, by rw [eL, eR]; exact H12.out, by rw [eR, eA]; exact H23.out, by rw [eA]; exact L3.out.1⟩
  rw [← eI] at m0
  rw [← eL] at m1
  rw [← eR] at m2
  rw [← eA] at m3
  simp only [← eI, ← eL, ← eR, ← eA] at hu3' ⊢
  have HFW : Hid (∀ wf, wf = ((((((u3.setCell ⟨w.heap.size + 2, 4, none⟩ (.int .i64 clock)).setCell ⟨w.heap.size + 1, 0, none⟩ (.slice (some ⟨bI, 0, none⟩) nI nI)).setCell ⟨w.heap.size + 1, 1, none⟩ (.slice (some ⟨bL, 0, none⟩) nL nL)).setCell ⟨w.heap.size + 1, 2, none⟩ (.slice (some ⟨bR, 0, none⟩) nR nR)).setCell ⟨w.heap.size + 1, 3, none⟩ (.slice (some ⟨bA, 0, none⟩) nA nA)).setCell ⟨w.heap.size + 1, 4, none⟩ (.int .i64 clock)) → RwA bI nI I bL nL L bR nR R bA nA A wf ∧ (w.heap.size ≤ bI ∧ bI < bL ∧ bL < bR ∧ bR < bA ∧ bA < wf.heap.size) ∧ Below w.heap.size w wf) := by
    rintro wf rfl
    have hlt := HLT.out
    refine ⟨⟨((((((HRW.out.i.setN (by simp; omega) _).setN (by simp; omega) _).setN (by simp; omega) _).setN (by simp; omega) _).setN (by simp; omega) _).setN (by simp; omega) _), ((((((HRW.out.l.setN (by simp; omega) _).setN (by simp; omega) _).setN (by simp; omega) _).setN (by simp; omega) _).setN (by simp; omega) _).setN (by simp; omega) _), ((((((HRW.out.r.setN (by simp; omega) _).setN (by simp; omega) _).setN (by simp; omega) _).setN (by simp; omega) _).setN (by simp; omega) _).setN (by simp; omega) _), ((((((HRW.out.a.setN (by simp; omega) _).setN (by simp; omega) _).setN (by simp; omega) _).setN (by simp; omega) _).setN (by simp; omega) _).setN (by simp; omega) _)⟩, ?_, ?_⟩
    · simp only [World.size_setCell]
      omega
    · exact (((((B3.out.setCell (by simp) _).setCell (by simp) _).setCell (by simp) _).setCell (by simp) _).setCell (by simp) _).setCell (by simp) _
  clear HRW HLT B0 B1 B2 B3 HQ0 HQ1 HQ2 L0 L1 L2 L3 H01 H12 H23 HP HH HWB HS0 HS1 HS2 R3_0 R3_1 R3_2 R3_3 eI eL eR eA
  go_wp2_with fail
  refine bodyPost_ret (v := vArch (some ⟨bI, 0, none⟩) nI nI (some ⟨bL, 0, none⟩) nL nL (some ⟨bR, 0, none⟩) nR nR (some ⟨bA, 0, none⟩) nA nA clock) (by simp [results, Try.results6, go_sem, z0, z1, z2, z3, z4]) rfl ?_
  obtain ⟨g1, g2, g3⟩ := HFW.out _ rfl
  exact ⟨bI, bL, bR, bA, rfl, g1, g2, g3⟩



end Go.Proofs.Ytcdpnofjahdieaa

/- Archives: is it right: the program. -/
import Derived.Test.YtcdpnofjahdieaaArt
namespace Go.Proofs.Ytcdpnofjahdieaa
open Go.RowKit

/-- an archive as a value -/
abbrev vArch (aI : Option Addr) (nI cI : Nat) (aL : Option Addr) (nL cL : Nat) (aR : Option Addr) (nR cR : Nat) (aA : Option Addr) (nA cA : Nat) (clock : Int) : Value := .agg #[.slice aI nI cI, .slice aL nL cL, .slice aR nR cR, .slice aA nA cA, .int .i64 clock]
/-- its lists are there -/
structure PxA (aI : Option Addr) (nI : Nat) (I : Nat → SEntry) (aL : Option Addr) (nL : Nat) (L : Nat → SCopy) (aR : Option Addr) (nR : Nat) (R : Nat → SCopy) (aA : Option Addr) (nA : Nat) (A : Nat → SNote) (w : World) : Prop where
  i : PxG aI (nI * 5) (FEntry I) w
  l : PxG aL (nL * 4) (FCopy L) w
  r : PxG aR (nR * 4) (FCopy R) w
  a : PxG aA (nA * 5) (FNote A) w
theorem PxA.below {aI : Option Addr} {nI : Nat} {I : Nat → SEntry} {aL : Option Addr} {nL : Nat} {L : Nat → SCopy} {aR : Option Addr} {nR : Nat} {R : Nat → SCopy} {aA : Option Addr} {nA : Nat} {A : Nat → SNote} {w w' : World} (h : PxA aI nI I aL nL L aR nR R aA nA A w) (hb : Below w.heap.size w w') : PxA aI nI I aL nL L aR nR R aA nA A w' :=
  ⟨h.i.below hb, h.l.below hb, h.r.below hb, h.a.below hb⟩
/-- none is too much -/
structure SzA (nI : Nat) (I : Nat → SEntry) (nL : Nat) (L : Nat → SCopy) (nR : Nat) (R : Nat → SCopy) (nA : Nat) (A : Nat → SNote) : Prop where
  ni : nI ≤ 1048576
  nl : nL ≤ 1048576
  nr : nR ≤ 1048576
  na : nA ≤ 1048576
  si : ∀ k, k < nI → eEntry I k ≤ 1048576
  sl : ∀ k, k < nL → eCopy L k ≤ 1048576
  sr : ∀ k, k < nR → eCopy R k ≤ 1048576
  sa : ∀ k, k < nA → eNote A k ≤ 1048576

set_option maxRecDepth 100000 in
set_option maxHeartbeats 2000000 in
theorem implArchOk_any (aI : Option Addr) (nI cI : Nat) (I : Nat → SEntry) (aL : Option Addr) (nL cL : Nat) (L : Nat → SCopy) (aR : Option Addr) (nR cR : Nat) (R : Nat → SCopy) (aA : Option Addr) (nA cA : Nat) (A : Nat → SNote) (clock : Int) (hz : SzA nI I nL L nR R nA A) (w : World) (h : PxA aI nI I aL nL L aR nR R aA nA A w) :
    Calls Try.prog 19 #[vArch aI nI cI aL nL cL aR nR cR aA nA cA clock] w fun e w' => e = .returned (.bool (archB I nI L nL R nR A nA clock)) ∧ Below w.heap.size w w' := by
  obtain ⟨W, hW⟩ : ∃ W, W = w.alloc (.cells #[.slice aI nI cI, .slice aL nL cL, .slice aR nR cR, .slice aA nA cA, .int .i64 clock] 32) := ⟨_, rfl⟩
  have hWB : Below w.heap.size w W := by rw [hW]; exact bnew _ _
  have hWs : w.heap.size < W.heap.size := by rw [hW]; simp
  have i0 : W.cell? ⟨w.heap.size, 0, none⟩ = some (.slice aI nI cI) := by rw [hW]; simp [go_sem]
  have i1 : W.cell? ⟨w.heap.size, 1, none⟩ = some (.slice aL nL cL) := by rw [hW]; simp [go_sem]
  have i2 : W.cell? ⟨w.heap.size, 2, none⟩ = some (.slice aR nR cR) := by rw [hW]; simp [go_sem]
  have i3 : W.cell? ⟨w.heap.size, 3, none⟩ = some (.slice aA nA cA) := by rw [hW]; simp [go_sem]
  have i4 : W.cell? ⟨w.heap.size, 4, none⟩ = some (.int .i64 clock) := by rw [hW]; simp [go_sem]
  have hW' := hW.symm
  have HKP : Hid (∀ wz, Below W.heap.size W wz → (wz.cell? ⟨w.heap.size, 1, none⟩ = some (.slice aL nL cL) ∧ wz.cell? ⟨w.heap.size, 2, none⟩ = some (.slice aR nR cR) ∧ wz.cell? ⟨w.heap.size, 3, none⟩ = some (.slice aA nA cA) ∧ wz.cell? ⟨w.heap.size, 4, none⟩ = some (.int .i64 clock))) := fun wz hb => ⟨(hb.cell (p := ⟨w.heap.size, 1, none⟩) hWs).trans i1, (hb.cell (p := ⟨w.heap.size, 2, none⟩) hWs).trans i2, (hb.cell (p := ⟨w.heap.size, 3, none⟩) hWs).trans i3, (hb.cell (p := ⟨w.heap.size, 4, none⟩) hWs).trans i4⟩
  have HP := hide (h.below hWB)
  have HWB := hide hWB
  have HAB : Hid (archB I nI L nL R nR A nA clock = (inB clock 0 1000000000 && idxB I nI && shfB L nL && shfB R nR && bokB A nA clock)) := rfl
  have c1 := within_any clock 0 1000000000 W
  have c2 := isIndex_any aI nI cI I hz.ni hz.si W HP.out.i
  have c3 := fun wz hb => isShelf_any aL nL cL L hz.nl hz.sl wz (HP.out.below hb).l
  have c4 := fun wz hb => isShelf_any aR nR cR R hz.nr hz.sr wz (HP.out.below hb).r
  have c5 := fun wz hb => isBook_any aA nA cA A clock hz.na hz.sa wz (HP.out.below hb).a
  generalize archB I nI L nL R nR A nA clock = AB at *
  clear h hW hWB hz
  cases h1 : inB clock 0 1000000000 with
  | false =>
    have HF : Hid (AB = false) := by show _ = _; rw [HAB.out, h1]; simp
    rw [h1] at c1
    clear h1 HAB c2 c3 c4 c5
    go_enter Try.func19, Try.ntmps19
    go_wp2_with fail
    refine c1.mono ?_
    rintro e w0 ⟨rfl, rfl⟩
    clear c1
    go_wp2_with fail
    go_ret
    exact ⟨by rw [HF.out]; rfl, HWB.out⟩
  | true =>
  rw [h1] at c1
  cases h2 : idxB I nI with
  | false =>
    have HF : Hid (AB = false) := by show _ = _; rw [HAB.out, h1, h2]; simp
    rw [h2] at c2
    clear h1 h2 HAB c3 c4 c5
    go_enter Try.func19, Try.ntmps19
    go_wp2_with fail
    refine c1.mono ?_
    rintro e w0 ⟨rfl, rfl⟩
    clear c1
    go_wp2_with fail
    refine c2.mono ?_
    rintro e w2 ⟨rfl, hb2⟩
    have HB2 := hide hb2
    obtain ⟨j1, j2, j3, j4⟩ := HKP.out w2 hb2
    clear c2 hb2 i0 i1 i2 i3 i4
    go_wp2_with fail
    go_ret
    exact ⟨by rw [HF.out]; rfl, (bnext HWB.out (Nat.le_refl _) HB2.out)⟩
  | true =>
  rw [h2] at c2
  cases h3 : shfB L nL with
  | false =>
    have HF : Hid (AB = false) := by show _ = _; rw [HAB.out, h1, h2, h3]; simp
    simp only [h3] at c3
    clear h1 h2 h3 HAB c4 c5
    go_enter Try.func19, Try.ntmps19
    go_wp2_with fail
    refine c1.mono ?_
    rintro e w0 ⟨rfl, rfl⟩
    clear c1
    go_wp2_with fail
    refine c2.mono ?_
    rintro e w2 ⟨rfl, hb2⟩
    have HB2 := hide hb2
    obtain ⟨j1, j2, j3, j4⟩ := HKP.out w2 hb2
    clear c2 hb2 i0 i1 i2 i3 i4
    go_wp2_with fail
    refine (c3 _ HB2.out).mono ?_
    rintro e w3 ⟨rfl, hb3⟩
    have HB3 : Hid (Below w0.heap.size w0 w3) := bnext HB2.out (Nat.le_refl _) hb3
    clear j1 j2 j3 j4
    obtain ⟨j1, j2, j3, j4⟩ := HKP.out w3 HB3.out
    clear c3 hb3
    go_wp2_with fail
    go_ret
    exact ⟨by rw [HF.out]; rfl, (bnext HWB.out (Nat.le_refl _) HB3.out)⟩
  | true =>
  simp only [h3] at c3
  cases h4 : shfB R nR with
  | false =>
    have HF : Hid (AB = false) := by show _ = _; rw [HAB.out, h1, h2, h3, h4]; simp
    simp only [h4] at c4
    clear h1 h2 h3 h4 HAB c5
    go_enter Try.func19, Try.ntmps19
    go_wp2_with fail
    refine c1.mono ?_
    rintro e w0 ⟨rfl, rfl⟩
    clear c1
    go_wp2_with fail
    refine c2.mono ?_
    rintro e w2 ⟨rfl, hb2⟩
    have HB2 := hide hb2
    obtain ⟨j1, j2, j3, j4⟩ := HKP.out w2 hb2
    clear c2 hb2 i0 i1 i2 i3 i4
    go_wp2_with fail
    refine (c3 _ HB2.out).mono ?_
    rintro e w3 ⟨rfl, hb3⟩
    have HB3 : Hid (Below w0.heap.size w0 w3) := bnext HB2.out (Nat.le_refl _) hb3
    clear j1 j2 j3 j4
    obtain ⟨j1, j2, j3, j4⟩ := HKP.out w3 HB3.out
    clear c3 hb3
    go_wp2_with fail
    refine (c4 _ HB3.out).mono ?_
    rintro e w4 ⟨rfl, hb4⟩
    have HB4 : Hid (Below w0.heap.size w0 w4) := bnext HB3.out (Nat.le_refl _) hb4
    clear j1 j2 j3 j4
    obtain ⟨j1, j2, j3, j4⟩ := HKP.out w4 HB4.out
    clear c4 hb4
    go_wp2_with fail
    go_ret
    exact ⟨by rw [HF.out]; rfl, (bnext HWB.out (Nat.le_refl _) HB4.out)⟩
  | true =>
  simp only [h4] at c4
  cases h5 : bokB A nA clock with
  | false =>
    have HF : Hid (AB = false) := by show _ = _; rw [HAB.out, h1, h2, h3, h4, h5]; simp
    simp only [h5] at c5
    clear h1 h2 h3 h4 h5 HAB 
    go_enter Try.func19, Try.ntmps19
    go_wp2_with fail
    refine c1.mono ?_
    rintro e w0 ⟨rfl, rfl⟩
    clear c1
    go_wp2_with fail
    refine c2.mono ?_
    rintro e w2 ⟨rfl, hb2⟩
    have HB2 := hide hb2
    obtain ⟨j1, j2, j3, j4⟩ := HKP.out w2 hb2
    clear c2 hb2 i0 i1 i2 i3 i4
    go_wp2_with fail
    refine (c3 _ HB2.out).mono ?_
    rintro e w3 ⟨rfl, hb3⟩
    have HB3 : Hid (Below w0.heap.size w0 w3) := bnext HB2.out (Nat.le_refl _) hb3
    clear j1 j2 j3 j4
    obtain ⟨j1, j2, j3, j4⟩ := HKP.out w3 HB3.out
    clear c3 hb3
    go_wp2_with fail
    refine (c4 _ HB3.out).mono ?_
    rintro e w4 ⟨rfl, hb4⟩
    have HB4 : Hid (Below w0.heap.size w0 w4) := bnext HB3.out (Nat.le_refl _) hb4
    clear j1 j2 j3 j4
    obtain ⟨j1, j2, j3, j4⟩ := HKP.out w4 HB4.out
    clear c4 hb4
    go_wp2_with fail
    refine (c5 _ HB4.out).mono ?_
    rintro e w5 ⟨rfl, hb5⟩
    have HB5 : Hid (Below w0.heap.size w0 w5) := bnext HB4.out (Nat.le_refl _) hb5
    clear j1 j2 j3 j4
    obtain ⟨j1, j2, j3, j4⟩ := HKP.out w5 HB5.out
    clear c5 hb5
    go_wp2_with fail
    go_ret
    exact ⟨by rw [HF.out]; rfl, (bnext HWB.out (Nat.le_refl _) HB5.out)⟩
  | true =>
  simp only [h5] at c5
  have HF : Hid (AB = true) := by show _ = _; rw [HAB.out, h1, h2, h3, h4, h5]; rfl
  clear h1 h2 h3 h4 h5 HAB
  go_enter Try.func19, Try.ntmps19
  go_wp2_with fail
  refine c1.mono ?_
  rintro e w0 ⟨rfl, rfl⟩
  clear c1
  go_wp2_with fail
  refine c2.mono ?_
  rintro e w2 ⟨rfl, hb2⟩
  have HB2 := hide hb2
  obtain ⟨j1, j2, j3, j4⟩ := HKP.out w2 hb2
  clear c2 hb2 i0 i1 i2 i3 i4
  go_wp2_with fail
  refine (c3 _ HB2.out).mono ?_
  rintro e w3 ⟨rfl, hb3⟩
  have HB3 : Hid (Below w0.heap.size w0 w3) := bnext HB2.out (Nat.le_refl _) hb3
  clear j1 j2 j3 j4
  obtain ⟨j1, j2, j3, j4⟩ := HKP.out w3 HB3.out
  clear c3 hb3
  go_wp2_with fail
  refine (c4 _ HB3.out).mono ?_
  rintro e w4 ⟨rfl, hb4⟩
  have HB4 : Hid (Below w0.heap.size w0 w4) := bnext HB3.out (Nat.le_refl _) hb4
  clear j1 j2 j3 j4
  obtain ⟨j1, j2, j3, j4⟩ := HKP.out w4 HB4.out
  clear c4 hb4
  go_wp2_with fail
  refine (c5 _ HB4.out).mono ?_
  rintro e w5 ⟨rfl, hb5⟩
  have HB5 : Hid (Below w0.heap.size w0 w5) := bnext HB4.out (Nat.le_refl _) hb5
  clear j1 j2 j3 j4
  obtain ⟨j1, j2, j3, j4⟩ := HKP.out w5 HB5.out
  clear c5 hb5
  go_wp2_with fail
  go_ret
  exact ⟨by rw [HF.out]; rfl, (bnext HWB.out (Nat.le_refl _) HB5.out)⟩

end Go.Proofs.Ytcdpnofjahdieaa

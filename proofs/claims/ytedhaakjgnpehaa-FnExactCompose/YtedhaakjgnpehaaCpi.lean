/- Compose: the program. -/
import Derived.Test.YtedhaakjgnpehaaCpn
import Derived.Test.YtedhaakjgnpehaaBeh
import Derived.Test.YtedhaakjgnpehaaRfm
import Derived.Test.YtedhaakjgnpehaaFrq
namespace Go.Proofs.Ytedhaakjgnpehaa
open Go.RowKit Go.Lib

set_option maxRecDepth 100000 in
set_option maxHeartbeats 8000000 in
theorem implCompose_any (D : Int) (a0 : Option Addr) (n0 c0 : Nat) (M : Nat → Int) (_hl0 : n0 ≤ 1048576) (a1 : Option Addr) (n1 c1 : Nat) (T : Nat → Int) (_hl1 : n1 ≤ 1048576) (E : Int) (g0 : Option Addr) (m0 d0 : Nat) (L : Nat → Int) (_hm0 : m0 ≤ 1048576) (g1 : Option Addr) (m1 d1 : Nat) (S : Nat → Int) (_hm1 : m1 ≤ 1048576) (w : World) (h0 : Px a0 n0 M w) (h1 : Px a1 n1 T w) (k0 : Px g0 m0 L w) (k1 : Px g1 m1 S w) :
    Calls Try.prog 9 #[vFrame D a0 n0 c0 a1 n1 c1, vFrame E g0 m0 d0 g1 m1 d1] w (FrX (cmQ D n0 M n1 T E m0 L m1 S) (cmD D M T E L S) (cmM D M T E L S) (cmT D M T E L S) w) := by
  have HS0 := hide ((((St.start w).box [.slice a0 n0 c0, .slice a1 n1 c1, .int .i64 D] 26).box' [.slice g0 m0 d0, .slice g1 m1 d1, .int .i64 E] 26 (b := w.heap.size + 1) (by simp)).box' [.slice none 0 0, .slice none 0 0, .int .i64 0] 26 (b := w.heap.size + 2) (by simp))
  have c := mappingOf_any D a0 n0 c0 M a1 n1 c1 T _ (h0.below HS0.out.below) (h1.below HS0.out.below)
  have c' := fun wx h h' => mappingOf_any E g0 m0 d0 L g1 m1 d1 S wx h h'
  have HK0 := hide k0
  have HK1 := hide k1
  clear h0 h1 k0 k1
  have HQ : Hid (cmQ D n0 M n1 T E m0 L m1 S = (frmB D n0 M n1 T && frmB E m0 L m1 S && frmB (cmD D M T E L S) 9 (cmM D M T E L S) 3 (cmT D M T E L S))) := by show _ = _; rfl
  generalize cmQ D n0 M n1 T E m0 L m1 S = Q at *
  have HFR : Hid (frI D n0 M n1 T = true → len93 n0 n1 = true) := fun hf => by unfold frI at hf; simp only [Bool.and_eq_true] at hf; exact hf.1
  have HFR' : Hid (frI E m0 L m1 S = true → len93 m0 m1 = true) := fun hf => by unfold frI at hf; simp only [Bool.and_eq_true] at hf; exact hf.1
  rw [← frI_eq D, ← frI_eq E] at HQ
  have HB1 : Hid (frI D n0 M n1 T = true → (1 ≤ D ∧ D ≤ 1000000) ∧ (∀ i, i < 9 → -1000000 ≤ M i ∧ M i ≤ 1000000) ∧ (∀ i, i < 3 → -1000000 ≤ T i ∧ T i ≤ 1000000)) := fun hf => by obtain ⟨-, -, x, y, z, -⟩ := frmB_parts ((frI_eq D n0 M n1 T).symm.trans hf); exact ⟨x, y, z⟩
  have HB2 : Hid (frI E m0 L m1 S = true → (1 ≤ E ∧ E ≤ 1000000) ∧ (∀ i, i < 9 → -1000000 ≤ L i ∧ L i ≤ 1000000) ∧ (∀ i, i < 3 → -1000000 ≤ S i ∧ S i ≤ 1000000)) := fun hf => by obtain ⟨-, -, x, y, z, -⟩ := frmB_parts ((frI_eq E m0 L m1 S).symm.trans hf); exact ⟨x, y, z⟩
  unfold MpR at c c'
  obtain ⟨rb, hrb⟩ : ∃ rb, rb = frI D n0 M n1 T := ⟨_, rfl⟩
  rw [← hrb] at c HQ HFR HB1
  clear hrb
  obtain ⟨rc, hrc⟩ : ∃ rc, rc = frI E m0 L m1 S := ⟨_, rfl⟩
  rw [← hrc] at c' HQ HFR' HB2
  clear hrc
  obtain ⟨M', hM'⟩ : ∃ M', M' = sel (len93 n0 n1) M := ⟨_, rfl⟩
  obtain ⟨T', hT'⟩ : ∃ T', T' = sel (len93 n0 n1) T := ⟨_, rfl⟩
  obtain ⟨D', hD'⟩ : ∃ D', D' = selD (len93 n0 n1) D := ⟨_, rfl⟩
  rw [← hM', ← hT', ← hD'] at c
  obtain ⟨L', hL'⟩ : ∃ L', L' = sel (len93 m0 m1) L := ⟨_, rfl⟩
  obtain ⟨S', hS'⟩ : ∃ S', S' = sel (len93 m0 m1) S := ⟨_, rfl⟩
  obtain ⟨E', hE'⟩ : ∃ E', E' = selD (len93 m0 m1) E := ⟨_, rfl⟩
  rw [← hL', ← hS', ← hE'] at c'
  have HMT := hide (And.intro hM' (And.intro hT' hD'))
  have HLS := hide (And.intro hL' (And.intro hS' hE'))
  clear hM' hT' hD' hL' hS' hE'
  unfold mapV at c c'
  obtain ⟨i0, i1, i2⟩ := HS0.out.im3 2 rfl
  go_enter Try.func9, Try.ntmps9
  go_wp2_with fail
  refine c.mono ?_
  rintro e w1 ⟨rfl, hb⟩
  have HS1 := hide (HS0.out.next hb)
  clear hb c HS0 i0 i1 i2
  have HS2 := hide (HS1.out.box (c13 M' T' D') 49)
  obtain ⟨w2, hw2⟩ : ∃ w2, w2 = w1.alloc (.cells #[.int .i64 (M' 0), .int .i64 (M' 1), .int .i64 (M' 2), .int .i64 (M' 3), .int .i64 (M' 4), .int .i64 (M' 5), .int .i64 (M' 6), .int .i64 (M' 7), .int .i64 (M' 8), .int .i64 (T' 0), .int .i64 (T' 1), .int .i64 (T' 2), .int .i64 D'] 49) := ⟨_, rfl⟩
  have HS3 : Hid (St w [(w1.heap.size, c13 M' T' D'), (w.heap.size + 2, [.slice none 0 0, .slice none 0 0, .int .i64 0]), (w.heap.size + 1, [.slice g0 m0 d0, .slice g1 m1 d1, .int .i64 E]), (w.heap.size, [.slice a0 n0 c0, .slice a1 n1 c1, .int .i64 D])] [] w2) := by rw [hw2]; exact HS2.out
  clear HS2 HS1
  go_upto_region 2 with fail
  rw [← hw2]
  clear hw2
  generalize w1.heap.size = qm at *
  obtain ⟨i0, i1, i2⟩ := HS3.out.im3 2 rfl
  go_wp2_with fail
  refine (c' _ (HK0.out.below HS3.out.below) (HK1.out.below HS3.out.below)).mono ?_
  rintro e w3 ⟨rfl, hb⟩
  have HS4 := hide (HS3.out.next hb)
  clear hb c' HS3 i0 i1 i2 HK0 HK1
  have HS5 := hide (HS4.out.box (c13 L' S' E') 49)
  obtain ⟨w4, hw4⟩ : ∃ w4, w4 = w3.alloc (.cells #[.int .i64 (L' 0), .int .i64 (L' 1), .int .i64 (L' 2), .int .i64 (L' 3), .int .i64 (L' 4), .int .i64 (L' 5), .int .i64 (L' 6), .int .i64 (L' 7), .int .i64 (L' 8), .int .i64 (S' 0), .int .i64 (S' 1), .int .i64 (S' 2), .int .i64 E'] 49) := ⟨_, rfl⟩
  have HS6 : Hid (St w [(w3.heap.size, c13 L' S' E'), (qm, c13 M' T' D'), (w.heap.size + 2, [.slice none 0 0, .slice none 0 0, .int .i64 0]), (w.heap.size + 1, [.slice g0 m0 d0, .slice g1 m1 d1, .int .i64 E]), (w.heap.size, [.slice a0 n0 c0, .slice a1 n1 c1, .int .i64 D])] [] w4) := by rw [hw4]; exact HS5.out
  clear HS4 HS5
  go_upto_region 3 with fail
  rw [← hw4]
  clear hw4
  generalize w3.heap.size = ql at *
  have BM : Hid (Bx qm (c13 M' T' D') w4) := HS6.out.bxAt 1 rfl
  have BL : Hid (Bx ql (c13 L' S' E') w4) := HS6.out.bxAt 0 rfl
  have BR : Hid (Bx (w.heap.size + 2) [.slice none 0 0, .slice none 0 0, .int .i64 0] w4) := HS6.out.bxAt 2 rfl
  have HW := hide HS6.out.below
  clear HS6
  cases hrr : (rb && rc)
  · have HN : Hid (Q = false) := by show _ = _; rw [HQ.out, hrr]; rfl
    clear HQ HB1 HB2 HFR HFR' HMT HLS BM BL
    obtain ⟨z0, y0⟩ := BR.out 0 _ rfl
    obtain ⟨z1, y1⟩ := BR.out 1 _ rfl
    obtain ⟨z2, y2⟩ := BR.out 2 _ rfl
    clear BR
    have HB := hide (((HW.out.setCell (p := ⟨w.heap.size + 2, 0, none⟩) (show w.heap.size ≤ w.heap.size + 2 by omega) (.slice none 0 0)).setCell (p := ⟨w.heap.size + 2, 1, none⟩) (show w.heap.size ≤ w.heap.size + 2 by omega) (.slice none 0 0)).setCell (p := ⟨w.heap.size + 2, 2, none⟩) (show w.heap.size ≤ w.heap.size + 2 by omega) (.int .i64 0))
    clear HW
    cases rb
    · clear hrr
      go_wp2_with fail
      exact bodyPost_ret (v := .tuple #[vFrame 0 none 0 0 none 0 0, .bool false]) (by simp [results, vFrame, Try.results9, go_sem, z0, z1, z2]) rfl (.inr ⟨HN.out, rfl, HB.out⟩)
    · cases rc
      · clear hrr
        go_wp2_with fail
        exact bodyPost_ret (v := .tuple #[vFrame 0 none 0 0 none 0 0, .bool false]) (by simp [results, vFrame, Try.results9, go_sem, z0, z1, z2]) rfl (.inr ⟨HN.out, rfl, HB.out⟩)
      · exact absurd hrr (by simp)
  · have hrb : rb = true := by cases rb <;> simp_all
    have hrc : rc = true := by cases rc <;> simp_all
    subst hrb hrc
    clear hrr
    obtain ⟨eM, eT, eD⟩ := HMT.out
    rw [HFR.out rfl] at eM eT eD
    have eM' : M' = M := eM
    have eT' : T' = T := eT
    have eD' : D' = D := eD
    obtain ⟨eL, eS, eE⟩ := HLS.out
    rw [HFR'.out rfl] at eL eS eE
    have eL' : L' = L := eL
    have eS' : S' = S := eS
    have eE' : E' = E := eE
    subst eM' eT' eD' eL' eS' eE'
    clear HMT HFR HLS HFR' eM eT eD eL eS eE
    have HQ2 : Hid (Q = frmB (cmD D' M' T' E' L' S') 9 (cmM D' M' T' E' L' S') 3 (cmT D' M' T' E' L' S')) := by show _ = _; rw [HQ.out]; rfl
    clear HQ
    obtain ⟨bD, bM, bT⟩ := HB1.out rfl
    obtain ⟨bE, bL, bS⟩ := HB2.out rfl
    clear HB1 HB2
    have cB := fun wx => behind_any M' T' D' L' S' E' bD bM bT bE bL bS wx
    have dDE := mul_b6 (show -1000000 ≤ D' ∧ D' ≤ 1000000 by omega) (show -1000000 ≤ E' ∧ E' ≤ 1000000 by omega)
    have pDE : 0 < D' * E' := Int.mul_pos (by omega) (by omega)
    have cR := fun wx => rightFrame_any (bhM M' L') (bhT M' T' S' E') (D' * E') pDE (by omega) (fun k hk => by have := bhM_b bM bL hk; omega) (fun k hk => by have := bhT_b bM bT bS (show -1000000 ≤ E' ∧ E' ≤ 1000000 by omega) hk; omega) wx
    have HN : Hid ((D' * E').tdiv (rgS (D' * E') (bhM M' L') (bhT M' T' S' E')) = cmD D' M' T' E' L' S' ∧ dvF (bhM M' L') (rgS (D' * E') (bhM M' L') (bhT M' T' S' E')) = cmM D' M' T' E' L' S' ∧ dvF (bhT M' T' S' E') (rgS (D' * E') (bhM M' L') (bhT M' T' S' E')) = cmT D' M' T' E' L' S') := ⟨rfl, rfl, rfl⟩
    rw [HN.out.1, HN.out.2.1, HN.out.2.2] at cR
    clear HN dDE pDE bD bM bT bE bL bS
    generalize cmD D' M' T' E' L' S' = rD at *
    generalize cmM D' M' T' E' L' S' = rM at *
    generalize cmT D' M' T' E' L' S' = rT at *
    generalize mapV (bhM M' L') (bhT M' T' S' E') (D' * E') = V at *
    unfold mapV at cB
    have g0 := (BM.out 0 _ rfl).1
    have g1 := (BM.out 1 _ rfl).1
    have g2 := (BM.out 2 _ rfl).1
    have g3 := (BM.out 3 _ rfl).1
    have g4 := (BM.out 4 _ rfl).1
    have g5 := (BM.out 5 _ rfl).1
    have g6 := (BM.out 6 _ rfl).1
    have g7 := (BM.out 7 _ rfl).1
    have g8 := (BM.out 8 _ rfl).1
    have g9 := (BM.out 9 _ rfl).1
    have g10 := (BM.out 10 _ rfl).1
    have g11 := (BM.out 11 _ rfl).1
    have g12 := (BM.out 12 _ rfl).1
    have f0 := (BL.out 0 _ rfl).1
    have f1 := (BL.out 1 _ rfl).1
    have f2 := (BL.out 2 _ rfl).1
    have f3 := (BL.out 3 _ rfl).1
    have f4 := (BL.out 4 _ rfl).1
    have f5 := (BL.out 5 _ rfl).1
    have f6 := (BL.out 6 _ rfl).1
    have f7 := (BL.out 7 _ rfl).1
    have f8 := (BL.out 8 _ rfl).1
    have f9 := (BL.out 9 _ rfl).1
    have f10 := (BL.out 10 _ rfl).1
    have f11 := (BL.out 11 _ rfl).1
    have f12 := (BL.out 12 _ rfl).1
    go_wp2_with fail
    refine (cB _).mono ?_
    rintro e w5 ⟨rfl, hb5⟩
    have BR5 := hide (BR.out.below hb5 BR.out.lt)
    have HW5 := hide (HW.out.trans (hb5.mono HW.out.size))
    clear cB hb5 g0 g1 g2 g3 g4 g5 g6 g7 g8 g9 g10 g11 g12 f0 f1 f2 f3 f4 f5 f6 f7 f8 f9 f10 f11 f12 BR BL BM HW
    go_wp2_with fail
    refine (cR _).mono ?_
    rintro e w6 (⟨hq, b0, cc0, b1, cc1, rfl, hb0, hb1, hne, hr0, hr1, hb⟩ | ⟨hq, rfl, hb⟩)
    · have HQT : Hid (Q = true) := by show _ = _; rw [HQ2.out, hq]
      have BR6 := hide (BR5.out.below hb BR5.out.lt)
      have HW6 := hide (HW5.out.trans (hb.mono HW5.out.size))
      have hlt := BR5.out.lt
      have hsz := HW5.out.size
      have HR : Hid (w.heap.size ≤ b0 ∧ w.heap.size ≤ b1 ∧ b0 ≠ b1 ∧ w.heap.size + 2 ≠ b0 ∧ w.heap.size + 2 ≠ b1) := ⟨by omega, by omega, hne, by omega, by omega⟩
      have HR0 := hide hr0
      have HR1 := hide hr1
      clear hq HQ2 hb0 hb1 hne hr0 hr1 hb cR BR5 HW5 hlt hsz
      obtain ⟨z0, y0⟩ := BR6.out 0 _ rfl
      obtain ⟨z1, y1⟩ := BR6.out 1 _ rfl
      obtain ⟨z2, y2⟩ := BR6.out 2 _ rfl
      clear BR6
      have HB := hide (((HW6.out.setCell (p := ⟨w.heap.size + 2, 0, none⟩) (show w.heap.size ≤ w.heap.size + 2 by omega) (.slice (some ⟨b0, 0, none⟩) 9 cc0)).setCell (p := ⟨w.heap.size + 2, 1, none⟩) (show w.heap.size ≤ w.heap.size + 2 by omega) (.slice (some ⟨b1, 0, none⟩) 3 cc1)).setCell (p := ⟨w.heap.size + 2, 2, none⟩) (show w.heap.size ≤ w.heap.size + 2 by omega) (.int .i64 rD))
      unfold vFrame
      go_wp2_with fail
      obtain ⟨r0, r1, r2, r3, r4⟩ := HR.out
      exact bodyPost_ret (v := .tuple #[vFrame rD (some ⟨b0, 0, none⟩) 9 cc0 (some ⟨b1, 0, none⟩) 3 cc1, .bool true]) (by simp [results, vFrame, Try.results9, go_sem, z0, z1, z2]) rfl (.inl ⟨HQT.out, b0, cc0, b1, cc1, rfl, r0, r1, r2, ((HR0.out.set (p := ⟨w.heap.size + 2, 0, none⟩) r3 _).set (p := ⟨w.heap.size + 2, 1, none⟩) r3 _).set (p := ⟨w.heap.size + 2, 2, none⟩) r3 _, ((HR1.out.set (p := ⟨w.heap.size + 2, 0, none⟩) r4 _).set (p := ⟨w.heap.size + 2, 1, none⟩) r4 _).set (p := ⟨w.heap.size + 2, 2, none⟩) r4 _, HB.out⟩)
    · have HQT : Hid (Q = false) := by show _ = _; rw [HQ2.out, hq]
      have BR6 := hide (BR5.out.below hb BR5.out.lt)
      have HW6 := hide (HW5.out.trans (hb.mono HW5.out.size))
      clear hq HQ2 hb cR BR5 HW5
      obtain ⟨z0, y0⟩ := BR6.out 0 _ rfl
      obtain ⟨z1, y1⟩ := BR6.out 1 _ rfl
      obtain ⟨z2, y2⟩ := BR6.out 2 _ rfl
      clear BR6
      have HB := hide (((HW6.out.setCell (p := ⟨w.heap.size + 2, 0, none⟩) (show w.heap.size ≤ w.heap.size + 2 by omega) (.slice none 0 0)).setCell (p := ⟨w.heap.size + 2, 1, none⟩) (show w.heap.size ≤ w.heap.size + 2 by omega) (.slice none 0 0)).setCell (p := ⟨w.heap.size + 2, 2, none⟩) (show w.heap.size ≤ w.heap.size + 2 by omega) (.int .i64 0))
      unfold vFrame
      go_wp2_with fail
      exact bodyPost_ret (v := .tuple #[vFrame 0 none 0 0 none 0 0, .bool false]) (by simp [results, vFrame, Try.results9, go_sem, z0, z1, z2]) rfl (.inr ⟨HQT.out, rfl, HB.out⟩)

end Go.Proofs.Ytedhaakjgnpehaa

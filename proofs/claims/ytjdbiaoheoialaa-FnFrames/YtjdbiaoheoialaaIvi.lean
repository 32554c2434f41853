/- Invert: the program. -/
import Derived.Test.YtjdbiaoheoialaaIvv
import Derived.Test.YtjdbiaoheoialaaRfm
import Derived.Test.YtjdbiaoheoialaaFrq
namespace Go.Proofs.Ytjdbiaoheoialaa
open Go.RowKit Go.Lib

set_option maxRecDepth 100000 in
set_option maxHeartbeats 8000000 in
theorem implInvert_any (D : Int) (a0 : Option Addr) (n0 c0 : Nat) (M : Nat → Int) (_hl0 : n0 ≤ 1048576) (a1 : Option Addr) (n1 c1 : Nat) (T : Nat → Int) (_hl1 : n1 ≤ 1048576) (w : World) (h0 : Px a0 n0 M w) (h1 : Px a1 n1 T w) :
    Calls Try.prog 13 #[vFrame D a0 n0 c0 a1 n1 c1] w (FrX (ivQ D n0 M n1 T) (ivD D M T) (ivM D M T) (ivT D M T) w) := by
  have HS0 := hide (((St.start w).box [.slice a0 n0 c0, .slice a1 n1 c1, .int .i64 D] 26).box' [.slice none 0 0, .slice none 0 0, .int .i64 0] 26 (b := w.heap.size + 1) (by simp))
  have c := mappingOf_any D a0 n0 c0 M a1 n1 c1 T _ (h0.below HS0.out.below) (h1.below HS0.out.below)
  clear h0 h1
  have HQ : Hid (ivQ D n0 M n1 T = (frmB D n0 M n1 T && frmB (ivD D M T) 9 (ivM D M T) 3 (ivT D M T))) := by show _ = _; rfl
  generalize ivQ D n0 M n1 T = Q at *
  have HFR : Hid (frI D n0 M n1 T = true → len93 n0 n1 = true) := fun hf => by unfold frI at hf; simp only [Bool.and_eq_true] at hf; exact hf.1
  rw [← frI_eq D] at HQ
  have HB1 : Hid (frI D n0 M n1 T = true → (1 ≤ D ∧ D ≤ 1000000) ∧ (∀ i, i < 9 → -1000000 ≤ M i ∧ M i ≤ 1000000) ∧ (∀ i, i < 3 → -1000000 ≤ T i ∧ T i ≤ 1000000) ∧ det9 M ≠ 0) := fun hf => by obtain ⟨-, -, x, y, z, -, u⟩ := frmB_parts ((frI_eq D n0 M n1 T).symm.trans hf); exact ⟨x, y, z, u⟩
  unfold MpR at c
  obtain ⟨rb, hrb⟩ : ∃ rb, rb = frI D n0 M n1 T := ⟨_, rfl⟩
  rw [← hrb] at c HQ HFR HB1
  clear hrb
  obtain ⟨M', hM'⟩ : ∃ M', M' = sel (len93 n0 n1) M := ⟨_, rfl⟩
  obtain ⟨T', hT'⟩ : ∃ T', T' = sel (len93 n0 n1) T := ⟨_, rfl⟩
  obtain ⟨D', hD'⟩ : ∃ D', D' = selD (len93 n0 n1) D := ⟨_, rfl⟩
  rw [← hM', ← hT', ← hD'] at c
  have HMT := hide (And.intro hM' (And.intro hT' hD'))
  clear hM' hT' hD'
  unfold mapV at c
  obtain ⟨i0, i1, i2⟩ := HS0.out.im3 1 rfl
  go_enter Try.func13, Try.ntmps13
  go_wp2_with fail
  refine c.mono ?_
  rintro e w1 ⟨rfl, hb⟩
  have HS1 := hide (HS0.out.next hb)
  clear hb c HS0 i0 i1 i2
  have HS2 := hide (HS1.out.box (c13 M' T' D') 48)
  obtain ⟨w2, hw2⟩ : ∃ w2, w2 = w1.alloc (.cells #[.int .i64 (M' 0), .int .i64 (M' 1), .int .i64 (M' 2), .int .i64 (M' 3), .int .i64 (M' 4), .int .i64 (M' 5), .int .i64 (M' 6), .int .i64 (M' 7), .int .i64 (M' 8), .int .i64 (T' 0), .int .i64 (T' 1), .int .i64 (T' 2), .int .i64 D'] 48) := ⟨_, rfl⟩
  have HS3 : Hid (St w [(w1.heap.size, c13 M' T' D'), (w.heap.size + 1, [.slice none 0 0, .slice none 0 0, .int .i64 0]), (w.heap.size, [.slice a0 n0 c0, .slice a1 n1 c1, .int .i64 D])] [] w2) := by rw [hw2]; exact HS2.out
  clear HS2 HS1
  go_upto_region 2 with fail
  rw [← hw2]
  clear hw2
  generalize w1.heap.size = qm at *
  have BM : Hid (Bx qm (c13 M' T' D') w2) := HS3.out.bxAt 0 rfl
  have BR : Hid (Bx (w.heap.size + 1) [.slice none 0 0, .slice none 0 0, .int .i64 0] w2) := HS3.out.bxAt 1 rfl
  have HW := hide HS3.out.below
  clear HS3
  cases rb
  · have HN : Hid (Q = false) := by show _ = _; rw [HQ.out]; rfl
    clear HQ HB1 HFR HMT BM
    obtain ⟨z0, y0⟩ := BR.out 0 _ rfl
    obtain ⟨z1, y1⟩ := BR.out 1 _ rfl
    obtain ⟨z2, y2⟩ := BR.out 2 _ rfl
    clear BR
    have HB := hide (((HW.out.setCell (p := ⟨w.heap.size + 1, 0, none⟩) (show w.heap.size ≤ w.heap.size + 1 by omega) (.slice none 0 0)).setCell (p := ⟨w.heap.size + 1, 1, none⟩) (show w.heap.size ≤ w.heap.size + 1 by omega) (.slice none 0 0)).setCell (p := ⟨w.heap.size + 1, 2, none⟩) (show w.heap.size ≤ w.heap.size + 1 by omega) (.int .i64 0))
    clear HW
    go_wp2_with fail
    exact bodyPost_ret (v := .tuple #[vFrame 0 none 0 0 none 0 0, .bool false]) (by simp [results, vFrame, Try.results13, go_sem, z0, z1, z2]) rfl (.inr ⟨HN.out, rfl, HB.out⟩)
  · obtain ⟨eM, eT, eD⟩ := HMT.out
    rw [HFR.out rfl] at eM eT eD
    have eM' : M' = M := eM
    have eT' : T' = T := eT
    have eD' : D' = D := eD
    subst eM' eT' eD'
    clear HMT HFR eM eT eD
    have HQ2 : Hid (Q = frmB (ivD D' M' T') 9 (ivM D' M' T') 3 (ivT D' M' T')) := by show _ = _; rw [HQ.out]; rfl
    clear HQ
    obtain ⟨bD, bM, bT, hd⟩ := HB1.out rfl
    clear HB1
    have cB := fun wx => inverse_any M' T' D' bD bM bT hd wx
    have hJ := adjF_b bM
    have hdb := det9_b bM
    have hsg := sgn_or hd
    have hsp := sgn_pos hd
    have cR := fun wx => rightFrame_any (fun k => sgn (det9 M') * ivN D' (adjF M') k) (fun k => sgn (det9 M') * ivS (adjF M') T' k) (sgn (det9 M') * det9 M') hsp (by rw [natAbs_sg hsg]; omega) (fun k hk => by have := mul_b12 (hJ k) (show -1000000 ≤ D' ∧ D' ≤ 1000000 by omega); rw [natAbs_sg hsg]; unfold ivN; omega) (fun k hk => by have := timJ_b hJ bT k; rw [natAbs_sg hsg]; unfold ivS; omega) wx
    have HN : Hid ((sgn (det9 M') * det9 M').tdiv (rgS (sgn (det9 M') * det9 M') (fun k => sgn (det9 M') * ivN D' (adjF M') k) (fun k => sgn (det9 M') * ivS (adjF M') T' k)) = ivD D' M' T' ∧ dvF (fun k => sgn (det9 M') * ivN D' (adjF M') k) (rgS (sgn (det9 M') * det9 M') (fun k => sgn (det9 M') * ivN D' (adjF M') k) (fun k => sgn (det9 M') * ivS (adjF M') T' k)) = ivM D' M' T' ∧ dvF (fun k => sgn (det9 M') * ivS (adjF M') T' k) (rgS (sgn (det9 M') * det9 M') (fun k => sgn (det9 M') * ivN D' (adjF M') k) (fun k => sgn (det9 M') * ivS (adjF M') T' k)) = ivT D' M' T') := by
      rw [rgS_sg hd]
      refine ⟨tdiv_sg hd _ _, ?_, ?_⟩
      · funext k; exact tdiv_sg hd _ _
      · funext k; exact tdiv_sg hd _ _
    rw [HN.out.1, HN.out.2.1, HN.out.2.2] at cR
    clear HN bD bM bT hd hJ hdb hsg hsp
    generalize ivD D' M' T' = rD at *
    generalize ivM D' M' T' = rM at *
    generalize ivT D' M' T' = rT at *
    generalize mapV (fun k => sgn (det9 M') * ivN D' (adjF M') k) (fun k => sgn (det9 M') * ivS (adjF M') T' k) (sgn (det9 M') * det9 M') = V at *
    unfold mapV at cB
    have g0 := (BM.out 0 _ rfl).1
    have g1 := (BM.out 1 _ rfl).1
    have g2 := (BM.out 2 _ rfl).1
    have g3 := (BM.out 3 _ rfl).1
    have g4 := (BM.out 4 _ rfl).1
    have g5 := (BM.out 5 _ rfl).1
    have g6 := (BM.out 6 _ rfl).1
    have g7 := (BM.out 7 _ rfl).1
    have g8 := (BM.out 8 _ rfl).1
    have g9 := (BM.out 9 _ rfl).1
    have g10 := (BM.out 10 _ rfl).1
    have g11 := (BM.out 11 _ rfl).1
    have g12 := (BM.out 12 _ rfl).1
    go_wp2_with fail
    refine (cB _).mono ?_
    rintro e w5 ⟨rfl, hb5⟩
    have BR5 := hide (BR.out.below hb5 BR.out.lt)
    have HW5 := hide (HW.out.trans (hb5.mono HW.out.size))
    clear cB hb5 g0 g1 g2 g3 g4 g5 g6 g7 g8 g9 g10 g11 g12 BR BM HW
    go_wp2_with fail
    refine (cR _).mono ?_
    rintro e w6 (⟨hq, b0, cc0, b1, cc1, rfl, hb0, hb1, hne, hr0, hr1, hb⟩ | ⟨hq, rfl, hb⟩)
    · have HQT : Hid (Q = true) := by show _ = _; rw [HQ2.out, hq]
      have BR6 := hide (BR5.out.below hb BR5.out.lt)
      have HW6 := hide (HW5.out.trans (hb.mono HW5.out.size))
      have hlt := BR5.out.lt
      have hsz := HW5.out.size
      have HR : Hid (w.heap.size ≤ b0 ∧ w.heap.size ≤ b1 ∧ b0 ≠ b1 ∧ w.heap.size + 1 ≠ b0 ∧ w.heap.size + 1 ≠ b1) := ⟨by omega, by omega, hne, by omega, by omega⟩
      have HR0 := hide hr0
      have HR1 := hide hr1
      clear hq HQ2 hb0 hb1 hne hr0 hr1 hb cR BR5 HW5 hlt hsz
      obtain ⟨z0, y0⟩ := BR6.out 0 _ rfl
      obtain ⟨z1, y1⟩ := BR6.out 1 _ rfl
      obtain ⟨z2, y2⟩ := BR6.out 2 _ rfl
      clear BR6
      have HB := hide (((HW6.out.setCell (p := ⟨w.heap.size + 1, 0, none⟩) (show w.heap.size ≤ w.heap.size + 1 by omega) (.slice (some ⟨b0, 0, none⟩) 9 cc0)).setCell (p := ⟨w.heap.size + 1, 1, none⟩) (show w.heap.size ≤ w.heap.size + 1 by omega) (.slice (some ⟨b1, 0, none⟩) 3 cc1)).setCell (p := ⟨w.heap.size + 1, 2, none⟩) (show w.heap.size ≤ w.heap.size + 1 by omega) (.int .i64 rD))
      unfold vFrame
      go_wp2_with fail
      obtain ⟨r0, r1, r2, r3, r4⟩ := HR.out
      exact bodyPost_ret (v := .tuple #[vFrame rD (some ⟨b0, 0, none⟩) 9 cc0 (some ⟨b1, 0, none⟩) 3 cc1, .bool true]) (by simp [results, vFrame, Try.results13, go_sem, z0, z1, z2]) rfl (.inl ⟨HQT.out, b0, cc0, b1, cc1, rfl, r0, r1, r2, ((HR0.out.set (p := ⟨w.heap.size + 1, 0, none⟩) r3 _).set (p := ⟨w.heap.size + 1, 1, none⟩) r3 _).set (p := ⟨w.heap.size + 1, 2, none⟩) r3 _, ((HR1.out.set (p := ⟨w.heap.size + 1, 0, none⟩) r4 _).set (p := ⟨w.heap.size + 1, 1, none⟩) r4 _).set (p := ⟨w.heap.size + 1, 2, none⟩) r4 _, HB.out⟩)
    · have HN : Hid (Q = false) := by show _ = _; rw [HQ2.out, hq]
      have BR6 := hide (BR5.out.below hb BR5.out.lt)
      have HW6 := hide (HW5.out.trans (hb.mono HW5.out.size))
      clear hq HQ2 hb cR BR5 HW5
      obtain ⟨z0, y0⟩ := BR6.out 0 _ rfl
      obtain ⟨z1, y1⟩ := BR6.out 1 _ rfl
      obtain ⟨z2, y2⟩ := BR6.out 2 _ rfl
      clear BR6
      have HB := hide (((HW6.out.setCell (p := ⟨w.heap.size + 1, 0, none⟩) (show w.heap.size ≤ w.heap.size + 1 by omega) (.slice none 0 0)).setCell (p := ⟨w.heap.size + 1, 1, none⟩) (show w.heap.size ≤ w.heap.size + 1 by omega) (.slice none 0 0)).setCell (p := ⟨w.heap.size + 1, 2, none⟩) (show w.heap.size ≤ w.heap.size + 1 by omega) (.int .i64 0))
      unfold vFrame
      go_wp2_with fail
      exact bodyPost_ret (v := .tuple #[vFrame 0 none 0 0 none 0 0, .bool false]) (by simp [results, vFrame, Try.results13, go_sem, z0, z1, z2]) rfl (.inr ⟨HN.out, rfl, HB.out⟩)

end Go.Proofs.Ytjdbiaoheoialaa

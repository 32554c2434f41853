/- The way back of a mapping: the program. -/
import Derived.Test.YtjdbiaoheoialaaIvn
import Derived.Test.YtjdbiaoheoialaaBxt
import Derived.Test.YtjdbiaoheoialaaBxs
import Derived.Test.YtjdbiaoheoialaaMpo
import Derived.Test.YtjdbiaoheoialaaBxf
namespace Go.Proofs.Ytjdbiaoheoialaa
open Go.RowKit

def c2w (d : Int) : List Value := [.int .i64 (d / 18446744073709551616), .int .u64 (d % 18446744073709551616)]
/-- the first k numbers of the matrix are there -/
theorem c13_hy (F V : Nat → Int) (E : Int) {j : Nat} (h : j < 9) : (c13 (hy F j) V E).set j (.int .i64 (F j)) = c13 (hy F (j + 1)) V E := by
  match j, h with
  | 0, _ => rfl
  | 1, _ => rfl
  | 2, _ => rfl
  | 3, _ => rfl
  | 4, _ => rfl
  | 5, _ => rfl
  | 6, _ => rfl
  | 7, _ => rfl
  | 8, _ => rfl
theorem c13_at (G V : Nat → Int) (E : Int) {j : Nat} (h : j < 9) : (c13 G V E)[j]? = some (.int .i64 (G j)) := by
  match j, h with
  | 0, _ => rfl
  | 1, _ => rfl
  | 2, _ => rfl
  | 3, _ => rfl
  | 4, _ => rfl
  | 5, _ => rfl
  | 6, _ => rfl
  | 7, _ => rfl
  | 8, _ => rfl
theorem mat9_ix (J : Nat → Int) {j : Nat} (h : j < 9) (w : World) : (Instr.index 44 (mat9 J) (.int .i64 (j : Int))).run Try.prog w = .ok (.int .i64 (J j)) w := by
  match j, h with
  | 0, _ => rfl
  | 1, _ => rfl
  | 2, _ => rfl
  | 3, _ => rfl
  | 4, _ => rfl
  | 5, _ => rfl
  | 6, _ => rfl
  | 7, _ => rfl
  | 8, _ => rfl

set_option maxRecDepth 100000 in
set_option maxHeartbeats 8000000 in
theorem inverse_any (M T : Nat → Int) (D : Int) (bD : 1 ≤ D ∧ D ≤ 1000000) (bM : ∀ i, i < 9 → -1000000 ≤ M i ∧ M i ≤ 1000000) (bT : ∀ i, i < 3 → -1000000 ≤ T i ∧ T i ≤ 1000000) (hd : det9 M ≠ 0) (w : World) :
    Calls Try.prog 28 #[mapV M T D] w fun e w' => e = .returned (mapV (fun k => sgn (det9 M) * ivN D (adjF M) k) (fun k => sgn (det9 M) * ivS (adjF M) T k) (sgn (det9 M) * det9 M)) ∧ Below w.heap.size w w' := by
  have hJ := adjF_b bM
  have hdb := det9_b bM
  have hsg := sgn_or hd
  have hsp := sgn_pos hd
  have cA := fun wx => adjugate_any M bM wx
  have cW := fun wx => determinant_any M bM wx
  have cG := fun wx => wideSign_any (det9 M) (by omega) wx
  have cT := fun wx => times_any (adjF M) T (fun i hi => by
    have g0 := mul_b12 (hJ (3 * i)) (bT 0 (by omega))
    have g1 := mul_b12 (hJ (3 * i + 1)) (bT 1 (by omega))
    have g2 := mul_b12 (hJ (3 * i + 2)) (bT 2 (by omega))
    unfold timF
    omega) wx
  have hTJ := timJ_b hJ bT
  obtain ⟨U, hU⟩ : ∃ U, U = timF (adjF M) T := ⟨_, rfl⟩
  obtain ⟨J, hJJ⟩ : ∃ J, J = adjF M := ⟨_, rfl⟩
  obtain ⟨d, hdd⟩ : ∃ d, d = det9 M := ⟨_, rfl⟩
  obtain ⟨s, hs⟩ : ∃ s, s = sgn (det9 M) := ⟨_, rfl⟩
  rw [← hU] at cT hTJ
  rw [← hs] at hsg hsp cG
  rw [← hdd] at hdb hsp cW cG hd
  rw [← hJJ] at cA cT hJ
  have HR : Hid ((fun k => sgn (det9 M) * ivN D (adjF M) k) = (fun k => s * ivN D J k) ∧ (fun k => sgn (det9 M) * ivS (adjF M) T k) = (fun k => U k * (-s)) ∧ sgn (det9 M) * det9 M = s * d) := ⟨by rw [← hs, ← hJJ], by funext k; rw [← hs]; unfold ivS; rw [← hU, Int.mul_neg, Int.mul_neg, Int.mul_comm], by rw [← hs, ← hdd]⟩
  rw [HR.out.1, HR.out.2.1, HR.out.2.2]
  clear HR hU hJJ hdd hs
  have cC := fun wx => vscaled_any U (-s) (fun k hk => by have := hTJ k; rcases hsg with e | e <;> rw [e] <;> omega) wx
  have HJ := hide hJ
  have HD := hide bD
  have HSG := hide hsg
  obtain ⟨E, hE⟩ : ∃ E, E = s * d := ⟨_, rfl⟩
  obtain ⟨V, hV⟩ : ∃ V : Nat → Int, V = (fun k => U k * (-s)) := ⟨_, rfl⟩
  rw [← hE, ← hV]
  obtain ⟨FF, hFF⟩ : ∃ FF : Nat → Int, FF = (fun k => s * ivN D J k) := ⟨_, rfl⟩
  rw [← hFF]
  have HFF := hide hFF
  clear hFF
  rw [← hV] at cC
  have eE : IntKind.i64.wrap (d * s) = E := by rw [IntKind.wrap_i64, Int.mul_comm, ← hE]; rcases hsg with e | e <;> rw [e] at hE <;> omega
  obtain ⟨ns, hns⟩ : ∃ ns, ns = -s := ⟨_, rfl⟩
  have eN : IntKind.i64.wrap (-s) = ns := by rw [IntKind.wrap_i64, hns]; rcases hsg with e | e <;> rw [e] <;> omega
  rw [← hns] at cC
  obtain ⟨hi, hhi⟩ : ∃ x, x = d / 18446744073709551616 := ⟨_, rfl⟩
  obtain ⟨lo, hlo⟩ : ∃ x, x = d % 18446744073709551616 := ⟨_, rfl⟩
  have eL : IntKind.i64.wrap lo = d := by rw [IntKind.wrap_i64, hlo]; omega
  unfold wd at cW cG
  rw [← hhi, ← hlo] at cW cG
  have HS0 := hide (((St.start w).box (c13 M T D) 48).box' (c13 (fun _ => 0) (fun _ => 0) 0) 48 (b := w.heap.size + 1) (by simp))
  clear hE hV hns hhi hlo hd hsg hsp hdb hJ hTJ bM bT bD
  unfold mapV
  go_enter Try.func28, Try.ntmps28
  go_upto_region 1 with fail
  obtain ⟨w2, hw2⟩ : ∃ w2, w2 = (w.alloc (.cells #[.int .i64 (M 0), .int .i64 (M 1), .int .i64 (M 2), .int .i64 (M 3), .int .i64 (M 4), .int .i64 (M 5), .int .i64 (M 6), .int .i64 (M 7), .int .i64 (M 8), .int .i64 (T 0), .int .i64 (T 1), .int .i64 (T 2), .int .i64 D] 48)).alloc (.cells #[.int .i64 0, .int .i64 0, .int .i64 0, .int .i64 0, .int .i64 0, .int .i64 0, .int .i64 0, .int .i64 0, .int .i64 0, .int .i64 0, .int .i64 0, .int .i64 0, .int .i64 0] 48) := ⟨_, rfl⟩
  have HS2 : Hid (St w [(w.heap.size + 1, c13 (fun _ => 0) (fun _ => 0) 0), (w.heap.size, c13 M T D)] [] w2) := by rw [hw2]; exact HS0.out
  rw [← hw2]
  clear hw2 HS0
  go_cut [3, 4] (fun s3 s4 wc => ∃ Q P, s3 = .pointer (some ⟨Q, 0, none⟩) ∧ s4 = .pointer (some ⟨P, 0, none⟩) ∧ St w [(P, [.int .i64 hi, .int .u64 lo]), (Q, c9 J), (w.heap.size + 1, c13 (fun _ => 0) (fun _ => 0) 0), (w.heap.size, c13 M T D)] [] wc)
  case first =>
    obtain ⟨G, hG⟩ : ∃ G : Nat → Value → Prop, G = (fun j v => match j with | 0 => v = .pointer (some ⟨w.heap.size, 0, none⟩) | 1 => v = mat9 M | 2 => v = mat9 J | 3 => v = .pointer (some ⟨w.heap.size, 0, none⟩) | 4 => v = mat9 M | 5 => v = .agg #[.int .i64 hi, .int .u64 lo] | _ => True) := ⟨_, rfl⟩
    have G0 : Hid (∀ v, G 0 v ↔ v = .pointer (some ⟨w.heap.size, 0, none⟩)) := fun v => by rw [hG]; exact Iff.rfl
    have G1 : Hid (∀ v, G 1 v ↔ v = mat9 M) := fun v => by rw [hG]; exact Iff.rfl
    have G2 : Hid (∀ v, G 2 v ↔ v = mat9 J) := fun v => by rw [hG]; exact Iff.rfl
    have G3 : Hid (∀ v, G 3 v ↔ v = .pointer (some ⟨w.heap.size, 0, none⟩)) := fun v => by rw [hG]; exact Iff.rfl
    have G4 : Hid (∀ v, G 4 v ↔ v = mat9 M) := fun v => by rw [hG]; exact Iff.rfl
    have G5 : Hid (∀ v, G 5 v ↔ v = .agg #[.int .i64 hi, .int .u64 lo]) := fun v => by rw [hG]; exact Iff.rfl
    have G6 : Hid (∀ v, G 6 v) := fun v => by rw [hG]; trivial
    have G7 : Hid (∀ v, G 7 v) := fun v => by rw [hG]; trivial
    have G8 : Hid (∀ v, G 8 v) := fun v => by rw [hG]; trivial
    have G9 : Hid (∀ v, G 9 v) := fun v => by rw [hG]; trivial
    clear hG
    obtain ⟨B, hB⟩ : ∃ B : TwoB, B = ⟨6, 7, 8, 9, 9, 2, c9 J, [.int .i64 hi, .int .u64 lo]⟩ := ⟨_, rfl⟩
    have BA1 : B.A1 = 6 := by rw [hB]
    have BA2 : B.A2 = 7 := by rw [hB]
    have BS1 : B.S1 = 8 := by rw [hB]
    have BS2 : B.S2 = 9 := by rw [hB]
    have Bn1 : B.n1 = 9 := by rw [hB]
    have Bn2 : B.n2 = 2 := by rw [hB]
    have BL1 : B.L1 = c9 J := by rw [hB]
    have BL2 : B.L2 = [.int .i64 hi, .int .u64 lo] := by rw [hB]
    have HB := hide (And.intro BA1 (And.intro BA2 (And.intro BS1 BS2)))
    refine region_opsV (fun _ wx => Below w2.heap.size w2 wx) (bxF B w2 G) (by kernel_rfl) (by kernel_rfl) (by kernel_rfl) (by kernel_rfl) ((Below.refl _ _).drew) ?_ ?_
    · refine ⟨?_, ?_, ?_, ?_, ?_, ?_, ?_, ?_, ?_, ?_, trivial⟩
      ·
        intro u w21 au hsl hel hu hF hp' K hK
        have t1 : au.tmps[1]?.getD undef = .pointer (some ⟨w.heap.size, 0, none⟩) := (hel.out 1 (by kernel_rfl)).trans (by kernel_rfl)
        refine step_plain rfl ?_
        go_simp
        exact hK.out (.pointer (some ⟨w.heap.size, 0, none⟩)) _ (hF) (bxF_val ((G0.out _).2 rfl) (by rw [BA1]; decide) (by rw [BA2]; decide) (by rw [BS1]; decide) (by rw [BS2]; decide)) (fun j hj hf h => bxF_up (Below.refl _ _) 0 _ j hj (fun _ => by rw [BA1]; decide) (fun _ => by rw [BA2]; decide) h)
      ·
        intro u w21 au hsl hel hu hF hp' K hK
        have h0 : u 0 = .pointer (some ⟨w.heap.size, 0, none⟩) := (G0.out _).1 (PreF.get hp' 0 (by kernel_rfl)).1
        have t9 : au.tmps[9]?.getD undef = u 0 := hsl.out 0 9 (by kernel_rfl)
        rw [h0] at t9
        have bx := (HS2.out.next hF).bxAt 1 rfl
        obtain ⟨x0, -⟩ := bx 0 _ rfl
        obtain ⟨x1, -⟩ := bx 1 _ rfl
        obtain ⟨x2, -⟩ := bx 2 _ rfl
        obtain ⟨x3, -⟩ := bx 3 _ rfl
        obtain ⟨x4, -⟩ := bx 4 _ rfl
        obtain ⟨x5, -⟩ := bx 5 _ rfl
        obtain ⟨x6, -⟩ := bx 6 _ rfl
        obtain ⟨x7, -⟩ := bx 7 _ rfl
        obtain ⟨x8, -⟩ := bx 8 _ rfl
        clear bx
        refine step_plain rfl ?_
        go_simp
        exact hK.out (mat9 M) _ (hF) (bxF_val ((G1.out _).2 rfl) (by rw [BA1]; decide) (by rw [BA2]; decide) (by rw [BS1]; decide) (by rw [BS2]; decide)) (fun j hj hf h => bxF_up (Below.refl _ _) 1 _ j hj (fun _ => by rw [BA1]; decide) (fun _ => by rw [BA2]; decide) h)
      ·
        intro u w21 au hsl hel hu hF hp' K hK
        have h1 : u 1 = mat9 M := (G1.out _).1 (PreF.get hp' 1 (by kernel_rfl)).1
        have t10 : au.tmps[10]?.getD undef = u 1 := hsl.out 1 10 (by kernel_rfl)
        rw [h1] at t10
        have c := cA w21
        refine step_plain rfl ?_
        go_simp
        refine c.mono ?_
        rintro e w22 ⟨rfl, hb9⟩
        exact hK.out (mat9 J) _ (bnext hF (Nat.le_refl _) hb9) (bxF_val ((G2.out _).2 rfl) (by rw [BA1]; decide) (by rw [BA2]; decide) (by rw [BS1]; decide) (by rw [BS2]; decide)) (fun j hj hf h => bxF_up hb9 2 _ j hj (fun _ => by rw [BA1]; decide) (fun _ => by rw [BA2]; decide) h)
      ·
        intro u w21 au hsl hel hu hF hp' K hK
        have t1 : au.tmps[1]?.getD undef = .pointer (some ⟨w.heap.size, 0, none⟩) := (hel.out 1 (by kernel_rfl)).trans (by kernel_rfl)
        refine step_plain rfl ?_
        go_simp
        exact hK.out (.pointer (some ⟨w.heap.size, 0, none⟩)) _ (hF) (bxF_val ((G3.out _).2 rfl) (by rw [BA1]; decide) (by rw [BA2]; decide) (by rw [BS1]; decide) (by rw [BS2]; decide)) (fun j hj hf h => bxF_up (Below.refl _ _) 3 _ j hj (fun _ => by rw [BA1]; decide) (fun _ => by rw [BA2]; decide) h)
      ·
        intro u w21 au hsl hel hu hF hp' K hK
        have h3 : u 3 = .pointer (some ⟨w.heap.size, 0, none⟩) := (G3.out _).1 (PreF.get hp' 3 (by kernel_rfl)).1
        have t12 : au.tmps[12]?.getD undef = u 3 := hsl.out 3 12 (by kernel_rfl)
        rw [h3] at t12
        have bx := (HS2.out.next hF).bxAt 1 rfl
        obtain ⟨x0, -⟩ := bx 0 _ rfl
        obtain ⟨x1, -⟩ := bx 1 _ rfl
        obtain ⟨x2, -⟩ := bx 2 _ rfl
        obtain ⟨x3, -⟩ := bx 3 _ rfl
        obtain ⟨x4, -⟩ := bx 4 _ rfl
        obtain ⟨x5, -⟩ := bx 5 _ rfl
        obtain ⟨x6, -⟩ := bx 6 _ rfl
        obtain ⟨x7, -⟩ := bx 7 _ rfl
        obtain ⟨x8, -⟩ := bx 8 _ rfl
        clear bx
        refine step_plain rfl ?_
        go_simp
        exact hK.out (mat9 M) _ (hF) (bxF_val ((G4.out _).2 rfl) (by rw [BA1]; decide) (by rw [BA2]; decide) (by rw [BS1]; decide) (by rw [BS2]; decide)) (fun j hj hf h => bxF_up (Below.refl _ _) 4 _ j hj (fun _ => by rw [BA1]; decide) (fun _ => by rw [BA2]; decide) h)
      ·
        intro u w21 au hsl hel hu hF hp' K hK
        have h4 : u 4 = mat9 M := (G4.out _).1 (PreF.get hp' 4 (by kernel_rfl)).1
        have t13 : au.tmps[13]?.getD undef = u 4 := hsl.out 4 13 (by kernel_rfl)
        rw [h4] at t13
        have c := cW w21
        refine step_plain rfl ?_
        go_simp
        refine c.mono ?_
        rintro e w22 ⟨rfl, hb9⟩
        exact hK.out (.agg #[.int .i64 hi, .int .u64 lo]) _ (bnext hF (Nat.le_refl _) hb9) (bxF_val ((G5.out _).2 rfl) (by rw [BA1]; decide) (by rw [BA2]; decide) (by rw [BS1]; decide) (by rw [BS2]; decide)) (fun j hj hf h => bxF_up hb9 5 _ j hj (fun _ => by rw [BA1]; decide) (fun _ => by rw [BA2]; decide) h)
      ·
        intro u w21 au hsl hel hu hF hp' K hK
        have hb := bnew w21 (.cells #[.int .i64 0, .int .i64 0, .int .i64 0, .int .i64 0, .int .i64 0, .int .i64 0, .int .i64 0, .int .i64 0, .int .i64 0] 44)
        have HX := hide (BxZ.new [.int .i64 0, .int .i64 0, .int .i64 0, .int .i64 0, .int .i64 0, .int .i64 0, .int .i64 0, .int .i64 0, .int .i64 0] 44 w21)
        refine step_plain rfl ?_
        go_simp
        exact hK.out (.pointer (some ⟨w21.heap.size, 0, none⟩)) _ (hF.alloc hF.size _) ⟨G6.out _, (fun _ => ⟨_, _, by rw [BA1]; exact upU_same _ _ _, hF.size, by rw [Bn1]; rfl, HX.out⟩), (fun e => by rw [BA2] at e; exact absurd e (by decide)), (fun e => by rw [BS1] at e; exact absurd e (by decide)), (fun e => by rw [BS2] at e; exact absurd e (by decide))⟩ (fun j hj hf h => bxF_up hb 6 _ j hj (fun e => by rw [BS1] at e; subst e; exact absurd (Eq.trans (Eq.symm (by kernel_rfl)) hf) Bool.false_ne_true) (fun _ => by rw [BA2]; decide) h)
      ·
        intro u w21 au hsl hel hu hF hp' K hK
        have hb := bnew w21 (.cells #[.int .i64 0, .int .u64 0] 55)
        have HX := hide (BxZ.new [.int .i64 0, .int .u64 0] 55 w21)
        refine step_plain rfl ?_
        go_simp
        exact hK.out (.pointer (some ⟨w21.heap.size, 0, none⟩)) _ (hF.alloc hF.size _) ⟨G7.out _, (fun e => by rw [BA1] at e; exact absurd e (by decide)), (fun _ => ⟨_, _, by rw [BA2]; exact upU_same _ _ _, hF.size, by rw [Bn2]; rfl, HX.out⟩), (fun e => by rw [BS1] at e; exact absurd e (by decide)), (fun e => by rw [BS2] at e; exact absurd e (by decide))⟩ (fun j hj hf h => bxF_up hb 7 _ j hj (fun _ => by rw [BA1]; decide) (fun e => by rw [BS2] at e; subst e; exact absurd (Eq.trans (Eq.symm (by kernel_rfl)) hf) Bool.false_ne_true) h)
      ·
        intro u w21 au hsl hel hu hF hp' K hK
        obtain ⟨Q, vs, hM1, hM2, hM3, hM4⟩ := (PreF.get hp' 6 (by kernel_rfl)).2.1 BA1.symm
        obtain ⟨P, ps, hP1, hP2, hP3, hP4⟩ := (PreF.get hp' 7 (by kernel_rfl)).2.2.1 BA2.symm
        rw [Bn1] at hM3
        rw [Bn2] at hP3
        have hM1' : u 6 = .pointer (some ⟨Q, 0, none⟩) := by rw [BA1] at hM1; exact hM1
        have hP1' : u 7 = .pointer (some ⟨P, 0, none⟩) := by rw [BA2] at hP1; exact hP1
        have h2 : u 2 = mat9 J := (G2.out _).1 (PreF.get hp' 2 (by kernel_rfl)).1
        have t11 : au.tmps[11]?.getD undef = u 2 := hsl.out 2 11 (by kernel_rfl)
        rw [h2] at t11
        have t3 : au.tmps[3]?.getD undef = u 6 := hsl.out 6 3 (by kernel_rfl)
        rw [hM1'] at t3
        have hne : P ≠ Q := hP4.ne hM4 (by omega)
        have hth : w21.there Q 0 9 := by have := hM4.there; rwa [hM3] at this
        refine step_plain rfl ?_
        refine wp_store_mid _ _ _ rfl Q 0 (c9 J).toArray ((eval_tmp au 3).trans t3) ((eval_tmp au 11).trans t11) hth (by kernel_rfl) (by kernel_rfl) ?_
        exact hK.out (.int .i64 0) _ (belowSets hM2 _ _ hF) ⟨G8.out _, (fun e => by rw [BA1] at e; exact absurd e (by decide)), (fun e => by rw [BA2] at e; exact absurd e (by decide)), (fun _ => ⟨Q, by rw [BA1]; exact (upU_other u _ (by decide)).trans hM1', by rw [BL1]; exact hM4.sets _ hM3⟩), (fun e => by rw [BS2] at e; exact absurd e (by decide))⟩ (fun j hj _ h => bxF_put hM1 hP1 8 (.inl BS1.symm) (by rw [BA1]; decide) (by rw [BA2]; decide) _ (fun vs' h' => ⟨c9 J, (hM3.symm.trans (hM4.len h')), h'.sets (c9 J) ((h'.len hM4).trans hM3), fun e => by rw [BS2] at e; exact absurd e (by decide)⟩) (fun vs' h' => ⟨vs', rfl, h'.same (heapSets hne _ _ _), fun _ => rfl⟩) j hj h)
      ·
        intro u w21 au hsl hel hu hF hp' K hK
        obtain ⟨Q, vs, hM1, hM2, hM3, hM4⟩ := (PreF.get hp' 6 (by kernel_rfl)).2.1 BA1.symm
        obtain ⟨P, ps, hP1, hP2, hP3, hP4⟩ := (PreF.get hp' 7 (by kernel_rfl)).2.2.1 BA2.symm
        rw [Bn1] at hM3
        rw [Bn2] at hP3
        have hM1' : u 6 = .pointer (some ⟨Q, 0, none⟩) := by rw [BA1] at hM1; exact hM1
        have hP1' : u 7 = .pointer (some ⟨P, 0, none⟩) := by rw [BA2] at hP1; exact hP1
        have h5 : u 5 = .agg #[.int .i64 hi, .int .u64 lo] := (G5.out _).1 (PreF.get hp' 5 (by kernel_rfl)).1
        have t14 : au.tmps[14]?.getD undef = u 5 := hsl.out 5 14 (by kernel_rfl)
        rw [h5] at t14
        have t4 : au.tmps[4]?.getD undef = u 7 := hsl.out 7 4 (by kernel_rfl)
        rw [hP1'] at t4
        have hne : Q ≠ P := hM4.ne hP4 (by omega)
        have hth : w21.there P 0 2 := by have := hP4.there; rwa [hP3] at this
        refine step_plain rfl ?_
        refine wp_store_mid _ _ _ rfl P 0 #[.int .i64 hi, .int .u64 lo] ((eval_tmp au 4).trans t4) ((eval_tmp au 14).trans t14) hth (by kernel_rfl) (by kernel_rfl) ?_
        exact hK.out (.int .i64 0) _ (belowSets hP2 _ _ hF) ⟨G9.out _, (fun e => by rw [BA1] at e; exact absurd e (by decide)), (fun e => by rw [BA2] at e; exact absurd e (by decide)), (fun e => by rw [BS1] at e; exact absurd e (by decide)), (fun _ => ⟨P, by rw [BA2]; exact (upU_other u _ (by decide)).trans hP1', by rw [BL2]; exact hP4.sets _ hP3⟩)⟩ (fun j hj _ h => bxF_put hM1 hP1 9 (.inr BS2.symm) (by rw [BA1]; decide) (by rw [BA2]; decide) _ (fun vs' h' => ⟨vs', rfl, h'.same (heapSets hne _ _ _), fun _ => rfl⟩) (fun vs' h' => ⟨[.int .i64 hi, .int .u64 lo], (hP3.symm.trans (hP4.len h')), h'.sets _ ((h'.len hP4).trans hP3), fun e => by rw [BS1] at e; exact absurd e (by decide)⟩) j hj h)
    · intro u w30 hF hall
      obtain ⟨Q, P, hQ, hP, hst⟩ := bxF_end HS2.out hF (by rw [BA1]; exact hall 6 (by decide)) (by rw [BA2]; exact hall 7 (by decide)) (by rw [BS1]; exact hall 8 (by decide)) (by rw [BS2]; exact hall 9 (by decide)) (by rw [BL1, BL2]; simp [c9])
      rw [BA1] at hQ
      rw [BA2] at hP
      rw [BL1, BL2] at hst
      have HST := hide hst
      clear hF hall hst
      simp only [rgPut, Act.put, hQ, hP]
      clear hQ hP
      go_simp
      go_wp2_with fail
      go_meet
      exact ⟨Q, P, rfl, rfl, HST.out⟩
  case rest =>
    obtain ⟨Q, P, rfl, rfl, hst⟩ := hcut
    obtain ⟨w3, hwc⟩ : ∃ wn, wn = wc := ⟨_, rfl⟩
    rw [← hwc] at hst
    rw [← hwc]
    have HS3 := hide hst
    clear hst hwc HS2 cA cW
    have p0 := HS3.out.cell 0 rfl 0 rfl
    have p1 := HS3.out.cell 0 rfl 1 rfl
    go_wp2_with fail
    refine (cG _).mono ?_
    rintro e w4 ⟨rfl, hb⟩
    have HS4 := hide (HS3.out.next hb)
    clear hb HS3 cG p0 p1
    go_upto_region 3 with fail
    go_cut [6] (fun s6 wc => ∃ R, s6 = .pointer (some ⟨R, 0, none⟩) ∧ St w [(R, c13 (hy FF 0) V E), (P, [.int .i64 hi, .int .u64 lo]), (Q, c9 J), (w.heap.size + 1, c13 (fun _ => 0) (fun _ => 0) 0), (w.heap.size, c13 M T D)] [] wc)
    case first =>
      obtain ⟨G, hG⟩ : ∃ G : Nat → Value → Prop, G = (fun j v => match j with | 0 => v = mat9 J | 1 => v = .pointer (some ⟨w.heap.size, 9, none⟩) | 2 => v = vec3 T | 3 => v = vec3 U | 4 => v = .int .i64 s | 5 => v = .int .i64 ns | 6 => v = vec3 V | 7 => v = .pointer (some ⟨P, 1, none⟩) | 8 => v = .int .u64 lo | 9 => v = .int .i64 d | 10 => v = .int .i64 s | 11 => v = .int .i64 E | 12 => v = .agg #[.int .i64 0, .int .i64 0, .int .i64 0, .int .i64 0, .int .i64 0, .int .i64 0, .int .i64 0, .int .i64 0, .int .i64 0, .int .i64 (V 0), .int .i64 (V 1), .int .i64 (V 2), .int .i64 E] | _ => True) := ⟨_, rfl⟩
      have G0 : Hid (∀ v, G 0 v ↔ v = mat9 J) := fun v => by rw [hG]; exact Iff.rfl
      have G1 : Hid (∀ v, G 1 v ↔ v = .pointer (some ⟨w.heap.size, 9, none⟩)) := fun v => by rw [hG]; exact Iff.rfl
      have G2 : Hid (∀ v, G 2 v ↔ v = vec3 T) := fun v => by rw [hG]; exact Iff.rfl
      have G3 : Hid (∀ v, G 3 v ↔ v = vec3 U) := fun v => by rw [hG]; exact Iff.rfl
      have G4 : Hid (∀ v, G 4 v ↔ v = .int .i64 s) := fun v => by rw [hG]; exact Iff.rfl
      have G5 : Hid (∀ v, G 5 v ↔ v = .int .i64 ns) := fun v => by rw [hG]; exact Iff.rfl
      have G6 : Hid (∀ v, G 6 v ↔ v = vec3 V) := fun v => by rw [hG]; exact Iff.rfl
      have G7 : Hid (∀ v, G 7 v ↔ v = .pointer (some ⟨P, 1, none⟩)) := fun v => by rw [hG]; exact Iff.rfl
      have G8 : Hid (∀ v, G 8 v ↔ v = .int .u64 lo) := fun v => by rw [hG]; exact Iff.rfl
      have G9 : Hid (∀ v, G 9 v ↔ v = .int .i64 d) := fun v => by rw [hG]; exact Iff.rfl
      have G10 : Hid (∀ v, G 10 v ↔ v = .int .i64 s) := fun v => by rw [hG]; exact Iff.rfl
      have G11 : Hid (∀ v, G 11 v ↔ v = .int .i64 E) := fun v => by rw [hG]; exact Iff.rfl
      have G12 : Hid (∀ v, G 12 v ↔ v = .agg #[.int .i64 0, .int .i64 0, .int .i64 0, .int .i64 0, .int .i64 0, .int .i64 0, .int .i64 0, .int .i64 0, .int .i64 0, .int .i64 (V 0), .int .i64 (V 1), .int .i64 (V 2), .int .i64 E]) := fun v => by rw [hG]; exact Iff.rfl
      have G13 : Hid (∀ v, G 13 v) := fun v => by rw [hG]; trivial
      have G14 : Hid (∀ v, G 14 v) := fun v => by rw [hG]; trivial
      clear hG
      obtain ⟨PX, hPX⟩ : ∃ P : Nat → World → Prop, P = (fun q wx => Bx q (c13 (fun _ => 0) V E) wx) := ⟨_, rfl⟩
      have HPX : Hid (∀ (q : Nat) (wx wy : World), Below wx.heap.size wx wy → PX q wx → PX q wy) := by
        intro q wx wy hb hp
        rw [hPX] at hp ⊢
        exact hp.below hb hp.lt
      refine region_opsV (bR 13 14 (.int .i64 0) [.int .i64 0, .int .i64 0, .int .i64 0, .int .i64 0, .int .i64 0, .int .i64 0, .int .i64 0, .int .i64 0, .int .i64 0, .int .i64 0, .int .i64 0, .int .i64 0] w4) (bG 13 14 w4 G PX) (by kernel_rfl) (by kernel_rfl) (by kernel_rfl) (by kernel_rfl) ?_ ?_ ?_
      · refine ⟨(Below.refl _ _).drew, fun B hB hBB => ?_⟩
        have h := hB.symm.trans (show _ = undef by kernel_rfl)
        simp [undef] at h
      · refine ⟨?_, ?_, ?_, ?_, ?_, ?_, ?_, ?_, ?_, ?_, ?_, ?_, ?_, ?_, ?_, trivial⟩
        ·
          intro u w21 au hsl hel hu hF hp' K hK
          have t3 : au.tmps[3]?.getD undef = .pointer (some ⟨Q, 0, none⟩) := (hel.out 3 (by kernel_rfl)).trans (by kernel_rfl)
          have bx := (HS4.out.next hF.1).bxAt 1 rfl
          obtain ⟨x0, -⟩ := bx 0 _ rfl
          obtain ⟨x1, -⟩ := bx 1 _ rfl
          obtain ⟨x2, -⟩ := bx 2 _ rfl
          obtain ⟨x3, -⟩ := bx 3 _ rfl
          obtain ⟨x4, -⟩ := bx 4 _ rfl
          obtain ⟨x5, -⟩ := bx 5 _ rfl
          obtain ⟨x6, -⟩ := bx 6 _ rfl
          obtain ⟨x7, -⟩ := bx 7 _ rfl
          obtain ⟨x8, -⟩ := bx 8 _ rfl
          clear bx
          refine step_plain rfl ?_
          go_simp
          exact hK.out (mat9 J) _ (bR_up hF (Below.refl _ _) 0 (by omega) (by omega) _) (bG_val 0 (by omega) (by omega) ((G0.out _).2 rfl)) (fun j hj hf h => bG_up (fun M hM => HPX.out M _ _ (Below.refl _ _) hM) 0 (by omega) _ j hj h)
        ·
          intro u w21 au hsl hel hu hF hp' K hK
          have t1 : au.tmps[1]?.getD undef = .pointer (some ⟨w.heap.size, 0, none⟩) := (hel.out 1 (by kernel_rfl)).trans (by kernel_rfl)
          refine step_plain rfl ?_
          go_simp
          exact hK.out (.pointer (some ⟨w.heap.size, 9, none⟩)) _ (bR_up hF (Below.refl _ _) 1 (by omega) (by omega) _) (bG_val 1 (by omega) (by omega) ((G1.out _).2 rfl)) (fun j hj hf h => bG_up (fun M hM => HPX.out M _ _ (Below.refl _ _) hM) 1 (by omega) _ j hj h)
        ·
          intro u w21 au hsl hel hu hF hp' K hK
          have h1 : u 1 = .pointer (some ⟨w.heap.size, 9, none⟩) := (G1.out _).1 (PreF.get hp' 1 (by kernel_rfl)).1
          have t18 : au.tmps[18]?.getD undef = u 1 := hsl.out 1 18 (by kernel_rfl)
          rw [h1] at t18
          have bx := (HS4.out.next hF.1).bxAt 3 rfl
          obtain ⟨x9, -⟩ := bx 9 _ rfl
          obtain ⟨x10, -⟩ := bx 10 _ rfl
          obtain ⟨x11, -⟩ := bx 11 _ rfl
          clear bx
          refine step_plain rfl ?_
          go_simp
          exact hK.out (vec3 T) _ (bR_up hF (Below.refl _ _) 2 (by omega) (by omega) _) (bG_val 2 (by omega) (by omega) ((G2.out _).2 rfl)) (fun j hj hf h => bG_up (fun M hM => HPX.out M _ _ (Below.refl _ _) hM) 2 (by omega) _ j hj h)
        ·
          intro u w21 au hsl hel hu hF hp' K hK
          have h0 : u 0 = mat9 J := (G0.out _).1 (PreF.get hp' 0 (by kernel_rfl)).1
          have t17 : au.tmps[17]?.getD undef = u 0 := hsl.out 0 17 (by kernel_rfl)
          rw [h0] at t17
          have h2 : u 2 = vec3 T := (G2.out _).1 (PreF.get hp' 2 (by kernel_rfl)).1
          have t19 : au.tmps[19]?.getD undef = u 2 := hsl.out 2 19 (by kernel_rfl)
          rw [h2] at t19
          have c := cT w21
          refine step_plain rfl ?_
          go_simp
          refine c.mono ?_
          rintro e w22 ⟨rfl, hb9⟩
          exact hK.out (vec3 U) _ (bR_up hF hb9 3 (by omega) (by omega) _) (bG_val 3 (by omega) (by omega) ((G3.out _).2 rfl)) (fun j hj hf h => bG_up (fun M hM => HPX.out M _ _ hb9 hM) 3 (by omega) _ j hj h)
        ·
          intro u w21 au hsl hel hu hF hp' K hK
          have t5 : au.tmps[5]?.getD undef = .int .i64 s := (hel.out 5 (by kernel_rfl)).trans (by kernel_rfl)
          refine step_plain rfl ?_
          go_simp
          exact hK.out (.int .i64 s) _ (bR_up hF (Below.refl _ _) 4 (by omega) (by omega) _) (bG_val 4 (by omega) (by omega) ((G4.out _).2 rfl)) (fun j hj hf h => bG_up (fun M hM => HPX.out M _ _ (Below.refl _ _) hM) 4 (by omega) _ j hj h)
        ·
          intro u w21 au hsl hel hu hF hp' K hK
          have h4 : u 4 = .int .i64 s := (G4.out _).1 (PreF.get hp' 4 (by kernel_rfl)).1
          have t21 : au.tmps[21]?.getD undef = u 4 := hsl.out 4 21 (by kernel_rfl)
          rw [h4] at t21
          refine step_plain rfl ?_
          go_simp
          exact hK.out (.int .i64 ns) _ (bR_up hF (Below.refl _ _) 5 (by omega) (by omega) _) (bG_val 5 (by omega) (by omega) ((G5.out _).2 rfl)) (fun j hj hf h => bG_up (fun M hM => HPX.out M _ _ (Below.refl _ _) hM) 5 (by omega) _ j hj h)
        ·
          intro u w21 au hsl hel hu hF hp' K hK
          have h3 : u 3 = vec3 U := (G3.out _).1 (PreF.get hp' 3 (by kernel_rfl)).1
          have t20 : au.tmps[20]?.getD undef = u 3 := hsl.out 3 20 (by kernel_rfl)
          rw [h3] at t20
          have h5 : u 5 = .int .i64 ns := (G5.out _).1 (PreF.get hp' 5 (by kernel_rfl)).1
          have t22 : au.tmps[22]?.getD undef = u 5 := hsl.out 5 22 (by kernel_rfl)
          rw [h5] at t22
          have c := cC w21
          refine step_plain rfl ?_
          go_simp
          refine c.mono ?_
          rintro e w22 ⟨rfl, hb9⟩
          exact hK.out (vec3 V) _ (bR_up hF hb9 6 (by omega) (by omega) _) (bG_val 6 (by omega) (by omega) ((G6.out _).2 rfl)) (fun j hj hf h => bG_up (fun M hM => HPX.out M _ _ hb9 hM) 6 (by omega) _ j hj h)
        ·
          intro u w21 au hsl hel hu hF hp' K hK
          have t4 : au.tmps[4]?.getD undef = .pointer (some ⟨P, 0, none⟩) := (hel.out 4 (by kernel_rfl)).trans (by kernel_rfl)
          refine step_plain rfl ?_
          go_simp
          exact hK.out (.pointer (some ⟨P, 1, none⟩)) _ (bR_up hF (Below.refl _ _) 7 (by omega) (by omega) _) (bG_val 7 (by omega) (by omega) ((G7.out _).2 rfl)) (fun j hj hf h => bG_up (fun M hM => HPX.out M _ _ (Below.refl _ _) hM) 7 (by omega) _ j hj h)
        ·
          intro u w21 au hsl hel hu hF hp' K hK
          have h7 : u 7 = .pointer (some ⟨P, 1, none⟩) := (G7.out _).1 (PreF.get hp' 7 (by kernel_rfl)).1
          have t24 : au.tmps[24]?.getD undef = u 7 := hsl.out 7 24 (by kernel_rfl)
          rw [h7] at t24
          have bx := (HS4.out.next hF.1).bxAt 0 rfl
          obtain ⟨x1, -⟩ := bx 1 _ rfl
          clear bx
          refine step_plain rfl ?_
          go_simp
          exact hK.out (.int .u64 lo) _ (bR_up hF (Below.refl _ _) 8 (by omega) (by omega) _) (bG_val 8 (by omega) (by omega) ((G8.out _).2 rfl)) (fun j hj hf h => bG_up (fun M hM => HPX.out M _ _ (Below.refl _ _) hM) 8 (by omega) _ j hj h)
        ·
          intro u w21 au hsl hel hu hF hp' K hK
          have h8 : u 8 = .int .u64 lo := (G8.out _).1 (PreF.get hp' 8 (by kernel_rfl)).1
          have t25 : au.tmps[25]?.getD undef = u 8 := hsl.out 8 25 (by kernel_rfl)
          rw [h8] at t25
          refine step_plain rfl ?_
          go_simp
          exact hK.out (.int .i64 d) _ (bR_up hF (Below.refl _ _) 9 (by omega) (by omega) _) (bG_val 9 (by omega) (by omega) ((G9.out _).2 rfl)) (fun j hj hf h => bG_up (fun M hM => HPX.out M _ _ (Below.refl _ _) hM) 9 (by omega) _ j hj h)
        ·
          intro u w21 au hsl hel hu hF hp' K hK
          have t5 : au.tmps[5]?.getD undef = .int .i64 s := (hel.out 5 (by kernel_rfl)).trans (by kernel_rfl)
          refine step_plain rfl ?_
          go_simp
          exact hK.out (.int .i64 s) _ (bR_up hF (Below.refl _ _) 10 (by omega) (by omega) _) (bG_val 10 (by omega) (by omega) ((G10.out _).2 rfl)) (fun j hj hf h => bG_up (fun M hM => HPX.out M _ _ (Below.refl _ _) hM) 10 (by omega) _ j hj h)
        ·
          intro u w21 au hsl hel hu hF hp' K hK
          have h9 : u 9 = .int .i64 d := (G9.out _).1 (PreF.get hp' 9 (by kernel_rfl)).1
          have t26 : au.tmps[26]?.getD undef = u 9 := hsl.out 9 26 (by kernel_rfl)
          rw [h9] at t26
          have h10 : u 10 = .int .i64 s := (G10.out _).1 (PreF.get hp' 10 (by kernel_rfl)).1
          have t27 : au.tmps[27]?.getD undef = u 10 := hsl.out 10 27 (by kernel_rfl)
          rw [h10] at t27
          refine step_plain rfl ?_
          go_simp
          exact hK.out (.int .i64 E) _ (bR_up hF (Below.refl _ _) 11 (by omega) (by omega) _) (bG_val 11 (by omega) (by omega) ((G11.out _).2 rfl)) (fun j hj hf h => bG_up (fun M hM => HPX.out M _ _ (Below.refl _ _) hM) 11 (by omega) _ j hj h)
        ·
          intro u w21 au hsl hel hu hF hp' K hK
          have h6 : u 6 = vec3 V := (G6.out _).1 (PreF.get hp' 6 (by kernel_rfl)).1
          have t23 : au.tmps[23]?.getD undef = u 6 := hsl.out 6 23 (by kernel_rfl)
          rw [h6] at t23
          have h11 : u 11 = .int .i64 E := (G11.out _).1 (PreF.get hp' 11 (by kernel_rfl)).1
          have t28 : au.tmps[28]?.getD undef = u 11 := hsl.out 11 28 (by kernel_rfl)
          rw [h11] at t28
          unfold vec3 at t23
          refine step_plain rfl ?_
          go_simp
          exact hK.out (.agg #[.int .i64 0, .int .i64 0, .int .i64 0, .int .i64 0, .int .i64 0, .int .i64 0, .int .i64 0, .int .i64 0, .int .i64 0, .int .i64 (V 0), .int .i64 (V 1), .int .i64 (V 2), .int .i64 E]) _ (bR_up hF (Below.refl _ _) 12 (by omega) (by omega) _) (bG_val 12 (by omega) (by omega) ((G12.out _).2 rfl)) (fun j hj hf h => bG_up (fun M hM => HPX.out M _ _ (Below.refl _ _) hM) 12 (by omega) _ j hj h)
        ·
          intro u w21 au hsl hel hu hF hp' K hK
          have HX := hide (Bx.new [.int .i64 0, .int .i64 0, .int .i64 0, .int .i64 0, .int .i64 0, .int .i64 0, .int .i64 0, .int .i64 0, .int .i64 0, .int .i64 0, .int .i64 0, .int .i64 0, .int .i64 0] 48 w21)
          refine step_plain rfl ?_
          go_simp
          exact hK.out (.pointer (some ⟨w21.heap.size, 0, none⟩)) _ (bR_al hF HX.out) (bG_ptr (by omega) (G13.out) hF.1.size) (fun j hj hf h => bG_al j hj (fun e => by subst e; exact absurd (Eq.trans (Eq.symm (by kernel_rfl)) hf) Bool.false_ne_true) h)
        ·
          intro u w21 au hsl hel hu hF hp' K hK
          have h7 : u 14 = undef := (hu.out 14 (by decide) (.inl rfl)).trans (by kernel_rfl)
          have h12 : u 12 = .agg #[.int .i64 0, .int .i64 0, .int .i64 0, .int .i64 0, .int .i64 0, .int .i64 0, .int .i64 0, .int .i64 0, .int .i64 0, .int .i64 (V 0), .int .i64 (V 1), .int .i64 (V 2), .int .i64 E] := (G12.out _).1 (PreF.get hp' 12 (by kernel_rfl)).1
          have t29 : au.tmps[29]?.getD undef = u 12 := hsl.out 12 29 (by kernel_rfl)
          rw [h12] at t29
          obtain ⟨R, hR, hRB⟩ := (PreF.get hp' 13 (by kernel_rfl)).2.1 rfl
          have t6 : au.tmps[6]?.getD undef = u 13 := hsl.out 13 6 (by kernel_rfl)
          rw [hR] at t6
          have hx := (hF.2 R hR hRB).resolve_left (fun hx => hx h7)
          have hth : w21.there R 0 13 := fun j hj => by
            obtain ⟨a1, a2⟩ := hx j _ (List.getElem?_eq_getElem (show j < ([.int .i64 0, .int .i64 0, .int .i64 0, .int .i64 0, .int .i64 0, .int .i64 0, .int .i64 0, .int .i64 0, .int .i64 0, .int .i64 0, .int .i64 0, .int .i64 0, .int .i64 0] : List Value).length from hj))
            rw [Nat.zero_add, a1, a2]
            exact ⟨rfl, rfl⟩
          refine step_plain rfl ?_
          refine wp_store_mid _ _ _ rfl R 0 (c13 (fun _ => 0) V E).toArray ((eval_tmp au 6).trans t6) ((eval_tmp au 29).trans t29) hth (by kernel_rfl) (by kernel_rfl) ?_
          have hX2 : Bx R (c13 (fun _ => 0) V E) (w21.setCells R 0 (c13 (fun _ => 0) V E)) := by
            exact (((((((((((((hx.set 0 _).set 1 _).set 2 _).set 3 _).set 4 _).set 5 _).set 6 _).set 7 _).set 8 _).set 9 _).set 10 _).set 11 _).set 12 _)
          exact hK.out (.bool true) _ (bR_st (belowSets hRB _ _ hF.1) (by simp [undef])) (bG_done (by omega) (G14.out) hR hRB (by rw [hPX]; exact hX2)) (fun j hj hf h => bG_st (by omega) j hj h)
      · intro u w30 hF hall
        obtain ⟨R, hR, hRB, hP⟩ := (hall 14 (by decide)).2.2 rfl
        rw [hPX] at hP
        have hst := (HS4.out.next hF.1).boxF hP (by have := HS4.out.below.size; omega) hP.lt (fun hm => by have := (HS4.out.lt R hm).2; omega)
        have HST := hide hst
        clear hF hall hst hP
        simp only [rgPut, Act.put, hR]
        clear hR
        go_simp
        go_wp2_with fail
        go_meet
        exact ⟨R, rfl, HST.out⟩
    case rest =>
      obtain ⟨R, rfl, hst⟩ := hcut
      obtain ⟨w5, hwc⟩ : ∃ wn, wn = wc := ⟨_, rfl⟩
      rw [← hwc] at hst
      rw [← hwc]
      have HS5 := hide hst
      clear hst hwc HS4 cT cC
      have q0 := HS5.out.cell 2 rfl 0 rfl
      have q1 := HS5.out.cell 2 rfl 1 rfl
      have q2 := HS5.out.cell 2 rfl 2 rfl
      have q3 := HS5.out.cell 2 rfl 3 rfl
      have q4 := HS5.out.cell 2 rfl 4 rfl
      have q5 := HS5.out.cell 2 rfl 5 rfl
      have q6 := HS5.out.cell 2 rfl 6 rfl
      have q7 := HS5.out.cell 2 rfl 7 rfl
      have q8 := HS5.out.cell 2 rfl 8 rfl
      go_wp2_with fail
      clear q0 q1 q2 q3 q4 q5 q6 q7 q8
      go_loopw [31] (fun i wr => ∃ k : Nat, k ≤ 9 ∧ i = .int .i64 k ∧ St w [(R, c13 (hy FF k) V E), (P, [.int .i64 hi, .int .u64 lo]), (Q, c9 J), (w.heap.size + 1, c13 (fun _ => 0) (fun _ => 0) 0), (w.heap.size, c13 M T D)] [] wr) (fun i _ => 9 - (intOf i).toNat)
      case atStart => exact ⟨0, by omega, rfl, HS5.out⟩
      case round =>
        obtain ⟨k, hk, rfl, hst⟩ := hrel
        have HS6 := hide hst
        clear hst HS5
        obtain ⟨w6, hw6⟩ : ∃ wn, wn = wr := ⟨_, rfl⟩
        rw [← hw6] at HS6
        rw [← hw6]
        clear hw6
        by_cases hlt : k < 9
        · have hkk : (k : Int) < 9 := by omega
          have ix := fun wx => mat9_ix J hlt wx
          unfold mat9 at ix
          have nd := mul_b12 (HJ.out k) (show -1000000 ≤ D ∧ D ≤ 1000000 by have := HD.out; omega)
          obtain ⟨X1, hX1⟩ : ∃ x, x = J k * D := ⟨_, rfl⟩
          rw [← hX1] at nd
          have v1 : IntKind.i64.wrap (J k * D) = X1 := by rw [IntKind.wrap_i64, ← hX1]; omega
          obtain ⟨X2, hX2⟩ : ∃ x, x = X1 * s := ⟨_, rfl⟩
          have v2 : IntKind.i64.wrap (X1 * s) = X2 := by rw [IntKind.wrap_i64, ← hX2]; rcases HSG.out with e | e <;> rw [e] at hX2 <;> omega
          have HX : Hid (X2 = FF k) := by show _ = _; rw [HFF.out, hX2, hX1, Int.mul_comm]; rfl
          have HSN : Hid (St w [(R, c13 (hy FF (k + 1)) V E), (P, [.int .i64 hi, .int .u64 lo]), (Q, c9 J), (w.heap.size + 1, c13 (fun _ => 0) (fun _ => 0) 0), (w.heap.size, c13 M T D)] [] (w6.setCell ⟨R, k, none⟩ (.int .i64 X2))) := by
            have h := St.fill (L1 := []) HS6.out k (.int .i64 X2)
            rw [HX.out, List.nil_append, c13_hy FF V E hlt] at h
            rw [HX.out]
            exact h
          have oc := HS6.out.cell 0 rfl k (c13_at _ _ _ hlt)
          have of := HS6.out.free 0 rfl k (c13_at _ _ _ hlt)
          have sc := HS6.out.cell 4 rfl 12 rfl
          clear hX1 hX2 nd HX
          go_wp2_with fail
          exact ⟨⟨k + 1, by omega, by simp, HSN.out⟩, by simp [intOf] <;> omega⟩
        · have hkk : ¬ (k : Int) < 9 := by omega
          have HS7 : Hid (St w [(R, c13 FF V E), (P, [.int .i64 hi, .int .u64 lo]), (Q, c9 J), (w.heap.size + 1, c13 (fun _ => 0) (fun _ => 0) 0), (w.heap.size, c13 M T D)] [] w6) := by
            have h := HS6.out
            rw [show k = 9 by omega] at h
            exact h
          clear HS6
          have x0 := HS7.out.cell 0 rfl 0 rfl
          have z0 := HS7.out.cell 3 rfl 0 rfl
          have y0 := HS7.out.free 3 rfl 0 rfl
          have x1 := HS7.out.cell 0 rfl 1 rfl
          have z1 := HS7.out.cell 3 rfl 1 rfl
          have y1 := HS7.out.free 3 rfl 1 rfl
          have x2 := HS7.out.cell 0 rfl 2 rfl
          have z2 := HS7.out.cell 3 rfl 2 rfl
          have y2 := HS7.out.free 3 rfl 2 rfl
          have x3 := HS7.out.cell 0 rfl 3 rfl
          have z3 := HS7.out.cell 3 rfl 3 rfl
          have y3 := HS7.out.free 3 rfl 3 rfl
          have x4 := HS7.out.cell 0 rfl 4 rfl
          have z4 := HS7.out.cell 3 rfl 4 rfl
          have y4 := HS7.out.free 3 rfl 4 rfl
          have x5 := HS7.out.cell 0 rfl 5 rfl
          have z5 := HS7.out.cell 3 rfl 5 rfl
          have y5 := HS7.out.free 3 rfl 5 rfl
          have x6 := HS7.out.cell 0 rfl 6 rfl
          have z6 := HS7.out.cell 3 rfl 6 rfl
          have y6 := HS7.out.free 3 rfl 6 rfl
          have x7 := HS7.out.cell 0 rfl 7 rfl
          have z7 := HS7.out.cell 3 rfl 7 rfl
          have y7 := HS7.out.free 3 rfl 7 rfl
          have x8 := HS7.out.cell 0 rfl 8 rfl
          have z8 := HS7.out.cell 3 rfl 8 rfl
          have y8 := HS7.out.free 3 rfl 8 rfl
          have x9 := HS7.out.cell 0 rfl 9 rfl
          have z9 := HS7.out.cell 3 rfl 9 rfl
          have y9 := HS7.out.free 3 rfl 9 rfl
          have x10 := HS7.out.cell 0 rfl 10 rfl
          have z10 := HS7.out.cell 3 rfl 10 rfl
          have y10 := HS7.out.free 3 rfl 10 rfl
          have x11 := HS7.out.cell 0 rfl 11 rfl
          have z11 := HS7.out.cell 3 rfl 11 rfl
          have y11 := HS7.out.free 3 rfl 11 rfl
          have x12 := HS7.out.cell 0 rfl 12 rfl
          have z12 := HS7.out.cell 3 rfl 12 rfl
          have y12 := HS7.out.free 3 rfl 12 rfl
          have HB := hide (((((((((((((HS7.out.below.setCell (p := ⟨w.heap.size + 1, 0, none⟩) (show w.heap.size ≤ w.heap.size + 1 by omega) (.int .i64 (FF 0))).setCell (p := ⟨w.heap.size + 1, 1, none⟩) (show w.heap.size ≤ w.heap.size + 1 by omega) (.int .i64 (FF 1))).setCell (p := ⟨w.heap.size + 1, 2, none⟩) (show w.heap.size ≤ w.heap.size + 1 by omega) (.int .i64 (FF 2))).setCell (p := ⟨w.heap.size + 1, 3, none⟩) (show w.heap.size ≤ w.heap.size + 1 by omega) (.int .i64 (FF 3))).setCell (p := ⟨w.heap.size + 1, 4, none⟩) (show w.heap.size ≤ w.heap.size + 1 by omega) (.int .i64 (FF 4))).setCell (p := ⟨w.heap.size + 1, 5, none⟩) (show w.heap.size ≤ w.heap.size + 1 by omega) (.int .i64 (FF 5))).setCell (p := ⟨w.heap.size + 1, 6, none⟩) (show w.heap.size ≤ w.heap.size + 1 by omega) (.int .i64 (FF 6))).setCell (p := ⟨w.heap.size + 1, 7, none⟩) (show w.heap.size ≤ w.heap.size + 1 by omega) (.int .i64 (FF 7))).setCell (p := ⟨w.heap.size + 1, 8, none⟩) (show w.heap.size ≤ w.heap.size + 1 by omega) (.int .i64 (FF 8))).setCell (p := ⟨w.heap.size + 1, 9, none⟩) (show w.heap.size ≤ w.heap.size + 1 by omega) (.int .i64 (V 0))).setCell (p := ⟨w.heap.size + 1, 10, none⟩) (show w.heap.size ≤ w.heap.size + 1 by omega) (.int .i64 (V 1))).setCell (p := ⟨w.heap.size + 1, 11, none⟩) (show w.heap.size ≤ w.heap.size + 1 by omega) (.int .i64 (V 2))).setCell (p := ⟨w.heap.size + 1, 12, none⟩) (show w.heap.size ≤ w.heap.size + 1 by omega) (.int .i64 (E)))
          clear HS7
          go_wp2_with fail
          exact bodyPost_ret (v := .agg #[.int .i64 (FF 0), .int .i64 (FF 1), .int .i64 (FF 2), .int .i64 (FF 3), .int .i64 (FF 4), .int .i64 (FF 5), .int .i64 (FF 6), .int .i64 (FF 7), .int .i64 (FF 8), .int .i64 (V 0), .int .i64 (V 1), .int .i64 (V 2), .int .i64 E]) (by simp [results, Try.results28, go_sem, z0, z1, z2, z3, z4, z5, z6, z7, z8, z9, z10, z11, z12]) rfl ⟨rfl, HB.out⟩

end Go.Proofs.Ytjdbiaoheoialaa

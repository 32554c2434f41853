/- Watershed, the specification. -/
import Derived.Test.YtekoioggamhlaaaWmi
import Derived.Test.YtekoioggamhlaaaWsn
import Derived.Test.YtekoioggamhlaaaBes
import Derived.Test.YtekoioggamhlaaaCbx
import Derived.Test.YtekoioggamhlaaaGry
import Derived.Test.YtekoioggamhlaaaCln
import Derived.Test.YtekoioggamhlaaaQup
import Derived.Deep.LoopGhost
import Derived.Deep.CutBlock
import Derived.Deep.AppendLies
import Derived.RangeFuncRecord
namespace Go.Proofs.Ytekoioggamhlaaa
open Go.RowKit

set_option maxRecDepth 100000 in
set_option maxHeartbeats 8000000 in
theorem specWatershed_any (W H : Int) (a : Option Addr) (n cap : Nat) (f : Nat → Int) (hl : n ≤ 1048576) (W' H' : Int) (a' : Option Addr) (n' cap' : Nat) (g : Nat → Int) (hl' : n' ≤ 1048576) (w : World) (h : Px a n f w) (h' : Px a' n' g w) :
    Calls Try.prog 7 #[im W H a n cap, im W' H' a' n' cap'] w (ImR (pickI (shdB W H n f W' H' n' g) W) (pickI (shdB W H n f W' H' n' g) H) (pickN (shdB W H n f W' H' n' g) n) (shdV W H n f g) w) := by
  have HS0 := hide ((((St.start w).box [.int .i64 W, .int .i64 H, .slice a n cap] 26).box' [.int .i64 W', .int .i64 H', .slice a' n' cap'] 26 (b := w.heap.size + 1) (by simp)).box' [.int .i64 0, .int .i64 0, .slice none 0 0] 26 (b := w.heap.size + 2) (by simp))
  have c0 := fun w' h => l9Grey_any W H 255 a n cap f hl w' h
  have c1 := fun w' h => l9Grey_any W' H' 255 a' n' cap' g hl' w' h
  have HP := hide h
  have HP' := hide h'
  clear h h'
  unfold shdB
  have HNN : Hid (gryB W H n f 255 = true → gryB W' H' n' g 255 = true → W = W' → H = H' → n' = n ∧ ((1 ≤ W ∧ W ≤ 64) ∧ (1 ≤ H ∧ H ≤ 64) ∧ (n : Int) = W * H ∧ 1 ≤ n ∧ n ≤ 4096)) := fun h1 h2 h3 h4 => by
    obtain ⟨-, x1, x2, x3, x4, x5, -⟩ := gryB_ok h1
    obtain ⟨-, y1, y2, y3, -⟩ := gryB_ok h2
    rw [← h3, ← h4] at y3
    exact ⟨by omega, x1, x2, x3, x4, x5⟩
  have HBD : Hid (gryB W H n f 255 = true → ∀ k, k < n → 0 ≤ f k ∧ f k ≤ 255) := fun h1 => (gryB_ok h1).2.2.2.2.2.2
  generalize gryB W H n f 255 = q1 at *
  generalize gryB W' H' n' g 255 = q2 at *
  obtain ⟨i0, i1, i2⟩ := HS0.out.im3 2 rfl
  have x0 := HP.out.below HS0.out.below
  cases q1
  · rw [Bool.false_and, pickI_f, pickI_f, pickN_f]
    clear HNN HBD HP HP' c1
    go_enter Try.func7, Try.ntmps7
    go_wp2_with fail
    refine (c0 _ x0).mono ?_
    rintro e w1 ⟨rfl, hb⟩
    have HS1 := hide (HS0.out.next hb)
    obtain ⟨z0, z1, z2⟩ := HS1.out.im3 0 rfl
    obtain ⟨e0, e1, e2⟩ := HS1.out.fr3 0 rfl
    clear hb HS0 c0 x0 i0 i1 i2
    go_wp2_with fail
    exact bodyPost_ret (v := im 0 0 none 0 0) (by simp [results, Try.results7, go_sem, z0, z1, z2]) rfl ((HS1.out.fill3 _ _ _).imN _)
  rw [Bool.true_and]
  have HBD2 := hide (HBD.out rfl)
  clear HBD
  go_enter Try.func7, Try.ntmps7
  go_wp2_with fail
  refine (c0 _ x0).mono ?_
  rintro e w1 ⟨rfl, hb⟩
  have HS1 := hide (HS0.out.next hb)
  clear hb HS0 c0 x0 i0 i1 i2
  obtain ⟨j0, j1, j2⟩ := HS1.out.im3 1 rfl
  have x1 := HP'.out.below HS1.out.below
  cases q2
  · rw [Bool.false_and, pickI_f, pickI_f, pickN_f]
    clear HNN HP HP' HBD2
    go_wp2_with fail
    refine (c1 _ x1).mono ?_
    rintro e w2 ⟨rfl, hb⟩
    have HS2 := hide (HS1.out.next hb)
    obtain ⟨z0, z1, z2⟩ := HS2.out.im3 0 rfl
    obtain ⟨e0, e1, e2⟩ := HS2.out.fr3 0 rfl
    clear hb HS1 c1 x1 j0 j1 j2
    go_wp2_with fail
    exact bodyPost_ret (v := im 0 0 none 0 0) (by simp [results, Try.results7, go_sem, z0, z1, z2]) rfl ((HS2.out.fill3 _ _ _).imN _)
  rw [Bool.true_and]
  go_wp2_with fail
  refine (c1 _ x1).mono ?_
  rintro e w2 ⟨rfl, hb⟩
  have HS2 := hide (HS1.out.next hb)
  clear hb HS1 c1 x1 j0 j1 j2
  obtain ⟨i0, i1, i2⟩ := HS2.out.im3 2 rfl
  obtain ⟨j0, j1, j2⟩ := HS2.out.im3 1 rfl
  obtain ⟨z0, z1, z2⟩ := HS2.out.im3 0 rfl
  obtain ⟨e0, e1, e2⟩ := HS2.out.fr3 0 rfl
  by_cases hq1 : W = W'
  case neg =>
    have qw : (W != W') = true := by simp [hq1]
    have qn : (W == W') = false := by simp [hq1]
    have HPK : Hid ((true && (decide (W = W') && decide (H = H'))) = false) := by show _ = _; simp [hq1]
    clear HNN HP HP' HBD2 hq1
    go_wp2_with fail
    refine bodyPost_ret (v := im 0 0 none 0 0) (by simp [results, Try.results7, go_sem, z0, z1, z2]) rfl ?_
    rw [HPK.out, pickI_f, pickI_f, pickN_f]
    exact (HS2.out.fill3 _ _ _).imN _
  by_cases hq2 : H = H'
  case neg =>
    have qw : (H != H') = true := by simp [hq2]
    have qn : (H == H') = false := by simp [hq2]
    have qv : (W == W') = true := by simp [hq1]
    have qv2 : (W != W') = false := by simp [hq1]
    have HPK : Hid ((true && (decide (W = W') && decide (H = H'))) = false) := by show _ = _; simp [hq2]
    clear HNN HP HP' HBD2 hq1 hq2
    go_wp2_with fail
    refine bodyPost_ret (v := im 0 0 none 0 0) (by simp [results, Try.results7, go_sem, z0, z1, z2]) rfl ?_
    rw [HPK.out, pickI_f, pickI_f, pickN_f]
    exact (HS2.out.fill3 _ _ _).imN _
  obtain ⟨rfl, hW, hH, hn, hn1, hn4⟩ := HNN.out (by trivial) (by trivial) hq1 hq2
  rw [show (decide (W = W') && decide (H = H')) = true by simp [hq1, hq2], pickI_t, pickI_t, pickN_t]
  subst hq1
  subst hq2
  have HNH : Hid ((n' : Int) = W * H ∧ (1 ≤ W ∧ W ≤ 64) ∧ (1 ≤ H ∧ H ≤ 64)) := ⟨hn, hW, hH⟩
  obtain ⟨b0, o0, rfl, -⟩ := HP.out.at (k := 0) (by omega)
  obtain ⟨b1, o1, rfl, -⟩ := HP'.out.at (k := 0) (by omega)
  clear HNN hn hW hH
  go_wp2_with fail
  clear i0 i1 i2 j0 j1 j2 z0 z1 z2 e0 e1 e2
  go_upto_region 3 with fail
  go_cut [5] (fun sl wc => ∃ N b3 c3, sl = .pointer (some ⟨N, 0, none⟩) ∧ St w [(N, [.int .i64 W, .int .i64 H, .slice (some ⟨b3, 0, none⟩) n' c3]), (w.heap.size + 2, [.int .i64 0, .int .i64 0, .slice none 0 0]), (w.heap.size + 1, [.int .i64 W, .int .i64 H, .slice (some ⟨b1, o1, none⟩) n' cap']), (w.heap.size, [.int .i64 W, .int .i64 H, .slice (some ⟨b0, o0, none⟩) n' cap])] [dcP b3 n' g] wc)
  case first =>
    obtain ⟨ti, hi1, hi2, hi3, hi4⟩ := info2
    have HI1 := hide hi1
    clear hi1
    obtain ⟨G, hG⟩ : ∃ G : Nat → Value → Prop, G = (fun j v => match j with | 0 => v = .pointer (some ⟨w.heap.size, 0, none⟩) | 1 => v = .int .i64 W | 2 => v = .pointer (some ⟨w.heap.size, 1, none⟩) | 3 => v = .int .i64 H | 5 => v = .pointer (some ⟨w.heap.size + 1, 2, none⟩) | 6 => v = .slice (some ⟨b1, o1, none⟩) n' cap' | _ => True) := ⟨_, rfl⟩
    have G0 : Hid (∀ v, G 0 v ↔ v = .pointer (some ⟨w.heap.size, 0, none⟩)) := fun v => by rw [hG]; exact Iff.rfl
    have G1 : Hid (∀ v, G 1 v ↔ v = .int .i64 W) := fun v => by rw [hG]; exact Iff.rfl
    have G2 : Hid (∀ v, G 2 v ↔ v = .pointer (some ⟨w.heap.size, 1, none⟩)) := fun v => by rw [hG]; exact Iff.rfl
    have G3 : Hid (∀ v, G 3 v ↔ v = .int .i64 H) := fun v => by rw [hG]; exact Iff.rfl
    have G5 : Hid (∀ v, G 5 v ↔ v = .pointer (some ⟨w.heap.size + 1, 2, none⟩)) := fun v => by rw [hG]; exact Iff.rfl
    have G6 : Hid (∀ v, G 6 v ↔ v = .slice (some ⟨b1, o1, none⟩) n' cap') := fun v => by rw [hG]; exact Iff.rfl
    have G4 : Hid (∀ v, G 4 v) := fun v => by rw [hG]; trivial
    have G7 : Hid (∀ v, G 7 v) := fun v => by rw [hG]; trivial
    have G8 : Hid (∀ v, G 8 v) := fun v => by rw [hG]; trivial
    have G9 : Hid (∀ v, G 9 v) := fun v => by rw [hG]; trivial
    have G10 : Hid (∀ v, G 10 v) := fun v => by rw [hG]; trivial
    clear hG
    refine region_opsV (crR w2) (crF w2 W H n' g G) (by kernel_rfl) (by kernel_rfl) (by kernel_rfl) (by kernel_rfl) ⟨(Below.refl _ _).drew, fun N hN => by
      have e : Value.pointer (some ⟨N, 0, none⟩) = undef := hN.symm.trans (by kernel_rfl)
      simp [undef] at e⟩ ?_ ?_
    · refine ⟨?_, ?_, ?_, ?_, ?_, ?_, ?_, ?_, ?_, ?_, ?_, trivial⟩
      · intro u w21 au hsl hel hu hF hp' K hK
        have t2 : au.tmps[2]?.getD undef = .pointer (some ⟨w.heap.size, 0, none⟩) := (hel.out 2 (by kernel_rfl)).trans (by kernel_rfl)
        refine step_plain rfl ?_
        go_simp
        exact hK.out (.pointer (some ⟨w.heap.size, 0, none⟩)) _ (crR_up hF (Below.refl _ _) 0 (by omega) _) (crF_val 0 (by omega) (by omega) (by omega) (by omega) (by omega) ((G0.out _).2 rfl)) (fun j hj hf h => crF_up (show 0 < n' by omega) (Below.refl _ _) 0 (by omega) (by omega) _ (fun e => by omega) j hj (fun e => by omega) h)
      · intro u w21 au hsl hel hu hF hp' K hK
        have h0 : u 0 = .pointer (some ⟨w.heap.size, 0, none⟩) := (G0.out _).1 (PreF.get hp' 0 (by kernel_rfl)).1
        have t40 : au.tmps[40]?.getD undef = u 0 := hsl.out 0 40 (by kernel_rfl)
        rw [h0] at t40
        have xc : w21.cell? ⟨w.heap.size, 0, none⟩ = some (.int .i64 W) := (HS2.out.next hF.1).cell 2 rfl 0 rfl
        refine step_plain rfl ?_
        go_simp
        exact hK.out (.int .i64 W) _ (crR_up hF (Below.refl _ _) 1 (by omega) _) (crF_val 1 (by omega) (by omega) (by omega) (by omega) (by omega) ((G1.out _).2 rfl)) (fun j hj hf h => crF_up (show 0 < n' by omega) (Below.refl _ _) 1 (by omega) (by omega) _ (fun e => by omega) j hj (fun e => by omega) h)
      · intro u w21 au hsl hel hu hF hp' K hK
        have t2 : au.tmps[2]?.getD undef = .pointer (some ⟨w.heap.size, 0, none⟩) := (hel.out 2 (by kernel_rfl)).trans (by kernel_rfl)
        refine step_plain rfl ?_
        go_simp
        exact hK.out (.pointer (some ⟨w.heap.size, 1, none⟩)) _ (crR_up hF (Below.refl _ _) 2 (by omega) _) (crF_val 2 (by omega) (by omega) (by omega) (by omega) (by omega) ((G2.out _).2 rfl)) (fun j hj hf h => crF_up (show 0 < n' by omega) (Below.refl _ _) 2 (by omega) (by omega) _ (fun e => by omega) j hj (fun e => by omega) h)
      · intro u w21 au hsl hel hu hF hp' K hK
        have h2 : u 2 = .pointer (some ⟨w.heap.size, 1, none⟩) := (G2.out _).1 (PreF.get hp' 2 (by kernel_rfl)).1
        have t42 : au.tmps[42]?.getD undef = u 2 := hsl.out 2 42 (by kernel_rfl)
        rw [h2] at t42
        have xc : w21.cell? ⟨w.heap.size, 1, none⟩ = some (.int .i64 H) := (HS2.out.next hF.1).cell 2 rfl 1 rfl
        refine step_plain rfl ?_
        go_simp
        exact hK.out (.int .i64 H) _ (crR_up hF (Below.refl _ _) 3 (by omega) _) (crF_val 3 (by omega) (by omega) (by omega) (by omega) (by omega) ((G3.out _).2 rfl)) (fun j hj hf h => crF_up (show 0 < n' by omega) (Below.refl _ _) 3 (by omega) (by omega) _ (fun e => by omega) j hj (fun e => by omega) h)
      · intro u w21 au hsl hel hu hF hp' K hK
        refine step_plain rfl ?_
        go_simp
        have hs := hF.1.size
        exact hK.out (.slice (some ⟨w21.heap.size, 0, none⟩) 0 0) _ (crR_up hF (bnew _ _) 4 (by omega) _) ⟨G4.out _, fun _ => .inr ⟨_, upU_same _ _ _, hs, World.alloc_heap_new _ _, fun N hN _ => by rw [upU_other _ _ (by omega)] at hN; exact Ne.symm (Nat.ne_of_lt (hF.2 N hN))⟩, fun e => by omega, fun e => by omega, fun e => by omega, fun e => by omega⟩ (fun j hj hf h => crF_up (show 0 < n' by omega) (bnew _ _) 4 (by omega) (by omega) _ (fun e => by omega) j hj (fun e => by omega) h)
      · intro u w21 au hsl hel hu hF hp' K hK
        have t3 : au.tmps[3]?.getD undef = .pointer (some ⟨w.heap.size + 1, 0, none⟩) := (hel.out 3 (by kernel_rfl)).trans (by kernel_rfl)
        refine step_plain rfl ?_
        go_simp
        exact hK.out (.pointer (some ⟨w.heap.size + 1, 2, none⟩)) _ (crR_up hF (Below.refl _ _) 5 (by omega) _) (crF_val 5 (by omega) (by omega) (by omega) (by omega) (by omega) ((G5.out _).2 rfl)) (fun j hj hf h => crF_up (show 0 < n' by omega) (Below.refl _ _) 5 (by omega) (by omega) _ (fun e => by omega) j hj (fun e => by omega) h)
      · intro u w21 au hsl hel hu hF hp' K hK
        have h5 : u 5 = .pointer (some ⟨w.heap.size + 1, 2, none⟩) := (G5.out _).1 (PreF.get hp' 5 (by kernel_rfl)).1
        have t45 : au.tmps[45]?.getD undef = u 5 := hsl.out 5 45 (by kernel_rfl)
        rw [h5] at t45
        have xc : w21.cell? ⟨w.heap.size + 1, 2, none⟩ = some (.slice (some ⟨b1, o1, none⟩) n' cap') := (HS2.out.next hF.1).cell 1 rfl 2 rfl
        refine step_plain rfl ?_
        go_simp
        exact hK.out (.slice (some ⟨b1, o1, none⟩) n' cap') _ (crR_up hF (Below.refl _ _) 6 (by omega) _) (crF_val 6 (by omega) (by omega) (by omega) (by omega) (by omega) ((G6.out _).2 rfl)) (fun j hj hf h => crF_up (show 0 < n' by omega) (Below.refl _ _) 6 (by omega) (by omega) _ (fun e => by omega) j hj (fun e => by omega) h)
      · intro u w21 au hsl hel hu hF hp' K hK
        have h7 : u 7 = undef := (hu.out 7 (by decide) (.inl rfl)).trans (by kernel_rfl)
        obtain ⟨e4, a1, a2, a3, a4⟩ := ((PreF.get hp' 4 (by kernel_rfl)).2.1 rfl).resolve_left (fun hh => hh h7)
        have h6 : u 6 = .slice (some ⟨b1, o1, none⟩) n' cap' := (G6.out _).1 (PreF.get hp' 6 (by kernel_rfl)).1
        have t44 : au.tmps[44]?.getD undef = u 4 := hsl.out 4 44 (by kernel_rfl)
        rw [a1] at t44
        have t46 : au.tmps[46]?.getD undef = u 6 := hsl.out 6 46 (by kernel_rfl)
        rw [h6] at t46
        have HE : Hid (w21.ownsRow w2.heap.size 2 1 (.slice (some ⟨e4, 0, none⟩) 0 0) 0 []) := ⟨by simp, .inr ⟨e4, 0, #[], rfl, a2, a3, Nat.le_refl _, by unfold maxLen; omega, rfl, rfl⟩⟩
        have HNW : Hid (∀ j x, (ints (fl g n'))[j]? = some x → w21.cell? ((⟨b1, o1, none⟩ : Addr).add j) = some x) := fun j x hx => by
          obtain ⟨hj, rfl⟩ := ints_fl g n' j x hx
          rw [Addr.add_lit]
          rcases HP'.out.below (HS2.out.next hF.1).below with h0 | ⟨_, _, heq, hc⟩
          · omega
          · cases heq; exact hc j hj
        have hB21 : w2.heap.size ≤ w21.heap.size := hF.1.size
        refine step_append_lies _ (by rfl) _ _ _ (by rfl) w2.heap.size 2 ti _ 1 8 Try.underlying24 HI1.out hi2 hi3 hi4 rfl (by omega) (.slice (some ⟨e4, 0, none⟩) 0 0) 0 [] (by rw [eval_tmp]; exact t44) HE.out ⟨b1, o1, none⟩ n' cap' (ints (fl g n')) (by rw [eval_tmp]; exact t46) (by rw [ints_length, fl_len, Nat.mul_one]) HNW.out (ints_one _) (show 0 < n' by omega) (by unfold maxLen; omega) (by omega) hB21 w21.heap.size rfl ?_
        intro gg cc w22 hown hgrow hat hlt
        rw [Nat.zero_add] at hown ⊢
        obtain ⟨_, _, _, heq, how, -⟩ := ow_fl hown
        cases heq
        obtain ⟨hge, hrow⟩ := how.resolve_left (by omega)
        cases hge
        have hgB : w2.heap.size ≤ gg := (hown.lt gg rfl).1
        have hR22 : Below w2.heap.size w2 w22 := hF.1.grown hgrow hB21 (fun k e => by cases e; exact a2)
        exact hK.out (.slice (some ⟨gg, 0, none⟩) n' cc) _ ⟨hR22, fun N hN => by rw [upU_other _ _ (by omega)] at hN; exact Nat.lt_of_lt_of_le (hF.2 N hN) hgrow.size⟩ ⟨G7.out _, fun e => by omega, fun _ => ⟨gg, cc, upU_same _ _ _, hgB, hrow, fun N hN hB => by
          rw [upU_other _ _ (by omega)] at hN
          rcases hat with e1 | e1
          · cases e1; exact a4 N hN hB
          · rw [e1]; exact Ne.symm (Nat.ne_of_lt (hF.2 N hN))⟩, fun e => by omega, fun e => by omega, fun e => by omega⟩ (fun j hj hf h => crF_ap a3 hgrow (by simp [undef]) j hj (fun e => by subst e; exact absurd (Eq.trans (Eq.symm (by kernel_rfl)) hf) Bool.false_ne_true) (fun e => by subst e; exact absurd (Eq.trans (Eq.symm (by kernel_rfl)) hf) Bool.false_ne_true) h)
      · intro u w21 au hsl hel hu hF hp' K hK
        have h1 : u 1 = .int .i64 W := (G1.out _).1 (PreF.get hp' 1 (by kernel_rfl)).1
        have h3 : u 3 = .int .i64 H := (G3.out _).1 (PreF.get hp' 3 (by kernel_rfl)).1
        obtain ⟨b7, c7, h7, -⟩ := (PreF.get hp' 7 (by kernel_rfl)).2.2.1 rfl
        have t41 : au.tmps[41]?.getD undef = u 1 := hsl.out 1 41 (by kernel_rfl)
        rw [h1] at t41
        have t43 : au.tmps[43]?.getD undef = u 3 := hsl.out 3 43 (by kernel_rfl)
        rw [h3] at t43
        have t47 : au.tmps[47]?.getD undef = u 7 := hsl.out 7 47 (by kernel_rfl)
        rw [h7] at t47
        refine step_plain rfl ?_
        go_simp
        exact hK.out (.agg #[.int .i64 W, .int .i64 H, .slice (some ⟨b7, 0, none⟩) n' c7]) _ (crR_up hF (Below.refl _ _) 8 (by omega) _) ⟨G8.out _, fun e => by omega, fun e => by omega, fun _ => ⟨b7, c7, (upU_other _ _ (by omega)).trans h7, upU_same _ _ _⟩, fun e => by omega, fun e => by omega⟩ (fun j hj hf h => crF_up (show 0 < n' by omega) (Below.refl _ _) 8 (by omega) (by omega) _ (fun e => by omega) j hj (fun e => by omega) h)
      · intro u w21 au hsl hel hu hF hp' K hK
        refine step_plain rfl ?_
        go_simp
        have hs := hF.1.size
        exact hK.out (.pointer (some ⟨w21.heap.size, 0, none⟩)) _ ⟨hF.1.alloc hs _, fun N hN => by rw [upU_same] at hN; cases hN; simp⟩ ⟨G9.out _, fun e => by omega, fun e => by omega, fun e => by omega, fun _ => ⟨_, upU_same _ _ _, hs, by simp, .inr (Bx.new [.int .i64 0, .int .i64 0, .slice none 0 0] _ _)⟩, fun e => by omega⟩ (fun j hj hf h => crF_up (show 0 < n' by omega) (bnew _ _) 9 (by omega) (by omega) _ (fun _ => rfl) j hj (fun e => by subst e; exact absurd (Eq.trans (Eq.symm (by kernel_rfl)) hf) Bool.false_ne_true) h)
      · intro u w21 au hsl hel hu hF hp' K hK
        have h10 : u 10 = undef := (hu.out 10 (by decide) (.inl rfl)).trans (by kernel_rfl)
        obtain ⟨b7, c7, h7, h8⟩ := (PreF.get hp' 8 (by kernel_rfl)).2.2.2.1 rfl
        obtain ⟨N, h9, hNB, hNl, hbx⟩ := (PreF.get hp' 9 (by kernel_rfl)).2.2.2.2.1 rfl
        have bx := hbx.resolve_left (fun hh => hh h10)
        have t48 : au.tmps[48]?.getD undef = u 8 := hsl.out 8 48 (by kernel_rfl)
        rw [h8] at t48
        have t5 : au.tmps[5]?.getD undef = u 9 := hsl.out 9 5 (by kernel_rfl)
        rw [h9] at t5
        obtain ⟨x0, y0⟩ := bx 0 _ rfl
        obtain ⟨x1, y1⟩ := bx 1 _ rfl
        obtain ⟨x2, y2⟩ := bx 2 _ rfl
        have HK := hide hK
        have HFF := hide hF
        have HBX := hide bx
        clear bx
        refine step_plain rfl ?_
        go_simp
        have hkz : Kept N w21 (((w21.setCell ⟨N, 0, none⟩ (.int .i64 W)).setCell ⟨N, 1, none⟩ (.int .i64 H)).setCell ⟨N, 2, none⟩ (.slice (some ⟨b7, 0, none⟩) n' c7)) := (((Kept.refl N w21).setCell (a := ⟨N, 0, none⟩) rfl (.int .i64 W)).setCell (a := ⟨N, 1, none⟩) rfl (.int .i64 H)).setCell (a := ⟨N, 2, none⟩) rfl (.slice (some ⟨b7, 0, none⟩) n' c7)
        exact hK.out (.bool true) _ ⟨hF.1.trans (hkz.below hNB hF.1.size), fun M hM => by rw [upU_other _ _ (by omega)] at hM; exact Nat.lt_of_lt_of_le (hF.2 M hM) hkz.size⟩ ⟨G10.out _, fun e => by omega, fun e => by omega, fun e => by omega, fun e => by omega, fun _ => ⟨N, b7, c7, (upU_other _ _ (by omega)).trans h9, (upU_other _ _ (by omega)).trans h7, hNB, Nat.lt_of_lt_of_le hNl hkz.size, ((HBX.out.set 0 (.int .i64 W)).set 1 (.int .i64 H)).set 2 (.slice (some ⟨b7, 0, none⟩) n' c7)⟩⟩ (fun j hj _ h => crF_st h9 hNB hkz (by simp [undef]) (by rw [h7]; simp [undef]) j hj h)
    · intro u w30 hF hall
      obtain ⟨N, b7, c7, h9, h7, hNB, hNl, bx⟩ := (hall 10 (by decide)).2.2.2.2.2 rfl
      obtain ⟨_, _, h7', hbB, hrow, hne⟩ := (hall 7 (by decide)).2.2.1 rfl
      rw [h7] at h7'
      cases h7'
      have hnN := hne N h9 hNB
      have HSN : Hid (St w [(N, [.int .i64 W, .int .i64 H, .slice (some ⟨b7, 0, none⟩) n' c7]), (w.heap.size + 2, [.int .i64 0, .int .i64 0, .slice none 0 0]), (w.heap.size + 1, [.int .i64 W, .int .i64 H, .slice (some ⟨b1, o1, none⟩) n' cap']), (w.heap.size, [.int .i64 W, .int .i64 H, .slice (some ⟨b0, o0, none⟩) n' cap])] [dcP b7 n' g] w30) :=
        hide ((HS2.out.own hF.1 hrow.v (.inr hbB)).takeB bx hNl (by have := HS2.out.below.size; omega) (by
          intro hm
          simp [blocks, show n' ≠ 0 by omega] at hm
          have hl := (HS2.out.ltB 0 rfl).2
          omega))
      clear hall bx hrow hne
      simp only [rgPut, Act.put]
      rw [h9]
      go_simp
      go_wp2_with fail
      go_meet
      exact ⟨N, b7, c7, rfl, HSN.out⟩
  case rest =>
    obtain ⟨N, b3, c3, rfl, hS⟩ := hcut
    have HS4 := hide hS
    obtain ⟨N0, N1, N2⟩ := HS4.out.im3 0 rfl
    clear hS HS2
    have hmk := fun w' => make_px n' (by omega) w'
    have HS5 := hide (HS4.out.own (bnew wc (.cells (madeCells #[.int .i64 0] n') 2)) (Ow.of_row (row_new n' wc)).v (.inr (Nat.le_refl _)))
    go_upto_region 6 with fail
    clear N0 N1 N2 HS4
    generalize wc.alloc (.cells (madeCells #[.int .i64 0] n') 2) = w5 at *
    generalize wc.heap.size = bt at *
    have HS6 := hide (HS5.out.own (bnew w5 (.cells (madeCells #[.int .i64 0] n') 2)) (Ow.of_row (row_new n' w5)).v (.inr (Nat.le_refl _)))
    go_upto_region 7 with fail
    clear hmk HS5
    generalize w5.alloc (.cells (madeCells #[.int .i64 0] n') 2) = w6 at *
    generalize w5.heap.size = bv at *
    have HS6' : Hid (St w [(N, [.int .i64 W, .int .i64 H, .slice (some ⟨b3, 0, none⟩) n' c3]), (w.heap.size + 2, [.int .i64 0, .int .i64 0, .slice none 0 0]), (w.heap.size + 1, [.int .i64 W, .int .i64 H, .slice (some ⟨b1, o1, none⟩) n' cap']), (w.heap.size, [.int .i64 W, .int .i64 H, .slice (some ⟨b0, o0, none⟩) n' cap])] [dcP bv n' (fun _ => 0), dcP bt n' (fun _ => 0), dcP b3 n' (g)] w6) := HS6.out
    clear HS6
    have HLt : Hid (∀ O T V : Nat → Int, ∀ b ∈ blocks [(N, [.int .i64 W, .int .i64 H, .slice (some ⟨b3, 0, none⟩) n' c3]), (w.heap.size + 2, [.int .i64 0, .int .i64 0, .slice none 0 0]), (w.heap.size + 1, [.int .i64 W, .int .i64 H, .slice (some ⟨b1, o1, none⟩) n' cap']), (w.heap.size, [.int .i64 W, .int .i64 H, .slice (some ⟨b0, o0, none⟩) n' cap])] [dcP bv n' V, dcP bt n' T, dcP b3 n' O], b < w6.heap.size) := fun O T V b hb => (HS6'.out.lt b (blocks3 hb)).2
    have HW0 : Hid (w.heap.size ≤ w6.heap.size) := HS6'.out.below.size
    have HO7 : Hid ((w6.alloc (.cells #[] 2)).ownsRow w6.heap.size 2 1 (.slice (some ⟨w6.heap.size, 0, none⟩) 0 0) 0 (ints (csW []))) := World.ownsRow_lit w6 #[] 0 (base := w6.heap.size) (Nat.le_refl _) (by unfold maxLen; omega) rfl
    have HS7 := hide (HS6'.out.next (bnew w6 (.cells #[] 2)))
    have HG7 : Hid (w6.heap.size ≤ (w6.alloc (.cells #[] 2)).heap.size) := by show _ ≤ _; simp
    clear HS6'
    obtain ⟨nb, hnbE⟩ : ∃ nb : Nat → List Int, nb = (fun p : Nat => besL W H (p : Int)) := ⟨_, rfl⟩
    have hnb : ∀ p, p < n' → ∀ x ∈ nb p, 0 ≤ x ∧ x < n' := fun p hp x hx => by
      rw [hnbE] at hx
      exact besL_in HNH.out.1 HNH.out.2.1.1 hp x hx
    have HNB := hide hnb
    have HNT : Hid (∀ p, p < n' → ∀ x ∈ nb p, x.toNat < n') := fun p hp x hx => by have := hnb p hp x hx; omega
    have HSE := hide (fun F => shd_eq (n := n') (im := f) (o := g) HNT.out (F := F))
    have HSV : Hid (shdV W H n' f g = shd n' f g nb) := by show _ = _; rw [hnbE]; rfl
    have HBE : Hid (∀ (k : Nat) w', k < n' → Calls Try.prog 21 #[.int .i64 W, .int .i64 H, .int .i64 k] w' fun e w9 => ∃ v, e = .returned v ∧ w9.ownsRow w'.heap.size 2 1 v (nb k).length (ints (nb k)) ∧ Below w'.heap.size w' w9) := fun k w' hk => by
      rw [hnbE]
      exact l8Beside_any W H k HNH.out.2.1.1 HNH.out.2.1.2 HNH.out.2.2.1 HNH.out.2.2.2 (by omega) w'
    have HNL : Hid (∀ k, (nb k).length ≤ 4) := fun k => by rw [hnbE]; exact besL_len W H k
    have HWS0 : Hid (WsI n' (ws0 g) ∧ (ws0 g).c + fr0 n' (ws0 g).o ≤ n') := ⟨(sd_all (o := g) HNT.out 0 (by omega)).1, by have := fr0_le n' g; show 0 + fr0 n' g ≤ n'; omega⟩
    clear hnb hnbE
    go_wp2_with fail
    generalize w6.alloc (.cells #[] 2) = w7 at *
    generalize (Value.slice (some ⟨w6.heap.size, 0, none⟩) 0 0) = v7 at *
    generalize w6.heap.size = G at *
    go_loopw [10, 11] (fun v i wr => ∃ k : Nat, k ≤ n' ∧ i = .int .i64 k ∧ St w [(N, [.int .i64 W, .int .i64 H, .slice (some ⟨b3, 0, none⟩) n' c3]), (w.heap.size + 2, [.int .i64 0, .int .i64 0, .slice none 0 0]), (w.heap.size + 1, [.int .i64 W, .int .i64 H, .slice (some ⟨b1, o1, none⟩) n' cap']), (w.heap.size, [.int .i64 W, .int .i64 H, .slice (some ⟨b0, o0, none⟩) n' cap])] [dcP bv n' (fun _ => 0), dcP bt n' (fun _ => 0), dcP b3 n' (g)] wr ∧ wr.ownsRow G 2 1 v (sdL g k).length (ints (csW (sdL g k))) ∧ G ≤ wr.heap.size) (fun _ i _ => n' - (intOf i).toNat)
    case atStart => exact ⟨0, by omega, rfl, HS7.out, HO7.out, HG7.out⟩
    case round =>
      obtain ⟨k, hk, rfl, hs, ho, hg⟩ := hrel
      clear HS7 HO7 HG7
      have HS := hide hs
      have HO := hide ho
      have HG := hide hg
      clear hs ho hg
      by_cases hlt : k < n'
      · have hlt' : (k : Int) < (n' : Int) := by omega
        obtain ⟨N0, N1, N2⟩ := HS.out.im3 0 rfl
        obtain ⟨y0, -⟩ := (HS.out.rowK 2 rfl (by omega)) k hlt
        by_cases hg0 : g k = 0
        · rw [hg0] at y0
          have HE : Hid (sdL g (k + 1) = sdL g k) := by show (if _ then _ else _) = _; rw [if_neg (fun h => h hg0)]
          clear hg0
          go_wp2_with fail
          exact ⟨⟨k + 1, by omega, rfl, HS.out, by rw [HE.out]; exact HO.out, HG.out⟩, by simp [intOf]; omega⟩
        · have HE : Hid (sdL g (k + 1) = sdL g k ++ [k]) := by show (if _ then _ else _) = _; rw [if_pos hg0]
          have q1 : (g k == 0) = false := by simp [hg0]
          have q2 : (g k != 0) = true := by simp [hg0]
          have HL1 : Hid ((sdL g k).length ≤ 1048576) := by show _ ≤ _; have := sdL_len g k; omega
          clear hg0
          generalize g k = y at *
          go_wp2_with (refine growN _ rfl _ _ rfl G _ (sdL g k).length (csW (sdL g k)) rfl wr HO.out (Below.refl _ _) HG.out (k : Int) rfl HL1.out ?_)
          intro v' w' ho' hb' hs' hk' hm'
          have HS9 := hide (HS.out.upto hb' HW0.out (HLt.out _ _ _))
          have HO9 : Hid (w'.ownsRow G 2 1 v' (sdL g (k + 1)).length (ints (csW (sdL g (k + 1))))) := by
            show World.ownsRow _ _ _ _ _ _ _
            rw [HE.out, List.length_append, csW_app]; exact ho'
          have HG9 : Hid (G ≤ w'.heap.size) := Nat.le_trans HG.out (Nat.le_of_lt hs')
          clear ho' hb' hs' hk' hm' HS HO HG N0 N1 N2 y0
          go_wp2_with fail
          exact ⟨⟨k + 1, by omega, rfl, HS9.out, HO9.out, HG9.out⟩, by simp [intOf]; omega⟩
      · have hkn : n' = k := by omega
        subst hkn
        go_wp2_with fail
        clear hk hlt
        have HA : Hid (∀ a ∈ sdL g n', a < n' ∧ Dn (ws0 g) a) := fun a ha => ⟨(sdL_in g n' a ha).1, (sdL_in g n' a ha).2, by simp [ws0]⟩
        have HAL : Hid ((sdL g n').length ≤ n') := sdL_len g n'
        have HFN : Hid (∀ F, Wrun f nb (finA nb (ws0 g) (sdL g n')) F → Wrun f nb (sd g nb n') F) := fun F h => by rw [← sdL_fin g nb n']; exact h
        go_loopg [9, 10, 12, 13, 14, 15, 16] (pot n' (ws0 g)) (fun gk c v _ _ _ _ _ wr => ∃ (s : Ws) (A : List Nat) (O T V : Nat → Int), gk = pot n' s ∧ c = .int .i64 (s.c : Int) ∧ WsI n' s ∧ s.c + fr0 n' s.o ≤ n' ∧ (∀ a ∈ A, a < n' ∧ Dn s a) ∧ A.length ≤ n' ∧ (∀ F, Wrun f nb (finA nb s A) F → Wrun f nb (sd g nb n') F) ∧ SpI n' s O T V ∧ St w [(N, [.int .i64 W, .int .i64 H, .slice (some ⟨b3, 0, none⟩) n' c3]), (w.heap.size + 2, [.int .i64 0, .int .i64 0, .slice none 0 0]), (w.heap.size + 1, [.int .i64 W, .int .i64 H, .slice (some ⟨b1, o1, none⟩) n' cap']), (w.heap.size, [.int .i64 W, .int .i64 H, .slice (some ⟨b0, o0, none⟩) n' cap])] [dcP bv n' (V), dcP bt n' (T), dcP b3 n' (O)] wr ∧ wr.ownsRow G 2 1 v A.length (ints (csW A)) ∧ G ≤ wr.heap.size)
        case atStart => exact ⟨ws0 g, sdL g n', g, fun _ => 0, fun _ => 0, rfl, rfl, HWS0.out.1, HWS0.out.2, HA.out, HAL.out, HFN.out, SpI.start, HS.out, HO.out, HG.out⟩
        case round =>
          obtain ⟨s0, A, O, T0, V0, rfl, rfl, hi, hc, hA, hAl, hW, hSp, hs, ho, hg⟩ := hrel
          clear HS HO HG HA HAL HFN HWS0
          have HI := hide hi
          have HC := hide hc
          have HA := hide hA
          have HAL := hide hAl
          have HWr := hide hW
          have HSp := hide hSp
          have HS := hide hs
          have HO := hide ho
          have HG := hide hg
          clear hi hc hA hAl hW hSp hs ho hg
          obtain ⟨F0, hF0⟩ : ∃ F0, finA nb s0 A = F0 := ⟨_, rfl⟩
          rw [hF0] at HWr
          have HF0 := hide hF0
          obtain ⟨P0, hP0⟩ : ∃ P0, pot n' s0 = P0 := ⟨_, rfl⟩
          have HP0 := hide hP0
          clear hF0 hP0
          have HPZ : Hid (pot n' s0 = P0) := HP0.out
          go_wp2_with fail
          obtain ⟨vA, hvA⟩ : ∃ vA, u10 = vA := ⟨_, rfl⟩
          rw [hvA] at HO ⊢
          clear hvA
          go_loopw [9, 12, 13, 14] (fun c i _ _ wr => ∃ (I : Nat) (s : Ws) (T V : Nat → Int), I ≤ A.length ∧ i = .int .i64 I ∧ c = .int .i64 (s.c : Int) ∧ pot n' s = P0 ∧ WsI n' s ∧ s.c + fr0 n' s.o ≤ n' ∧ (∀ a ∈ A, Dn s a) ∧ finA nb s (A.drop I) = F0 ∧ SpI n' s O T V ∧ St w [(N, [.int .i64 W, .int .i64 H, .slice (some ⟨b3, 0, none⟩) n' c3]), (w.heap.size + 2, [.int .i64 0, .int .i64 0, .slice none 0 0]), (w.heap.size + 1, [.int .i64 W, .int .i64 H, .slice (some ⟨b1, o1, none⟩) n' cap']), (w.heap.size, [.int .i64 W, .int .i64 H, .slice (some ⟨b0, o0, none⟩) n' cap])] [dcP bv n' (V), dcP bt n' (T), dcP b3 n' (O)] wr ∧ wr.ownsRow G 2 1 vA A.length (ints (csW A)) ∧ G ≤ wr.heap.size) (fun _ i _ _ _ => A.length - (intOf i).toNat)
          case atStart => exact ⟨0, s0, T0, V0, by omega, rfl, rfl, HP0.out, HI.out, HC.out, fun a ha => (HA.out a ha).2, HF0.out, HSp.out, HS.out, HO.out, HG.out⟩
          case round =>
            obtain ⟨I, s, T, V, hIl, rfl, rfl, hp0, hi, hc, hdn, hfin, hSp, hs, ho, hg⟩ := hrel
            clear HI HC HSp HS HO HG HP0 HF0
            have HI := hide hi
            have HC := hide hc
            have HP0s := hide hp0
            have HDn := hide hdn
            have HFi := hide hfin
            have HSp := hide hSp
            have HS := hide hs
            have HO := hide ho
            have HG := hide hg
            clear hi hc hp0 hdn hfin hSp hs ho hg
            by_cases hIlt : I < A.length
            · have hI' : (I : Int) < (A.length : Int) := by omega
              obtain ⟨a, ha⟩ : ∃ a, A[I]? = some a := ⟨_, List.getElem?_eq_getElem hIlt⟩
              have han : a < n' := (HA.out a (List.mem_of_getElem? ha)).1
              have HDa : Hid (∀ s : Ws, (∀ a ∈ A, Dn s a) → Dn s a) := fun s h => h a (List.mem_of_getElem? ha)
              obtain ⟨S1, hS1⟩ : ∃ S1, msL a s (nb a) = S1 := ⟨_, rfl⟩
              have HF1 : Hid (finA nb S1 (A.drop (I + 1)) = F0) := by
                have h := HFi.out
                rw [drop_at ha, finA_cons, hS1] at h
                exact h
              obtain ⟨bA, capA, hvA, hGb, hcell⟩ := own_partsL HO.out (by omega)
              subst hvA
              obtain ⟨x0, -⟩ := hcell I hIlt
              have HAa : Hid ((csW A).getD I 0 = (a : Int)) := csW_at ha
              rw [csW_at ha] at x0
              have HX0 := hide x0
              obtain ⟨i0, i1, i2⟩ := HS.out.im3 3 rfl
              have cBe := fun w' => HBE.out a w' han
              have HIn := hide (HNB.out a han)
              have HBl := hide (HNL.out a)
              have HS1 := hide hS1
              have hAI : A.length ≤ 4096 := by have := HAL.out; omega
              have hI4 : I ≤ 4096 := by omega
              clear ha hcell hGb hS1
              generalize nb a = L at *
              obtain ⟨wp, hwp⟩ : ∃ wp, wp = wr := ⟨_, rfl⟩
              subst hwp
              go_upto_region 17 with fail
              go_cut [13] (fun s wc => ∃ v8, v8 = s ∧ wc.ownsRow wp.heap.size 2 1 v8 L.length (ints L) ∧ Below wp.heap.size wp wc)
              case first =>
                go_region_with (go_at_call 21; (with_reducible refine (cBe _).mono ?_); rintro e w6 ⟨v8, rfl, ho8, hb8⟩; have HO8 := hide ho8; have HB8 := hide hb8; clear ho8 hb8)
                all_goals
                  go_wp2_with fail
                  go_meet
                  exact ⟨_, rfl, HO8.out, (Below.refl _ _).drew.trans HB8.out⟩
              case rest =>
                obtain ⟨v8, rfl, ho8, hb8⟩ := hcut
                have HS6 := hide (HS.out.next hb8)
                have HO6 := hide (ownsRow_below' HO.out hb8)
                have HO8 := hide ho8
                have HG6 : Hid (wp.heap.size ≤ wc.heap.size) := hb8.size
                have HGP : Hid (G ≤ wp.heap.size) := HG.out
                have HGA : Hid (G ≤ bA ∧ bA < wp.heap.size) := ⟨owns_ge HO.out bA rfl, owns_lt HO.out bA rfl⟩
                clear ho8 hb8 HS HO HG x0 i0 i1 i2 cBe HX0
                go_wp2_with fail
                go_loopw [9, 14] (fun c j wr => ∃ (J : Nat) (s : Ws) (T V : Nat → Int), J ≤ L.length ∧ j = .int .i64 J ∧ c = .int .i64 (s.c : Int) ∧ pot n' s = P0 ∧ WsI n' s ∧ s.c + fr0 n' s.o ≤ n' ∧ (∀ a ∈ A, Dn s a) ∧ msL a s (L.drop J) = S1 ∧ SpI n' s O T V ∧ St w [(N, [.int .i64 W, .int .i64 H, .slice (some ⟨b3, 0, none⟩) n' c3]), (w.heap.size + 2, [.int .i64 0, .int .i64 0, .slice none 0 0]), (w.heap.size + 1, [.int .i64 W, .int .i64 H, .slice (some ⟨b1, o1, none⟩) n' cap']), (w.heap.size, [.int .i64 W, .int .i64 H, .slice (some ⟨b0, o0, none⟩) n' cap])] [dcP bv n' (V), dcP bt n' (T), dcP b3 n' (O)] wr ∧ wr.ownsRow G 2 1 (.slice (some ⟨bA, 0, none⟩) A.length capA) A.length (ints (csW A)) ∧ wr.ownsRow wp.heap.size 2 1 v8 L.length (ints L) ∧ wp.heap.size ≤ wr.heap.size) (fun _ j _ => L.length - (intOf j).toNat)
                case atStart => exact ⟨0, s, T, V, by omega, rfl, rfl, HP0s.out, HI.out, HC.out, HDn.out, HS1.out, HSp.out, HS6.out, HO6.out, HO8.out, HG6.out⟩
                case round =>
                  clear HS6 HO6 HO8 HG6 HI HC HP0s HDn HFi HSp HS1
                  obtain ⟨J, s, T, V, hJ, rfl, rfl, hp0, hi, hc, hdn, hms, hSp, hs, ho, ho8, hg⟩ := hrel
                  have HI := hide hi
                  have HC := hide hc
                  have HP0s := hide hp0
                  have HDn := hide hdn
                  have HMSd := hide hms
                  have HSp := hide hSp
                  have HS := hide hs
                  have HO := hide ho
                  have HO8 := hide ho8
                  have HG := hide hg
                  clear hi hc hp0 hdn hms hSp hs ho ho8 hg
                  by_cases hJlt : J < L.length
                  · have hJ' : (J : Int) < (L.length : Int) := by omega
                    obtain ⟨x, hx⟩ : ∃ x, L[J]? = some x := ⟨_, List.getElem?_eq_getElem hJlt⟩
                    obtain ⟨hx0, hx1⟩ := HIn.out x (List.mem_of_getElem? hx)
                    obtain ⟨q, rfl⟩ : ∃ q : Nat, x = (q : Int) := ⟨x.toNat, by omega⟩
                    have hqn : q < n' := by omega
                    have HMS : Hid (msL a (ms1 a s (q : Int)) (L.drop (J + 1)) = S1) := by
                      have h := HMSd.out
                      rw [drop_at hx, msL_cons] at h
                      exact h
                    obtain ⟨b8, cap8, hv8, hGb8, hcell8⟩ := own_partsL HO8.out (by omega)
                    subst hv8
                    obtain ⟨u0, -⟩ := hcell8 J hJlt
                    have HLJ : Hid (L.getD J 0 = (q : Int)) := by show _ = _; simp [List.getD, hx]
                    rw [HLJ.out] at u0
                    obtain ⟨N0, N1, N2⟩ := HS.out.im3 0 rfl
                    obtain ⟨y0, -⟩ := (HS.out.rowK 2 rfl (by omega)) q hqn
                    obtain ⟨z0, fr0⟩ := (HS.out.rowK 1 rfl (by omega)) q hqn
                    have hJ4 : J ≤ 4 := by have := HBl.out; omega
                    have HJ4 : Hid (L.length ≤ 4) := HBl.out
                    obtain ⟨wq, hwq⟩ : ∃ wq, wq = wr := ⟨_, rfl⟩
                    subst hwq
                    have SK : Nonempty (Up wq) := up_ne wq
                    have p0 := fun p : Up wq => p.cell u0
                    have p1 := fun p : Up wq => p.cell N2
                    have p2 := fun p : Up wq => p.cell y0
                    have p3 := fun p : Up wq => p.cell z0
                    have HU0 := hide u0
                    have HN2 := hide N2
                    have HZ0 := hide (And.intro z0 fr0)
                    have HB8 : Hid (wp.heap.size ≤ b8) := hGb8
                    clear u0 N0 N1 N2 y0 z0 fr0 hcell8 hx hx0 hx1 HMSd hGb8
                    by_cases hO : O q = 0
                    case neg =>
                      have qf : (O q == 0) = false := by simp [hO]
                      have HM : Hid (ms1 a s (q : Int) = s) := HSp.out.no HI.out hqn (.inl hO)
                      go_upto_region 21 with fail
                      refine region_up (by kernel_rfl) (by kernel_rfl) ?_
                      repeat (go_big_quiet_step (exact rfl))
                      refine wpQuiet_nil ?_
                      intro _ hw2
                      obtain ⟨pq, hw3⟩ := hw2
                      subst hw3
                      have HS2 := hide (HS.out.next pq.below)
                      have HO2 := hide (ownsRow_below' HO.out pq.below)
                      have HO82 := hide (ownsRow_below' HO8.out pq.below)
                      have HG2 : Hid (wp.heap.size ≤ pq.w.heap.size) := Nat.le_trans HG.out pq.below.size
                      clear p0 p1 p2 p3 SK
                      generalize pq.w = w2 at *
                      go_wp2_with fail
                      exact ⟨⟨J + 1, s, T, V, by omega, rfl, rfl, HP0s.out, HI.out, HC.out, HDn.out, by rw [← HM.out]; exact HMS.out, HSp.out, HS2.out, HO2.out, HO82.out, HG2.out⟩, by simp [intOf]; omega⟩
                    by_cases hT : T q = 0
                    case neg =>
                      have qf : (T q == 0) = false := by simp [hT]
                      rw [hO] at p2
                      have HM : Hid (ms1 a s (q : Int) = s) := HSp.out.no HI.out hqn (.inr hT)
                      go_upto_region 21 with fail
                      refine region_up (by kernel_rfl) (by kernel_rfl) ?_
                      repeat (go_big_quiet_step (exact rfl))
                      refine wpQuiet_nil ?_
                      intro _ hw2
                      obtain ⟨pq, hw3⟩ := hw2
                      subst hw3
                      have HS2 := hide (HS.out.next pq.below)
                      have HO2 := hide (ownsRow_below' HO.out pq.below)
                      have HO82 := hide (ownsRow_below' HO8.out pq.below)
                      have HG2 : Hid (wp.heap.size ≤ pq.w.heap.size) := Nat.le_trans HG.out pq.below.size
                      clear p0 p1 p2 p3 SK
                      generalize pq.w = w2 at *
                      go_wp2_with fail
                      exact ⟨⟨J + 1, s, T, V, by omega, rfl, rfl, HP0s.out, HI.out, HC.out, HDn.out, by rw [← HM.out]; exact HMS.out, HSp.out, HS2.out, HO2.out, HO82.out, HG2.out⟩, by simp [intOf]; omega⟩
                    have h0s : s.o q = 0 := (HSp.out.free HI.out hqn).1 ⟨hO, hT⟩
                    have hda := HDa.out s HDn.out
                    have hqt : (q : Int).toNat < n' := by rw [Int.toNat_natCast]; exact hqn
                    have HR2 : Hid (pot n' (ms1 a s (q : Int)) = P0 ∧ WsI n' (ms1 a s (q : Int)) ∧ (ms1 a s (q : Int)).c + fr0 n' (ms1 a s (q : Int)).o ≤ n' ∧ (∀ a' ∈ A, Dn (ms1 a s (q : Int)) a') ∧ SpI n' (ms1 a s (q : Int)) O (updN T q ((s.c : Int) + 1)) (updN V q (O a)) ∧ (((ms1 a s (q : Int)).c : Nat) : Int) = (s.c : Int) + 1) :=
                      ⟨(ms1_pot hda.1 hqt).trans HP0s.out, HI.out.ms1 hda.1 hqt, by rw [ms1_cp hda.1 hqt]; exact HC.out, fun a' ha' => (HDn.out a' ha').ms1, HSp.out.yes HI.out hqn h0s ((HSp.out a han).2 hda.2).1, by rw [ms1_yes (by rw [Int.toNat_natCast]; exact h0s)]; simp⟩
                    have hcb : s.c ≤ 4096 := by have := HC.out; omega
                    have hw1 : IntKind.i64.wrap ((s.c : Int) + 1) = (s.c : Int) + 1 := by rw [IntKind.wrap_i64]; omega
                    have HBB : Hid (bt < G ∧ bv < G ∧ b3 < G) := ⟨HLt.out O T V bt (mem_blocks_own (x := dcP bt n' T) (by simp) (show n' ≠ 0 by omega)), HLt.out O T V bv (mem_blocks_own (x := dcP bv n' V) (by simp) (show n' ≠ 0 by omega)), HLt.out O T V b3 (mem_blocks_own (x := dcP b3 n' O) (by simp) (show n' ≠ 0 by omega))⟩
                    rw [hO] at p2
                    rw [hT] at p3 HZ0
                    clear h0s hda hqt hcb hO hT HI HC HSp HP0s HDn
                    go_upto_region 21 with fail
                    refine region_up (by kernel_rfl) (by kernel_rfl) ?_
                    repeat (go_big_quiet_step (exact rfl))
                    refine wpQuiet_nil ?_
                    intro _ hw2
                    obtain ⟨pq, hw3⟩ := hw2
                    subst hw3
                    have HS2 := hide (HS.out.next pq.below)
                    have HO2 := hide (ownsRow_below' HO.out pq.below)
                    have HO82 := hide (ownsRow_below' HO8.out pq.below)
                    have HG2 : Hid (wp.heap.size ≤ pq.w.heap.size) := Nat.le_trans HG.out pq.below.size
                    have u0 := pq.cell HU0.out
                    have z0 := pq.cell HZ0.out.1
                    have fr0 := (pq.below.frozen (p := ⟨bt, q, none⟩) (World.block_lt_of_cell? wq _ HZ0.out.1)).trans HZ0.out.2
                    clear p0 p1 p2 p3 SK HS HO HO8 HG HU0 HN2 HZ0
                    generalize pq.w = w2 at *
                    have HS3 : Hid (St w [(N, [.int .i64 W, .int .i64 H, .slice (some ⟨b3, 0, none⟩) n' c3]), (w.heap.size + 2, [.int .i64 0, .int .i64 0, .slice none 0 0]), (w.heap.size + 1, [.int .i64 W, .int .i64 H, .slice (some ⟨b1, o1, none⟩) n' cap']), (w.heap.size, [.int .i64 W, .int .i64 H, .slice (some ⟨b0, o0, none⟩) n' cap])] [dcP bv n' (V), dcP bt n' (updN T q ((s.c : Int) + 1)), dcP b3 n' (O)] (w2.setCell ⟨bt, q, none⟩ (.int .i64 ((s.c : Int) + 1)))) := St.updO (O1 := [dcP bv n' V]) HS2.out hqn ((s.c : Int) + 1)
                    have HO3 : Hid ((w2.setCell ⟨bt, q, none⟩ (.int .i64 ((s.c : Int) + 1))).ownsRow G 2 1 (.slice (some ⟨bA, 0, none⟩) A.length capA) A.length (ints (csW A))) := ownsRow_setCell_below HO2.out (a := ⟨bt, q, none⟩) HBB.out.1 _
                    have HO83 : Hid ((w2.setCell ⟨bt, q, none⟩ (.int .i64 ((s.c : Int) + 1))).ownsRow wp.heap.size 2 1 (.slice (some ⟨b8, 0, none⟩) L.length cap8) L.length (ints L)) := ownsRow_setCell_below HO82.out (a := ⟨bt, q, none⟩) (Nat.lt_of_lt_of_le HBB.out.1 HGP.out) _
                    have HG3 : Hid (wp.heap.size ≤ (w2.setCell ⟨bt, q, none⟩ (.int .i64 ((s.c : Int) + 1))).heap.size) := by show _ ≤ _; simp; exact HG2.out
                    go_upto_region 24 with fail
                    clear u0 z0 fr0 HS2 HO2 HO82 HG2
                    generalize (w2.setCell ⟨bt, q, none⟩ (.int .i64 ((s.c : Int) + 1))) = w3 at *
                    have HS3d := hide HS3.out.drew
                    have HO3d := hide (ownsRow_below' HO3.out (Below.refl _ _).drew)
                    have HO83d := hide (ownsRow_below' HO83.out (Below.refl _ _).drew)
                    have HX : Hid (St w [(N, [.int .i64 W, .int .i64 H, .slice (some ⟨b3, 0, none⟩) n' c3]), (w.heap.size + 2, [.int .i64 0, .int .i64 0, .slice none 0 0]), (w.heap.size + 1, [.int .i64 W, .int .i64 H, .slice (some ⟨b1, o1, none⟩) n' cap']), (w.heap.size, [.int .i64 W, .int .i64 H, .slice (some ⟨b0, o0, none⟩) n' cap])] [dcP bv n' (updN V q (O a)), dcP bt n' (updN T q ((s.c : Int) + 1)), dcP b3 n' (O)] (w3.drew.setCell ⟨bv, q, none⟩ (.int .i64 (O a))) ∧ (w3.drew.setCell ⟨bv, q, none⟩ (.int .i64 (O a))).ownsRow G 2 1 (.slice (some ⟨bA, 0, none⟩) A.length capA) A.length (ints (csW A)) ∧ (w3.drew.setCell ⟨bv, q, none⟩ (.int .i64 (O a))).ownsRow wp.heap.size 2 1 (.slice (some ⟨b8, 0, none⟩) L.length cap8) L.length (ints L) ∧ wp.heap.size ≤ (w3.drew.setCell ⟨bv, q, none⟩ (.int .i64 (O a))).heap.size) :=
                      ⟨St.updO (O1 := []) HS3d.out hqn (O a), ownsRow_setCell_below HO3d.out (a := ⟨bv, q, none⟩) HBB.out.2.1 _, ownsRow_setCell_below HO83d.out (a := ⟨bv, q, none⟩) (Nat.lt_of_lt_of_le HBB.out.2.1 HGP.out) _, Nat.le_trans HG3.out ((Below.refl 0 w3).drew.setCell (p := ⟨bv, q, none⟩) (Nat.zero_le _) _).size⟩
                    obtain ⟨bA', cA', eA, -, hcA⟩ := own_partsL HO3d.out (by omega)
                    cases eA
                    obtain ⟨x0, -⟩ := hcA I hIlt
                    rw [HAa.out] at x0
                    obtain ⟨b8', c8', e8, -, hc8⟩ := own_partsL HO83d.out (by omega)
                    cases e8
                    obtain ⟨u0, -⟩ := hc8 J hJlt
                    rw [HLJ.out] at u0
                    obtain ⟨N0, N1, N2⟩ := HS3d.out.im3 0 rfl
                    obtain ⟨y0, -⟩ := (HS3d.out.rowK 2 rfl (by omega)) a han
                    obtain ⟨v0, fv0⟩ := (HS3d.out.rowK 0 rfl (by omega)) q hqn
                    clear hcA hc8 HS3 HO3 HO83 HG3 HS3d HO3d HO83d N0 N1
                    go_region
                    all_goals
                      clear x0 u0 N2 y0 v0 fv0
                      go_wp2_with fail
                      exact ⟨⟨J + 1, (ms1 a s (q : Int)), _, _, by omega, rfl, by rw [HR2.out.2.2.2.2.2], HR2.out.1, HR2.out.2.1, HR2.out.2.2.1, HR2.out.2.2.2.1, HMS.out, HR2.out.2.2.2.2.1, HX.out.1, HX.out.2.1, HX.out.2.2.1, HX.out.2.2.2⟩, by simp [intOf]; omega⟩
                  · obtain rfl : J = L.length := by omega
                    obtain ⟨a8, cp8, hv8⟩ := own_form3 HO8.out
                    subst hv8
                    have HNJ : Hid (¬ (L.length : Int) < (L.length : Int)) := by show ¬ _; omega
                    have HR : Hid (∃ (I' : Nat) (s : Ws) (T V : Nat → Int), I' ≤ A.length ∧ Value.int .i64 ((I : Int) + 1) = .int .i64 I' ∧ Value.int .i64 ((s.c : Nat) : Int) = .int .i64 (s.c : Int) ∧ pot n' s = P0 ∧ WsI n' s ∧ True) := ⟨I + 1, s, T, V, by omega, rfl, rfl, HP0s.out, HI.out, trivial⟩
                    have HSE1 : Hid (s = S1) := by have h := HMSd.out; rw [List.drop_length] at h; exact h
                    have HG9 : Hid (G ≤ wr.heap.size) := Nat.le_trans HGP.out HG.out
                    go_wp2_with fail
                    exact ⟨⟨I + 1, s, T, V, by omega, rfl, rfl, HP0s.out, HI.out, HC.out, HDn.out, by rw [HSE1.out]; exact HF1.out, HSp.out, HS.out, HO.out, HG9.out⟩, by simp [intOf]; omega⟩
            · obtain rfl : I = A.length := by omega
              obtain ⟨aA, cA, hvA⟩ := own_form3 HO.out
              subst hvA
              have HSF : Hid (s = F0) := by have h := HFi.out; rw [List.drop_length] at h; exact h
              clear hIl hIlt HFi HO HDn HNB HNL HBE
              go_wp2_with fail
              go_loopw [15, 16] (fun bb kv wr => ∃ (k : Nat) (b : Int), k ≤ n' ∧ kv = .int .i64 k ∧ bb = .int .i64 b ∧ Bst f s k b ∧ St w [(N, [.int .i64 W, .int .i64 H, .slice (some ⟨b3, 0, none⟩) n' c3]), (w.heap.size + 2, [.int .i64 0, .int .i64 0, .slice none 0 0]), (w.heap.size + 1, [.int .i64 W, .int .i64 H, .slice (some ⟨b1, o1, none⟩) n' cap']), (w.heap.size, [.int .i64 W, .int .i64 H, .slice (some ⟨b0, o0, none⟩) n' cap])] [dcP bv n' (V), dcP bt n' (T), dcP b3 n' (O)] wr ∧ G ≤ wr.heap.size) (fun _ kv _ => n' - (intOf kv).toNat)
              case atStart => exact ⟨0, -1, by omega, rfl, rfl, .inl ⟨rfl, fun q _ => Nat.zero_le _⟩, HS.out, HG.out⟩
              case round =>
                obtain ⟨k, b, hk, rfl, rfl, hb, hs, hg⟩ := hrel
                clear HS HG
                have HS := hide hs
                have HG := hide hg
                have HB := hide hb
                clear hs hg hb
                by_cases hlt : k < n'
                · have hlt' : (k : Int) < (n' : Int) := by omega
                  obtain ⟨N0, N1, N2⟩ := HS.out.im3 0 rfl
                  obtain ⟨y0, -⟩ := (HS.out.rowK 2 rfl (by omega)) k hlt
                  obtain ⟨z0, -⟩ := (HS.out.rowK 1 rfl (by omega)) k hlt
                  by_cases hO : O k = 0
                  case neg =>
                    have q1 : (O k == 0) = false := by simp [hO]
                    have q2 : (O k != 0) = true := by simp [hO]
                    have HBs := hide (HB.out.skip (fun hw => hO ((HSp.out k hlt).1 hw).1))
                    clear hO HB
                    generalize O k = y at *
                    go_wp2_with fail
                    exact ⟨⟨k + 1, b, by omega, rfl, rfl, HBs.out, HS.out, HG.out⟩, by simp [intOf]; omega⟩
                  by_cases hT : T k = 0
                  case pos =>
                    have HBs := hide (HB.out.skip (fun hw => ((HSp.out.wait HI.out hlt).2 hw).2 hT))
                    rw [hO] at y0
                    rw [hT] at z0
                    clear hO hT HB
                    go_wp2_with fail
                    exact ⟨⟨k + 1, b, by omega, rfl, rfl, HBs.out, HS.out, HG.out⟩, by simp [intOf]; omega⟩
                  have hkw : k ∈ s.W := (HSp.out.wait HI.out hlt).1 ⟨hO, hT⟩
                  have qT : (T k == 0) = false := by simp [hT]
                  have hTk := ((HSp.out k hlt).1 hkw).2.1
                  rw [hO] at y0
                  have HZ0 := hide z0
                  clear hO hT
                  by_cases hbn : b = -1
                  · subst hbn
                    have HBs := hide (HB.out.first hkw)
                    clear hkw HB hTk
                    obtain ⟨wq, hwq⟩ : ∃ wq, wq = wr := ⟨_, rfl⟩
                    subst hwq
                    have SK : Nonempty (Up wq) := up_ne wq
                    have p1 := fun p : Up wq => p.cell z0
                    go_upto_region 30 with fail
                    refine region_up (by kernel_rfl) (by kernel_rfl) ?_
                    repeat (go_big_quiet_step (exact rfl))
                    refine wpQuiet_nil ?_
                    intro _ hw2
                    obtain ⟨pq, hw3⟩ := hw2
                    subst hw3
                    have HS2 := hide (HS.out.next pq.below)
                    have HG2 : Hid (G ≤ pq.w.heap.size) := Nat.le_trans HG.out pq.below.size
                    clear p1 SK y0 z0 N0 N1 N2
                    generalize pq.w = w2 at *
                    go_wp2_with fail
                    exact ⟨⟨k + 1, (k : Int), by omega, rfl, rfl, HBs.out, HS2.out, HG2.out⟩, by simp [intOf]; omega⟩
                  obtain ⟨m, rfl, hmw⟩ : ∃ m : Nat, b = m ∧ m ∈ s.W := by
                    rcases HB.out with ⟨h1, -⟩ | ⟨m, h1, h2, -⟩
                    · exact absurd h1 hbn
                    · exact ⟨m, h1, h2⟩
                  have hmn : m < n' := HI.out.lt m hmw
                  have hTm := ((HSp.out m hmn).1 hmw).2.1
                  obtain ⟨z1, -⟩ := (HS.out.rowK 1 rfl (by omega)) m hmn
                  obtain ⟨i0, i1, i2⟩ := HS.out.im3 3 rfl
                  obtain ⟨_, _, e9, x0⟩ := (HP.out.below HS.out.below).at hlt
                  cases e9
                  obtain ⟨_, _, e9, x1⟩ := (HP.out.below HS.out.below).at hmn
                  cases e9
                  have hm0 : ¬ (m : Int) < 0 := by omega
                  have hm4 : m ≤ 4096 := by omega
                  obtain ⟨wq, hwq⟩ : ∃ wq, wq = wr := ⟨_, rfl⟩
                  subst hwq
                  have SK : Nonempty (Up wq) := up_ne wq
                  have p1 := fun p : Up wq => p.cell z0
                  have p2 := fun p : Up wq => p.cell z1
                  have p3 := fun p : Up wq => p.cell i2
                  have p4 := fun p : Up wq => p.cell x0
                  have p5 := fun p : Up wq => p.cell x1
                  by_cases h1 : f k < f m
                  · have HBs := hide (HB.out.better hkw (.inl h1))
                    clear hkw HB hTk hTm hmw hbn
                    go_upto_region 30 with fail
                    refine region_up (by kernel_rfl) (by kernel_rfl) ?_
                    repeat (go_big_quiet_step (exact rfl))
                    refine wpQuiet_nil ?_
                    intro _ hw2
                    obtain ⟨pq, hw3⟩ := hw2
                    subst hw3
                    have HS2 := hide (HS.out.next pq.below)
                    have HG2 : Hid (G ≤ pq.w.heap.size) := Nat.le_trans HG.out pq.below.size
                    clear p1 p2 p3 p4 p5 SK y0 z0 z1 x0 x1 i0 i1 i2 N0 N1 N2
                    generalize pq.w = w2 at *
                    go_wp2_with fail
                    exact ⟨⟨k + 1, (k : Int), by omega, rfl, rfl, HBs.out, HS2.out, HG2.out⟩, by simp [intOf]; omega⟩
                  by_cases h2 : f k = f m
                  case neg =>
                    have q2 : (f k == f m) = false := by simp [h2]
                    have HBs := hide (HB.out.stay (m := m) (fun h => by rcases h with h | h; (exact h1 h); (exact h2 h.1)))
                    clear hkw HB hTk hTm hmw hbn h2
                    go_upto_region 30 with fail
                    refine region_up (by kernel_rfl) (by kernel_rfl) ?_
                    repeat (go_big_quiet_step (exact rfl))
                    refine wpQuiet_nil ?_
                    intro _ hw2
                    obtain ⟨pq, hw3⟩ := hw2
                    subst hw3
                    have HS2 := hide (HS.out.next pq.below)
                    have HG2 : Hid (G ≤ pq.w.heap.size) := Nat.le_trans HG.out pq.below.size
                    clear p1 p2 p3 p4 p5 SK y0 z0 z1 x0 x1 i0 i1 i2 N0 N1 N2
                    generalize pq.w = w2 at *
                    go_wp2_with fail
                    exact ⟨⟨k + 1, (m : Int), by omega, rfl, rfl, HBs.out, HS2.out, HG2.out⟩, by simp [intOf]; omega⟩
                  have q2 : (f k == f m) = true := by simp [h2]
                  by_cases h3 : T k < T m
                  · have HBs := hide (HB.out.better hkw (.inr ⟨h2, by omega⟩))
                    clear hkw HB hTk hTm hmw hbn h2
                    go_upto_region 30 with fail
                    refine region_up (by kernel_rfl) (by kernel_rfl) ?_
                    repeat (go_big_quiet_step (exact rfl))
                    refine wpQuiet_nil ?_
                    intro _ hw2
                    obtain ⟨pq, hw3⟩ := hw2
                    subst hw3
                    have HS2 := hide (HS.out.next pq.below)
                    have HG2 : Hid (G ≤ pq.w.heap.size) := Nat.le_trans HG.out pq.below.size
                    clear p1 p2 p3 p4 p5 SK y0 z0 z1 x0 x1 i0 i1 i2 N0 N1 N2
                    generalize pq.w = w2 at *
                    go_wp2_with fail
                    exact ⟨⟨k + 1, (k : Int), by omega, rfl, rfl, HBs.out, HS2.out, HG2.out⟩, by simp [intOf]; omega⟩
                  · have HBs := hide (HB.out.stay (m := m) (fun h => by rcases h with h | h; (exact h1 h); (have := h.2; omega)))
                    clear hkw HB hTk hTm hmw hbn h2
                    go_upto_region 30 with fail
                    refine region_up (by kernel_rfl) (by kernel_rfl) ?_
                    repeat (go_big_quiet_step (exact rfl))
                    refine wpQuiet_nil ?_
                    intro _ hw2
                    obtain ⟨pq, hw3⟩ := hw2
                    subst hw3
                    have HS2 := hide (HS.out.next pq.below)
                    have HG2 : Hid (G ≤ pq.w.heap.size) := Nat.le_trans HG.out pq.below.size
                    clear p1 p2 p3 p4 p5 SK y0 z0 z1 x0 x1 i0 i1 i2 N0 N1 N2
                    generalize pq.w = w2 at *
                    go_wp2_with fail
                    exact ⟨⟨k + 1, (m : Int), by omega, rfl, rfl, HBs.out, HS2.out, HG2.out⟩, by simp [intOf]; omega⟩
                · have hkn : n' = k := by omega
                  subst hkn
                  rcases HB.out.end' HI.out with ⟨rfl, hW⟩ | ⟨m, rfl, hF⟩
                  · have HF : Hid (s.o = shdV W H n' f g) := by
                      show _ = _
                      rw [HSV.out]
                      exact HSE.out _ (HWr.out _ (by rw [← HSF.out]; exact Wrun.done s hW))
                    have HQ : Hid (∀ q, q < n' → O q = shdV W H n' f g q) := fun q hq => by
                      rw [← HF.out]
                      exact ((HSp.out q hq).2 (by rw [hW]; simp)).1
                    obtain ⟨N0, N1, N2⟩ := HS.out.im3 0 rfl
                    obtain ⟨z0, z1, z2⟩ := HS.out.im3 1 rfl
                    obtain ⟨e0, e1, e2⟩ := HS.out.fr3 1 rfl
                    clear hW
                    go_wp2_with fail
                    have HS7 := HS.out.fill3' (L1 := [_]) (.int .i64 W) (.int .i64 H) (.slice (some ⟨b3, 0, none⟩) n' c3)
                    exact bodyPost_ret (v := im W H (some ⟨b3, 0, none⟩) n' c3) (by simp [results, Try.results7, go_sem, z0, z1, z2]) rfl ⟨some ⟨b3, 0, none⟩, c3, b3, rfl, .inr ⟨rfl, (HS7.rowK 2 rfl (by omega)).congr HQ.out⟩, .inr (HS7.lt b3 (mem_blocks_own (x := dcP b3 n' O) (by simp) (show n' ≠ 0 by omega))).1, HS7.below⟩
                  · have hmw := hF.1
                    have hmn : m < n' := HI.out.lt m hmw
                    have hm0 : ¬ (m : Int) < 0 := by omega
                    have HBB : Hid (bt < G ∧ bv < G ∧ b3 < G) := ⟨HLt.out O T V bt (mem_blocks_own (x := dcP bt n' T) (by simp) (show n' ≠ 0 by omega)), HLt.out O T V bv (mem_blocks_own (x := dcP bv n' V) (by simp) (show n' ≠ 0 by omega)), HLt.out O T V b3 (mem_blocks_own (x := dcP b3 n' O) (by simp) (show n' ≠ 0 by omega))⟩
                    have HSd := hide HS.out.drew
                    have HS9 : Hid (St w [(N, [.int .i64 W, .int .i64 H, .slice (some ⟨b3, 0, none⟩) n' c3]), (w.heap.size + 2, [.int .i64 0, .int .i64 0, .slice none 0 0]), (w.heap.size + 1, [.int .i64 W, .int .i64 H, .slice (some ⟨b1, o1, none⟩) n' cap']), (w.heap.size, [.int .i64 W, .int .i64 H, .slice (some ⟨b0, o0, none⟩) n' cap])] [dcP bv n' (V), dcP bt n' (T), dcP b3 n' (updN O m (V m))] (wr.setCell ⟨b3, m, none⟩ (.int .i64 (V m)))) := St.updO (O1 := [dcP bv n' V, dcP bt n' T]) HS.out hmn (V m)
                    have HFM : Hid (pot n' (tk s m) < pot n' s0) := by show _ < _; have := tk_pot (n := n') hmw; have := HPZ.out; have := HP0s.out; omega
                    have HRW : Hid (WsI n' (tk s m) ∧ (tk s m).c + fr0 n' (tk s m).o ≤ n' ∧ (∀ a ∈ [m], a < n' ∧ Dn (tk s m) a) ∧ (∀ F, Wrun f nb (finA nb (tk s m) [m]) F → Wrun f nb (sd g nb n') F) ∧ SpI n' (tk s m) (updN O m (V m)) T V) :=
                      ⟨HI.out.tk, HC.out, fun a ha => by rw [List.mem_singleton.1 ha]; exact ⟨hmn, HI.out.own m hmw, HI.out.nd.not_mem_erase⟩, fun F h => HWr.out F (by rw [← HSF.out]; exact Wrun.step s m F hF h), HSp.out.take HI.out hmw⟩
                    obtain ⟨N0, N1, N2⟩ := HSd.out.im3 0 rfl
                    obtain ⟨v0, -⟩ := (HSd.out.rowK 0 rfl (by omega)) m hmn
                    obtain ⟨y0, fy0⟩ := (HSd.out.rowK 2 rfl (by omega)) m hmn
                    clear hF hmw HSd
                    go_upto_region 34 with fail
                    go_region
                    all_goals
                      clear N0 N1 N2 v0 y0 fy0
                      have HO9 : Hid (((wr.setCell ⟨b3, m, none⟩ (.int .i64 (V m))).alloc (.cells #[.int .i64 m] 2)).drew.ownsRow G 2 1 (.slice (some ⟨wr.heap.size, 0, none⟩) 1 1) 1 (ints (csW [m]))) := by
                        have h := World.ownsRow_lit (e := 2) (size := 1) (wr.setCell ⟨b3, m, none⟩ (.int .i64 (V m))) #[.int .i64 m] 1 (base := G) (by simp; exact HG.out) (by unfold maxLen; omega) rfl
                        rw [show (wr.setCell ⟨b3, m, none⟩ (.int .i64 (V m))).heap.size = wr.heap.size by simp] at h
                        exact ownsRow_below' h (Below.refl _ _).drew
                      have HSa := hide (HS9.out.next (bnew (wr.setCell ⟨b3, m, none⟩ (.int .i64 (V m))) (.cells #[.int .i64 m] 2))).drew
                      have HGa : Hid (G ≤ ((wr.setCell ⟨b3, m, none⟩ (.int .i64 (V m))).alloc (.cells #[.int .i64 m] 2)).drew.heap.size) := Nat.le_trans HG.out (((Below.refl 0 wr).setCell (p := ⟨b3, m, none⟩) (Nat.zero_le _) _).alloc (Nat.zero_le _) _).drew.size
                      go_wp2_with fail
                      go_roundg (pot n' (tk s m))
                      case measure => exact HFM.out
                      case rel => exact ⟨tk s m, [m], _, T, V, rfl, rfl, HRW.out.1, HRW.out.2.1, HRW.out.2.2.1, by simp; omega, HRW.out.2.2.2.1, HRW.out.2.2.2.2, HSa.out, HO9.out, HGa.out⟩


end Go.Proofs.Ytekoioggamhlaaa

/- Descend, answered by the specification. -/
import Derived.Test.YtcdklkebedpmnaaDcq
import Derived.Deep.RegionHeld
import Derived.Deep.CutBlock
namespace Go.Proofs.Ytcdklkebedpmnaa
open Go.RowKit Go.Shelf

theorem Row.drewR {b n : Nat} {f : Nat → Int} {w : World} (h : Row b n f w) : Row b n f w.drew := h
/-- what is left where the first k are through -/
def dfK (g l : Nat → Int) (k q : Nat) : Int := if q < k then g q - l q else l q
theorem dfK_zero (g l : Nat → Int) : dfK g l 0 = l := by funext q; unfold dfK; rw [if_neg (by omega)]
theorem dfK_step (g l : Nat → Int) (k q : Nat) : updN (dfK g l k) k (g k - l k) q = dfK g l (k + 1) q := by
  unfold updN dfK
  by_cases h : q = k
  · subst h; rw [if_pos rfl, if_pos (by omega)]
  · rw [if_neg h]
    by_cases h2 : q < k
    · rw [if_pos h2, if_pos (by omega)]
    · rw [if_neg h2, if_neg (by omega)]
theorem dfK_at (g l : Nat → Int) (k : Nat) : dfK g l k k = l k := by unfold dfK; rw [if_neg (by omega)]

set_option maxRecDepth 100000 in
set_option maxHeartbeats 16000000 in
theorem specDescend_any (W H : Int) (a : Option Addr) (n cap : Nat) (f : Nat → Int) (hl : n ≤ 1048576) (a' : Option Addr) (m cap' : Nat) (g : Nat → Int) (hl' : m ≤ 1048576) (x : Int) (w : World) (h : Px a n f w) (h' : Px a' m g w) :
    Calls Try.prog 11 #[im W H a n cap, .slice a' m cap', .int .i64 x] w (DcA (if dcB W H n f m g x = true then W else 0) (if dcB W H n f m g x = true then H else 0) (if dcB W H n f m g x = true then n else 0) (dcR W.toNat g f x.toNat) (if dcB W H n f m g x = true then x.toNat + 1 else 0) (dcT W.toNat m g f) w) := by
  have HS0 := hide (((St.start w).box [.int .i64 W, .int .i64 H, .slice a n cap] 26).box' [.int .i64 0, .int .i64 0, .slice none 0 0] 26 (b := w.heap.size + 1) (by simp))
  have c := specMisfit_any W H a n cap f hl a' m cap' g hl' _ (h.below HS0.out.below) (h'.below HS0.out.below)
  have HP := hide h
  have HP' := hide h'
  clear h h'
  unfold dcB
  cases hq : msB W H n f m g
  · have hv : msV W H n f m g = -1 := by unfold msV; rw [if_neg (by rw [hq]; simp)]
    rw [hv] at c
    clear hq hv
    go_enter Try.func11, Try.ntmps11
    obtain ⟨i0, i1, i2⟩ := HS0.out.im3 1 rfl
    go_wp2_with fail
    refine c.mono ?_
    rintro e w1 ⟨rfl, hb⟩
    have HS1 := hide (HS0.out.next hb)
    clear c hb HS0 i0 i1 i2
    have HSe := hide (HS1.out.next (bnew w1 (.cells #[] 2)))
    obtain ⟨j0, j1, j2⟩ := HSe.out.im3 0 rfl
    obtain ⟨f0, f1, f2⟩ := HSe.out.fr3 0 rfl
    have HZ0 := hide (HSe.out.fill3 (.int .i64 0) (.int .i64 0) (.slice none 0 0))
    obtain ⟨we, hwe⟩ : ∃ we, w1.alloc (.cells #[] 2) = we := ⟨_, rfl⟩
    rw [hwe] at HZ0 j0 j1 j2 f0 f1 f2
    obtain ⟨wz, hz⟩ : ∃ wz, ((we.setCell ⟨w.heap.size + 1, 0, none⟩ (.int .i64 0)).setCell ⟨w.heap.size + 1, 1, none⟩ (.int .i64 0)).setCell ⟨w.heap.size + 1, 2, none⟩ (.slice none 0 0) = wz := ⟨_, rfl⟩
    rw [hz] at HZ0
    obtain ⟨z0, z1, z2⟩ := HZ0.out.im3 0 rfl
    have HB := hide HZ0.out.below
    clear HZ0 HSe HS1
    go_wp2_with fail
    exact bodyPost_ret (v := .tuple #[im 0 0 none 0 0, .slice (some ⟨w1.heap.size, 0, none⟩) 0 0]) (by simp [results, Try.results11, go_sem, z0, z1, z2]) rfl ⟨none, 0, 0, _, 0, 0, rfl, .inl rfl, .inl rfl, .inl rfl, .inl rfl, .inl rfl, HB.out⟩
  · obtain ⟨h1, p, hW, hpr, hls, hm0, hN, hF, hd⟩ := msB_parts hq
    obtain ⟨q', hW', hH, hn, p1, p2, _, hf⟩ := toneB_parts h1
    obtain rfl : q' = p := by omega
    subst hW hH
    obtain ⟨hm, hg⟩ := lsB_parts hls
    have hv0 := (dsq_sum (g := g) (l := Lnm.lin q' f) hl' hd m (Nat.le_refl _)).1
    have hv : msV (q' : Int) (q' : Int) n f m g = Lnm.sm (dsq g (Lnm.lin q' f)) m := by unfold msV; rw [if_pos hq, hF]
    rw [hv] at c
    obtain ⟨M, hM⟩ : ∃ M, M = Lnm.sm (dsq g (Lnm.lin q' f)) m := ⟨_, rfl⟩
    rw [← hM] at c hv0
    have hne : ¬ M < 0 := by omega
    have cW := l1In_any x 0 20
    cases hx : inB x 0 20
    · rw [hx] at cW
      clear hq hv h1 hpr hls hN hF hd hm hg hf hn hx hM hv0
      go_enter Try.func11, Try.ntmps11
      obtain ⟨i0, i1, i2⟩ := HS0.out.im3 1 rfl
      go_wp2_with fail
      refine c.mono ?_
      rintro e w1 ⟨rfl, hb⟩
      have HS1 := hide (HS0.out.next hb)
      clear c hb HS0 i0 i1 i2
      have hdm : decide (M < 0) = false := decide_eq_false (by omega)
      have HSe := hide (HS1.out.next (bnew w1 (.cells #[] 2)))
      obtain ⟨j0, j1, j2⟩ := HSe.out.im3 0 rfl
      obtain ⟨f0, f1, f2⟩ := HSe.out.fr3 0 rfl
      have HZ0 := hide (HSe.out.fill3 (.int .i64 0) (.int .i64 0) (.slice none 0 0))
      obtain ⟨we, hwe⟩ : ∃ we, w1.alloc (.cells #[] 2) = we := ⟨_, rfl⟩
      rw [hwe] at HZ0 j0 j1 j2 f0 f1 f2
      obtain ⟨wz, hz⟩ : ∃ wz, ((we.setCell ⟨w.heap.size + 1, 0, none⟩ (.int .i64 0)).setCell ⟨w.heap.size + 1, 1, none⟩ (.int .i64 0)).setCell ⟨w.heap.size + 1, 2, none⟩ (.slice none 0 0) = wz := ⟨_, rfl⟩
      rw [hz] at HZ0
      obtain ⟨z0, z1, z2⟩ := HZ0.out.im3 0 rfl
      have HB := hide HZ0.out.below
      clear HZ0 HSe HS1
      go_wp2_with fail
      refine (cW _).mono ?_
      rintro e w2 ⟨rfl, rfl⟩
      go_wp2_with fail
      exact bodyPost_ret (v := .tuple #[im 0 0 none 0 0, .slice (some ⟨w2.heap.size, 0, none⟩) 0 0]) (by simp [results, Try.results11, go_sem, z0, z1, z2]) rfl ⟨none, 0, 0, _, 0, 0, rfl, .inl rfl, .inl rfl, .inl rfl, .inl rfl, .inl rfl, HB.out⟩
    · rw [hx] at cW
      have hx2 : 0 ≤ x ∧ x ≤ 20 := inB_iff6.1 hx
      simp only [Bool.and_self, if_true]
      rw [Int.toNat_natCast]
      have hn0 : 0 < n := by rw [hn]; exact Nat.mul_pos (by omega) (by omega)
      have hn2 : n ≤ 961 := by rw [hn]; exact Nat.mul_le_mul p2 p2
      have hm2 : m ≤ 992 := by rw [hm]; exact Nat.mul_le_mul (show q' + 1 ≤ 32 by omega) p2
      obtain ⟨ba, off, rfl, -⟩ := HP.out.lt hn0
      obtain ⟨bg, og, rfl, -⟩ := HP'.out.lt (show 0 < m by omega)
      have cL := fun b c => specLines_any (q' : Int) (q' : Int) (some ⟨b, 0, none⟩) n c f hl
      rw [hN] at cL
      rw [hF] at cL
      unfold LsR at cL
      have HN := hide hn
      have HM := hide hm
      have HG := hide hg
      have HFB := hide hf
      have HMM := hide hM
      have HMB := hide hq
      have hdm : decide (M < 0) = false := decide_eq_false (by omega)
      have hne0 : (q' : Int) ≠ 0 := by omega
      clear hq hv h1 hpr hls hN hF hd hm hg hf hn hx hM hv0 hne
      go_enter Try.func11, Try.ntmps11
      obtain ⟨i0, i1, i2⟩ := HS0.out.im3 1 rfl
      go_wp2_with fail
      refine c.mono ?_
      rintro e w1 ⟨rfl, hb⟩
      have HS1 := hide (HS0.out.next hb)
      clear c hb HS0 i0 i1 i2
      obtain ⟨i0, i1, i2⟩ := HS1.out.im3 1 rfl
      go_wp2_with fail
      refine (cW _).mono ?_
      rintro e w2 ⟨rfl, rfl⟩
      clear cW
      go_upto_region 4 with fail
      go_cut [9] (fun sl wc => ∃ N b3 c3, sl = .pointer (some ⟨N, 0, none⟩) ∧ St w [(N, [.int .i64 q', .int .i64 q', .slice (some ⟨b3, 0, none⟩) n c3]), (w.heap.size + 1, [.int .i64 0, .int .i64 0, .slice none 0 0]), (w.heap.size, [.int .i64 q', .int .i64 q', .slice (some ⟨ba, off, none⟩) n cap])] [dcP b3 n f] wc)
      case first =>
        obtain ⟨ti, hi1, hi2, hi3, hi4⟩ := info2
        have HI1 := hide hi1
        clear hi1
        obtain ⟨G, hG⟩ : ∃ G : Nat → Value → Prop, G = (fun j v => match j with | 0 => v = .pointer (some ⟨w.heap.size, 0, none⟩) | 1 => v = .int .i64 q' | 2 => v = .pointer (some ⟨w.heap.size, 1, none⟩) | 3 => v = .int .i64 q' | 5 => v = .pointer (some ⟨w.heap.size, 2, none⟩) | 6 => v = .slice (some ⟨ba, off, none⟩) n cap | _ => True) := ⟨_, rfl⟩
        have G0 : Hid (∀ v, G 0 v ↔ v = .pointer (some ⟨w.heap.size, 0, none⟩)) := fun v => by rw [hG]; exact Iff.rfl
        have G1 : Hid (∀ v, G 1 v ↔ v = .int .i64 q') := fun v => by rw [hG]; exact Iff.rfl
        have G2 : Hid (∀ v, G 2 v ↔ v = .pointer (some ⟨w.heap.size, 1, none⟩)) := fun v => by rw [hG]; exact Iff.rfl
        have G3 : Hid (∀ v, G 3 v ↔ v = .int .i64 q') := fun v => by rw [hG]; exact Iff.rfl
        have G5 : Hid (∀ v, G 5 v ↔ v = .pointer (some ⟨w.heap.size, 2, none⟩)) := fun v => by rw [hG]; exact Iff.rfl
        have G6 : Hid (∀ v, G 6 v ↔ v = .slice (some ⟨ba, off, none⟩) n cap) := fun v => by rw [hG]; exact Iff.rfl
        have G4 : Hid (∀ v, G 4 v) := fun v => by rw [hG]; trivial
        have G7 : Hid (∀ v, G 7 v) := fun v => by rw [hG]; trivial
        have G8 : Hid (∀ v, G 8 v) := fun v => by rw [hG]; trivial
        have G9 : Hid (∀ v, G 9 v) := fun v => by rw [hG]; trivial
        have G10 : Hid (∀ v, G 10 v) := fun v => by rw [hG]; trivial
        clear hG
        refine region_opsV (crR w2) (crF w2 (q' : Int) (q' : Int) n f G) (by kernel_rfl) (by kernel_rfl) (by kernel_rfl) (by kernel_rfl) ⟨(Below.refl _ _).drew, fun N hN => by
          have e : Value.pointer (some ⟨N, 0, none⟩) = undef := hN.symm.trans (by kernel_rfl)
          simp [undef] at e⟩ ?_ ?_
        · refine ⟨?_, ?_, ?_, ?_, ?_, ?_, ?_, ?_, ?_, ?_, ?_, trivial⟩
          · intro u w21 au hsl hel hu hF hp' K hK
            have t3 : au.tmps[3]?.getD undef = .pointer (some ⟨w.heap.size, 0, none⟩) := (hel.out 3 (by kernel_rfl)).trans (by kernel_rfl)
            refine step_plain rfl ?_
            go_simp
            exact hK.out (.pointer (some ⟨w.heap.size, 0, none⟩)) _ (crR_up hF (Below.refl _ _) 0 (by omega) _) (crF_val 0 (by omega) (by omega) (by omega) (by omega) (by omega) ((G0.out _).2 rfl)) (fun j hj hf h => crF_up hn0 (Below.refl _ _) 0 (by omega) (by omega) _ (fun e => by omega) j hj (fun e => by omega) h)
          · intro u w21 au hsl hel hu hF hp' K hK
            have h0 : u 0 = .pointer (some ⟨w.heap.size, 0, none⟩) := (G0.out _).1 (PreF.get hp' 0 (by kernel_rfl)).1
            have t34 : au.tmps[34]?.getD undef = u 0 := hsl.out 0 34 (by kernel_rfl)
            rw [h0] at t34
            have xc : w21.cell? ⟨w.heap.size, 0, none⟩ = some (.int .i64 q') := (HS1.out.next hF.1).cell 1 rfl 0 rfl
            refine step_plain rfl ?_
            go_simp
            exact hK.out (.int .i64 q') _ (crR_up hF (Below.refl _ _) 1 (by omega) _) (crF_val 1 (by omega) (by omega) (by omega) (by omega) (by omega) ((G1.out _).2 rfl)) (fun j hj hf h => crF_up hn0 (Below.refl _ _) 1 (by omega) (by omega) _ (fun e => by omega) j hj (fun e => by omega) h)
          · intro u w21 au hsl hel hu hF hp' K hK
            have t3 : au.tmps[3]?.getD undef = .pointer (some ⟨w.heap.size, 0, none⟩) := (hel.out 3 (by kernel_rfl)).trans (by kernel_rfl)
            refine step_plain rfl ?_
            go_simp
            exact hK.out (.pointer (some ⟨w.heap.size, 1, none⟩)) _ (crR_up hF (Below.refl _ _) 2 (by omega) _) (crF_val 2 (by omega) (by omega) (by omega) (by omega) (by omega) ((G2.out _).2 rfl)) (fun j hj hf h => crF_up hn0 (Below.refl _ _) 2 (by omega) (by omega) _ (fun e => by omega) j hj (fun e => by omega) h)
          · intro u w21 au hsl hel hu hF hp' K hK
            have h2 : u 2 = .pointer (some ⟨w.heap.size, 1, none⟩) := (G2.out _).1 (PreF.get hp' 2 (by kernel_rfl)).1
            have t36 : au.tmps[36]?.getD undef = u 2 := hsl.out 2 36 (by kernel_rfl)
            rw [h2] at t36
            have xc : w21.cell? ⟨w.heap.size, 1, none⟩ = some (.int .i64 q') := (HS1.out.next hF.1).cell 1 rfl 1 rfl
            refine step_plain rfl ?_
            go_simp
            exact hK.out (.int .i64 q') _ (crR_up hF (Below.refl _ _) 3 (by omega) _) (crF_val 3 (by omega) (by omega) (by omega) (by omega) (by omega) ((G3.out _).2 rfl)) (fun j hj hf h => crF_up hn0 (Below.refl _ _) 3 (by omega) (by omega) _ (fun e => by omega) j hj (fun e => by omega) h)
          · intro u w21 au hsl hel hu hF hp' K hK
            refine step_plain rfl ?_
            go_simp
            have hs := hF.1.size
            exact hK.out (.slice (some ⟨w21.heap.size, 0, none⟩) 0 0) _ (crR_up hF (bnew _ _) 4 (by omega) _) ⟨G4.out _, fun _ => .inr ⟨_, upU_same _ _ _, hs, World.alloc_heap_new _ _, fun N hN _ => by rw [upU_other _ _ (by omega)] at hN; exact Ne.symm (Nat.ne_of_lt (hF.2 N hN))⟩, fun e => by omega, fun e => by omega, fun e => by omega, fun e => by omega⟩ (fun j hj hf h => crF_up hn0 (bnew _ _) 4 (by omega) (by omega) _ (fun e => by omega) j hj (fun e => by omega) h)
          · intro u w21 au hsl hel hu hF hp' K hK
            have t3 : au.tmps[3]?.getD undef = .pointer (some ⟨w.heap.size, 0, none⟩) := (hel.out 3 (by kernel_rfl)).trans (by kernel_rfl)
            refine step_plain rfl ?_
            go_simp
            exact hK.out (.pointer (some ⟨w.heap.size, 2, none⟩)) _ (crR_up hF (Below.refl _ _) 5 (by omega) _) (crF_val 5 (by omega) (by omega) (by omega) (by omega) (by omega) ((G5.out _).2 rfl)) (fun j hj hf h => crF_up hn0 (Below.refl _ _) 5 (by omega) (by omega) _ (fun e => by omega) j hj (fun e => by omega) h)
          · intro u w21 au hsl hel hu hF hp' K hK
            have h5 : u 5 = .pointer (some ⟨w.heap.size, 2, none⟩) := (G5.out _).1 (PreF.get hp' 5 (by kernel_rfl)).1
            have t39 : au.tmps[39]?.getD undef = u 5 := hsl.out 5 39 (by kernel_rfl)
            rw [h5] at t39
            have xc : w21.cell? ⟨w.heap.size, 2, none⟩ = some (.slice (some ⟨ba, off, none⟩) n cap) := (HS1.out.next hF.1).cell 1 rfl 2 rfl
            refine step_plain rfl ?_
            go_simp
            exact hK.out (.slice (some ⟨ba, off, none⟩) n cap) _ (crR_up hF (Below.refl _ _) 6 (by omega) _) (crF_val 6 (by omega) (by omega) (by omega) (by omega) (by omega) ((G6.out _).2 rfl)) (fun j hj hf h => crF_up hn0 (Below.refl _ _) 6 (by omega) (by omega) _ (fun e => by omega) j hj (fun e => by omega) h)
          · intro u w21 au hsl hel hu hF hp' K hK
            have h7 : u 7 = undef := (hu.out 7 (by decide) (.inl rfl)).trans (by kernel_rfl)
            obtain ⟨e4, a1, a2, a3, a4⟩ := ((PreF.get hp' 4 (by kernel_rfl)).2.1 rfl).resolve_left (fun hh => hh h7)
            have h6 : u 6 = .slice (some ⟨ba, off, none⟩) n cap := (G6.out _).1 (PreF.get hp' 6 (by kernel_rfl)).1
            have t38 : au.tmps[38]?.getD undef = u 4 := hsl.out 4 38 (by kernel_rfl)
            rw [a1] at t38
            have t40 : au.tmps[40]?.getD undef = u 6 := hsl.out 6 40 (by kernel_rfl)
            rw [h6] at t40
            have HE : Hid (w21.ownsRow w2.heap.size 2 1 (.slice (some ⟨e4, 0, none⟩) 0 0) 0 []) := ⟨by simp, .inr ⟨e4, 0, #[], rfl, a2, a3, Nat.le_refl _, by unfold maxLen; omega, rfl, rfl⟩⟩
            have HNW : Hid (∀ j x, (ints (fl f n))[j]? = some x → w21.cell? ((⟨ba, off, none⟩ : Addr).add j) = some x) := fun j x hx => by
              obtain ⟨hj, rfl⟩ := ints_fl f n j x hx
              rw [Addr.add_lit]
              rcases HP.out.below (HS1.out.next hF.1).below with h0 | ⟨_, _, heq, hc⟩
              · omega
              · cases heq; exact hc j hj
            have hB21 : w2.heap.size ≤ w21.heap.size := hF.1.size
            refine step_append_lies _ (by rfl) _ _ _ (by rfl) w2.heap.size 2 ti _ 1 8 Try.underlying24 HI1.out hi2 hi3 hi4 rfl (by omega) (.slice (some ⟨e4, 0, none⟩) 0 0) 0 [] (by rw [eval_tmp]; exact t38) HE.out ⟨ba, off, none⟩ n cap (ints (fl f n)) (by rw [eval_tmp]; exact t40) (by rw [ints_length, fl_len, Nat.mul_one]) HNW.out (ints_one _) hn0 (by unfold maxLen; omega) (by omega) hB21 w21.heap.size rfl ?_
            intro gg cc w22 hown hgrow hat hlt
            rw [Nat.zero_add] at hown ⊢
            obtain ⟨_, _, _, heq, how, -⟩ := ow_fl hown
            cases heq
            obtain ⟨hge, hrow⟩ := how.resolve_left (by omega)
            cases hge
            have hgB : w2.heap.size ≤ gg := (hown.lt gg rfl).1
            have hR22 : Below w2.heap.size w2 w22 := hF.1.grown hgrow hB21 (fun k e => by cases e; exact a2)
            exact hK.out (.slice (some ⟨gg, 0, none⟩) n cc) _ ⟨hR22, fun N hN => by rw [upU_other _ _ (by omega)] at hN; exact Nat.lt_of_lt_of_le (hF.2 N hN) hgrow.size⟩ ⟨G7.out _, fun e => by omega, fun _ => ⟨gg, cc, upU_same _ _ _, hgB, hrow, fun N hN hB => by
              rw [upU_other _ _ (by omega)] at hN
              rcases hat with e1 | e1
              · cases e1; exact a4 N hN hB
              · rw [e1]; exact Ne.symm (Nat.ne_of_lt (hF.2 N hN))⟩, fun e => by omega, fun e => by omega, fun e => by omega⟩ (fun j hj hf h => crF_ap a3 hgrow (by simp [undef]) j hj (fun e => by subst e; exact absurd (Eq.trans (Eq.symm (by kernel_rfl)) hf) Bool.false_ne_true) (fun e => by subst e; exact absurd (Eq.trans (Eq.symm (by kernel_rfl)) hf) Bool.false_ne_true) h)
          · intro u w21 au hsl hel hu hF hp' K hK
            have h1 : u 1 = .int .i64 q' := (G1.out _).1 (PreF.get hp' 1 (by kernel_rfl)).1
            have h3 : u 3 = .int .i64 q' := (G3.out _).1 (PreF.get hp' 3 (by kernel_rfl)).1
            obtain ⟨b7, c7, h7, -⟩ := (PreF.get hp' 7 (by kernel_rfl)).2.2.1 rfl
            have t35 : au.tmps[35]?.getD undef = u 1 := hsl.out 1 35 (by kernel_rfl)
            rw [h1] at t35
            have t37 : au.tmps[37]?.getD undef = u 3 := hsl.out 3 37 (by kernel_rfl)
            rw [h3] at t37
            have t41 : au.tmps[41]?.getD undef = u 7 := hsl.out 7 41 (by kernel_rfl)
            rw [h7] at t41
            refine step_plain rfl ?_
            go_simp
            exact hK.out (.agg #[.int .i64 q', .int .i64 q', .slice (some ⟨b7, 0, none⟩) n c7]) _ (crR_up hF (Below.refl _ _) 8 (by omega) _) ⟨G8.out _, fun e => by omega, fun e => by omega, fun _ => ⟨b7, c7, (upU_other _ _ (by omega)).trans h7, upU_same _ _ _⟩, fun e => by omega, fun e => by omega⟩ (fun j hj hf h => crF_up hn0 (Below.refl _ _) 8 (by omega) (by omega) _ (fun e => by omega) j hj (fun e => by omega) h)
          · intro u w21 au hsl hel hu hF hp' K hK
            refine step_plain rfl ?_
            go_simp
            have hs := hF.1.size
            exact hK.out (.pointer (some ⟨w21.heap.size, 0, none⟩)) _ ⟨hF.1.alloc hs _, fun N hN => by rw [upU_same] at hN; cases hN; simp⟩ ⟨G9.out _, fun e => by omega, fun e => by omega, fun e => by omega, fun _ => ⟨_, upU_same _ _ _, hs, by simp, .inr (Bx.new [.int .i64 0, .int .i64 0, .slice none 0 0] _ _)⟩, fun e => by omega⟩ (fun j hj hf h => crF_up hn0 (bnew _ _) 9 (by omega) (by omega) _ (fun _ => rfl) j hj (fun e => by subst e; exact absurd (Eq.trans (Eq.symm (by kernel_rfl)) hf) Bool.false_ne_true) h)
          · intro u w21 au hsl hel hu hF hp' K hK
            have h10 : u 10 = undef := (hu.out 10 (by decide) (.inl rfl)).trans (by kernel_rfl)
            obtain ⟨b7, c7, h7, h8⟩ := (PreF.get hp' 8 (by kernel_rfl)).2.2.2.1 rfl
            obtain ⟨N, h9, hNB, hNl, hbx⟩ := (PreF.get hp' 9 (by kernel_rfl)).2.2.2.2.1 rfl
            have bx := hbx.resolve_left (fun hh => hh h10)
            have t42 : au.tmps[42]?.getD undef = u 8 := hsl.out 8 42 (by kernel_rfl)
            rw [h8] at t42
            have t9 : au.tmps[9]?.getD undef = u 9 := hsl.out 9 9 (by kernel_rfl)
            rw [h9] at t9
            obtain ⟨x0, y0⟩ := bx 0 _ rfl
            obtain ⟨x1, y1⟩ := bx 1 _ rfl
            obtain ⟨x2, y2⟩ := bx 2 _ rfl
            have HK := hide hK
            have HFF := hide hF
            have HBX := hide bx
            clear bx
            refine step_plain rfl ?_
            go_simp
            have hkz : Kept N w21 (((w21.setCell ⟨N, 0, none⟩ (.int .i64 q')).setCell ⟨N, 1, none⟩ (.int .i64 q')).setCell ⟨N, 2, none⟩ (.slice (some ⟨b7, 0, none⟩) n c7)) := (((Kept.refl N w21).setCell (a := ⟨N, 0, none⟩) rfl (.int .i64 q')).setCell (a := ⟨N, 1, none⟩) rfl (.int .i64 q')).setCell (a := ⟨N, 2, none⟩) rfl (.slice (some ⟨b7, 0, none⟩) n c7)
            exact hK.out (.bool true) _ ⟨hF.1.trans (hkz.below hNB hF.1.size), fun M hM => by rw [upU_other _ _ (by omega)] at hM; exact Nat.lt_of_lt_of_le (hF.2 M hM) hkz.size⟩ ⟨G10.out _, fun e => by omega, fun e => by omega, fun e => by omega, fun e => by omega, fun _ => ⟨N, b7, c7, (upU_other _ _ (by omega)).trans h9, (upU_other _ _ (by omega)).trans h7, hNB, Nat.lt_of_lt_of_le hNl hkz.size, ((HBX.out.set 0 (.int .i64 q')).set 1 (.int .i64 q')).set 2 (.slice (some ⟨b7, 0, none⟩) n c7)⟩⟩ (fun j hj _ h => crF_st h9 hNB hkz (by simp [undef]) (by rw [h7]; simp [undef]) j hj h)
        · intro u w30 hF hall
          obtain ⟨N, b7, c7, h9, h7, hNB, hNl, bx⟩ := (hall 10 (by decide)).2.2.2.2.2 rfl
          obtain ⟨_, _, h7', hbB, hrow, hne⟩ := (hall 7 (by decide)).2.2.1 rfl
          rw [h7] at h7'
          cases h7'
          have hnN := hne N h9 hNB
          have HSN : Hid (St w [(N, [.int .i64 q', .int .i64 q', .slice (some ⟨b7, 0, none⟩) n c7]), (w.heap.size + 1, [.int .i64 0, .int .i64 0, .slice none 0 0]), (w.heap.size, [.int .i64 q', .int .i64 q', .slice (some ⟨ba, off, none⟩) n cap])] [dcP b7 n f] w30) :=
            hide ((HS1.out.own hF.1 hrow.v (.inr hbB)).takeB bx hNl (by have := HS1.out.below.size; omega) (by
              intro hm
              simp [blocks, show n ≠ 0 by omega] at hm
              have hl := (HS1.out.ltB 0 rfl).2
              omega))
          clear hall bx hrow hne
          simp only [rgPut, Act.put]
          rw [h9]
          go_simp
          go_wp2_with fail
          go_meet
          exact ⟨N, b7, c7, rfl, HSN.out⟩
      case rest =>
      obtain ⟨N, b3, c3, rfl, hS⟩ := hcut
      obtain ⟨w4, hw4⟩ : ∃ w4, w4 = wc := ⟨_, rfl⟩
      rw [← hw4] at hS
      rw [← hw4]
      have HS4 := hide hS
      have hNn : N < w4.heap.size := (HS4.out.ltB 0 rfl).2
      have h3n : b3 < w4.heap.size := (HS4.out.lt b3 (mem_blocks_own (x := dcP b3 n f) (List.mem_cons_self ..) (show n ≠ 0 by omega))).2
      have hAn : w.heap.size + 1 < w4.heap.size := (HS4.out.ltB 1 rfl).2
      clear hw4 hS HS1 i0 i1 i2
      have HM0 : Hid (M = dcT q' m g f 0) := HMM.out
      have HO5 : Hid ((w4.alloc (.cells #[.int .i64 M] 2)).ownsRow w.heap.size 2 1 (.slice (some ⟨w4.heap.size, 0, none⟩) 1 1) 1 (ints (fl (dcT q' m g f) (0 + 1)))) := by
        show World.ownsRow _ _ _ _ _ _ [.int .i64 (dcT q' m g f 0)]
        rw [← HM0.out]
        exact World.ownsRow_lit w4 #[.int .i64 M] 1 HS4.out.below.size (by unfold maxLen; omega) rfl
      have HS5 := hide (HS4.out.next (bnew w4 (.cells #[.int .i64 M] 2)))
      obtain ⟨i0, i1, i2⟩ := HS5.out.im3 2 rfl
      obtain ⟨N0, N1, N2⟩ := HS5.out.im3 0 rfl
      have pA := (HS5.out.nthO 0 rfl).px
      go_wp2_with fail
      refine (cL b3 c3 _ pA).mono ?_
      rintro e w6 ⟨a5, c5, bR, rfl, ho5, h15, hb5⟩
      obtain ⟨ra, -⟩ := ho5.resolve_left hm0
      subst ra
      have hRn : w4.heap.size < bR := by have := h15.resolve_left hm0; simp at this; omega
      have HS6 := hide (HS5.out.own hb5 ho5.v h15)
      have HO6 : Hid (w6.ownsRow w.heap.size 2 1 (.slice (some ⟨w4.heap.size, 0, none⟩) 1 1) 1 (ints (fl (dcT q' m g f) (0 + 1)))) := ownsRow_below' HO5.out hb5
      have HNS : Hid (∀ b ∈ [N, w.heap.size + 1, w.heap.size, b3, bR], Value.ownBlock (.slice (some ⟨w4.heap.size, 0, none⟩) 1 1) ≠ some b) := fun b hb e => by
        simp [Value.ownBlock] at hb e
        omega
      clear cL HS4 HS5 HO5 HM0 ho5 h15 hb5 i0 i1 i2 N0 N1 N2 pA hNn h3n hAn hRn
      generalize Value.slice (some ⟨w4.heap.size, 0, none⟩) 1 1 = v0 at *
      have HLB : Hid (∀ k, k < m → -126945 ≤ Lnm.lin q' f k ∧ Lnm.lin q' f k ≤ 126945) := fun k _ => lin_bound (show 0 < q' by omega) p2 (fun j hj => HFB.out j (by rw [HN.out]; exact hj)) k
      obtain ⟨lq, hlq⟩ : ∃ lq, lq = Lnm.lin q' f := ⟨_, rfl⟩
      rw [← hlq] at HS6 HLB
      have HLQ := hide hlq
      clear hlq
      go_wp2_with fail
      go_loopw [13] (fun i wi => ∃ k : Nat, k ≤ m ∧ i = .int .i64 k ∧ St w [(N, [.int .i64 q', .int .i64 q', .slice (some ⟨b3, 0, none⟩) n c3]), (w.heap.size + 1, [.int .i64 0, .int .i64 0, .slice none 0 0]), (w.heap.size, [.int .i64 q', .int .i64 q', .slice (some ⟨ba, off, none⟩) n cap])] [dcP bR m (dfK g lq k), dcP b3 n f] wi ∧ KpS (fun b => b = bR) w6 wi) (fun i _ => m - (intOf i).toNat)
      case atStart => exact ⟨0, Nat.zero_le _, rfl, by rw [dfK_zero]; exact HS6.out, KpS.refl _ _⟩
      case round =>
        obtain ⟨k, hk, rfl, hst, hkp⟩ := hrel
        clear HS6
        by_cases hlt : k < m
        · obtain ⟨_, _, heq, hxg⟩ := (HP'.out.below hst.below).at hlt
          cases heq
          obtain ⟨hxl, hxf⟩ := hst.atO hlt
          rw [dfK_at] at hxl
          have hgb := HG.out k hlt
          have hlb := HLB.out k hlt
          have hstep := dfK_step g lq k
          have hSN := hst.drew.upd hlt (g k - lq k)
          have hKN := hkp.drew.setCell (a := ⟨bR, k, none⟩) rfl (.int .i64 (g k - lq k))
          have HXG := hide hxg
          have HXL := hide hxl
          have HXF := hide hxf
          obtain ⟨D, hD⟩ : ∃ D, D = g k - lq k := ⟨_, rfl⟩
          have wD : IntKind.i64.wrap (g k - lq k) = D := by rw [IntKind.wrap_i64]; omega
          rw [← hD] at hSN hKN
          have HSN : Hid (St w [(N, [.int .i64 q', .int .i64 q', .slice (some ⟨b3, 0, none⟩) n c3]), (w.heap.size + 1, [.int .i64 0, .int .i64 0, .slice none 0 0]), (w.heap.size, [.int .i64 q', .int .i64 q', .slice (some ⟨ba, off, none⟩) n cap])] [dcP bR m (dfK g lq (k + 1)), dcP b3 n f] (wr.drew.setCell ⟨bR, k, none⟩ (.int .i64 D))) := (St.cong2 (hSN.permO (List.Perm.swap ..)) (fun q _ => by rw [hD]; exact hstep q)).permO (List.Perm.swap ..)
          have HKN := hide hKN
          have HLT := hide hlt
          clear hst hkp hxg hxl hxf hgb hlb hstep hSN hKN hD
          generalize g k = GK at *
          generalize lq k = LK at *
          go_upto_region 11 with fail
          obtain ⟨G, hG⟩ : ∃ G : Nat → Value → Prop, G = (fun j v => match j with | 0 => v = .slice (some ⟨bR, 0, none⟩) m c5 | 1 => v = .int .i64 (k : Int) | 2 => v = .slice (some ⟨bg, og, none⟩) m cap' | 3 => v = .int .i64 (k : Int) | 4 => v = .pointer (some ⟨bg, og + k, none⟩) | 5 => v = .int .i64 GK | 6 => v = .slice (some ⟨bR, 0, none⟩) m c5 | 7 => v = .int .i64 (k : Int) | 8 => v = .pointer (some ⟨bR, k, none⟩) | 9 => v = .int .i64 LK | 10 => v = .int .i64 D | 11 => v = .pointer (some ⟨bR, k, none⟩) | _ => True) := ⟨_, rfl⟩
          have G0 : Hid (∀ v, G 0 v ↔ v = .slice (some ⟨bR, 0, none⟩) m c5) := fun v => by rw [hG]; exact Iff.rfl
          have G1 : Hid (∀ v, G 1 v ↔ v = .int .i64 (k : Int)) := fun v => by rw [hG]; exact Iff.rfl
          have G2 : Hid (∀ v, G 2 v ↔ v = .slice (some ⟨bg, og, none⟩) m cap') := fun v => by rw [hG]; exact Iff.rfl
          have G3 : Hid (∀ v, G 3 v ↔ v = .int .i64 (k : Int)) := fun v => by rw [hG]; exact Iff.rfl
          have G4 : Hid (∀ v, G 4 v ↔ v = .pointer (some ⟨bg, og + k, none⟩)) := fun v => by rw [hG]; exact Iff.rfl
          have G5 : Hid (∀ v, G 5 v ↔ v = .int .i64 GK) := fun v => by rw [hG]; exact Iff.rfl
          have G6 : Hid (∀ v, G 6 v ↔ v = .slice (some ⟨bR, 0, none⟩) m c5) := fun v => by rw [hG]; exact Iff.rfl
          have G7 : Hid (∀ v, G 7 v ↔ v = .int .i64 (k : Int)) := fun v => by rw [hG]; exact Iff.rfl
          have G8 : Hid (∀ v, G 8 v ↔ v = .pointer (some ⟨bR, k, none⟩)) := fun v => by rw [hG]; exact Iff.rfl
          have G9 : Hid (∀ v, G 9 v ↔ v = .int .i64 LK) := fun v => by rw [hG]; exact Iff.rfl
          have G10 : Hid (∀ v, G 10 v ↔ v = .int .i64 D) := fun v => by rw [hG]; exact Iff.rfl
          have G11 : Hid (∀ v, G 11 v ↔ v = .pointer (some ⟨bR, k, none⟩)) := fun v => by rw [hG]; exact Iff.rfl
          have G12 : Hid (∀ v, G 12 v) := fun v => by rw [hG]; trivial
          clear hG
          obtain ⟨PP, hPP⟩ : ∃ P : World → Prop, P = (fun wx => wx = wr.drew.setCell ⟨bR, k, none⟩ (.int .i64 D)) := ⟨_, rfl⟩
          refine region_opsV (sR 12 wr) (sF 12 G PP) (by kernel_rfl) (by kernel_rfl) (by kernel_rfl) (by kernel_rfl) (fun _ => rfl) ?_ ?_
          · refine ⟨?_, ?_, ?_, ?_, ?_, ?_, ?_, ?_, ?_, ?_, ?_, ?_, ?_, trivial⟩
            ·
              intro u w21 au hsl hel hu hF hp' K hK
              have t12 : au.tmps[12]?.getD undef = .slice (some ⟨bR, 0, none⟩) m c5 := (hel.out 12 (by kernel_rfl)).trans (by kernel_rfl)
              refine step_plain rfl ?_
              go_simp
              exact hK.out (.slice (some ⟨bR, 0, none⟩) m c5) _ (sR_up hF 0 (by omega) _) (sF_val 0 (by omega) ((G0.out _).2 rfl)) (fun j hj hf h => sF_up 0 _ j hj (fun e => by subst e; exact absurd (Eq.trans (Eq.symm (by kernel_rfl)) hf) Bool.false_ne_true) h)
            ·
              intro u w21 au hsl hel hu hF hp' K hK
              have t13 : au.tmps[13]?.getD undef = .int .i64 (k : Int) := (hel.out 13 (by kernel_rfl)).trans (by kernel_rfl)
              refine step_plain rfl ?_
              go_simp
              exact hK.out (.int .i64 (k : Int)) _ (sR_up hF 1 (by omega) _) (sF_val 1 (by omega) ((G1.out _).2 rfl)) (fun j hj hf h => sF_up 1 _ j hj (fun e => by subst e; exact absurd (Eq.trans (Eq.symm (by kernel_rfl)) hf) Bool.false_ne_true) h)
            ·
              intro u w21 au hsl hel hu hF hp' K hK
              have t1 : au.tmps[1]?.getD undef = .slice (some ⟨bg, og, none⟩) m cap' := (hel.out 1 (by kernel_rfl)).trans (by kernel_rfl)
              refine step_plain rfl ?_
              go_simp
              exact hK.out (.slice (some ⟨bg, og, none⟩) m cap') _ (sR_up hF 2 (by omega) _) (sF_val 2 (by omega) ((G2.out _).2 rfl)) (fun j hj hf h => sF_up 2 _ j hj (fun e => by subst e; exact absurd (Eq.trans (Eq.symm (by kernel_rfl)) hf) Bool.false_ne_true) h)
            ·
              intro u w21 au hsl hel hu hF hp' K hK
              have t13 : au.tmps[13]?.getD undef = .int .i64 (k : Int) := (hel.out 13 (by kernel_rfl)).trans (by kernel_rfl)
              refine step_plain rfl ?_
              go_simp
              exact hK.out (.int .i64 (k : Int)) _ (sR_up hF 3 (by omega) _) (sF_val 3 (by omega) ((G3.out _).2 rfl)) (fun j hj hf h => sF_up 3 _ j hj (fun e => by subst e; exact absurd (Eq.trans (Eq.symm (by kernel_rfl)) hf) Bool.false_ne_true) h)
            ·
              intro u w21 au hsl hel hu hF hp' K hK
              have h2 : u 2 = .slice (some ⟨bg, og, none⟩) m cap' := (G2.out _).1 (PreF.get hp' 2 (by kernel_rfl)).1
              have t57 : au.tmps[57]?.getD undef = u 2 := hsl.out 2 57 (by kernel_rfl)
              rw [h2] at t57
              have h3 : u 3 = .int .i64 (k : Int) := (G3.out _).1 (PreF.get hp' 3 (by kernel_rfl)).1
              have t58 : au.tmps[58]?.getD undef = u 3 := hsl.out 3 58 (by kernel_rfl)
              rw [h3] at t58
              refine step_plain rfl ?_
              go_simp
              exact hK.out (.pointer (some ⟨bg, og + k, none⟩)) _ (sR_up hF 4 (by omega) _) (sF_val 4 (by omega) ((G4.out _).2 rfl)) (fun j hj hf h => sF_up 4 _ j hj (fun e => by subst e; exact absurd (Eq.trans (Eq.symm (by kernel_rfl)) hf) Bool.false_ne_true) h)
            ·
              intro u w21 au hsl hel hu hF hp' K hK
              have h4 : u 4 = .pointer (some ⟨bg, og + k, none⟩) := (G4.out _).1 (PreF.get hp' 4 (by kernel_rfl)).1
              have t59 : au.tmps[59]?.getD undef = u 4 := hsl.out 4 59 (by kernel_rfl)
              rw [h4] at t59
              have hw : w21 = wr.drew := hF ((hu.out 12 (by decide) (.inr (by kernel_rfl))).trans (by kernel_rfl))
              have xc : w21.cell? ⟨bg, og + k, none⟩ = some (.int .i64 GK) := by rw [hw]; exact HXG.out
              clear hw
              refine step_plain rfl ?_
              go_simp
              exact hK.out (.int .i64 GK) _ (sR_up hF 5 (by omega) _) (sF_val 5 (by omega) ((G5.out _).2 rfl)) (fun j hj hf h => sF_up 5 _ j hj (fun e => by subst e; exact absurd (Eq.trans (Eq.symm (by kernel_rfl)) hf) Bool.false_ne_true) h)
            ·
              intro u w21 au hsl hel hu hF hp' K hK
              have t12 : au.tmps[12]?.getD undef = .slice (some ⟨bR, 0, none⟩) m c5 := (hel.out 12 (by kernel_rfl)).trans (by kernel_rfl)
              refine step_plain rfl ?_
              go_simp
              exact hK.out (.slice (some ⟨bR, 0, none⟩) m c5) _ (sR_up hF 6 (by omega) _) (sF_val 6 (by omega) ((G6.out _).2 rfl)) (fun j hj hf h => sF_up 6 _ j hj (fun e => by subst e; exact absurd (Eq.trans (Eq.symm (by kernel_rfl)) hf) Bool.false_ne_true) h)
            ·
              intro u w21 au hsl hel hu hF hp' K hK
              have t13 : au.tmps[13]?.getD undef = .int .i64 (k : Int) := (hel.out 13 (by kernel_rfl)).trans (by kernel_rfl)
              refine step_plain rfl ?_
              go_simp
              exact hK.out (.int .i64 (k : Int)) _ (sR_up hF 7 (by omega) _) (sF_val 7 (by omega) ((G7.out _).2 rfl)) (fun j hj hf h => sF_up 7 _ j hj (fun e => by subst e; exact absurd (Eq.trans (Eq.symm (by kernel_rfl)) hf) Bool.false_ne_true) h)
            ·
              intro u w21 au hsl hel hu hF hp' K hK
              have h6 : u 6 = .slice (some ⟨bR, 0, none⟩) m c5 := (G6.out _).1 (PreF.get hp' 6 (by kernel_rfl)).1
              have t61 : au.tmps[61]?.getD undef = u 6 := hsl.out 6 61 (by kernel_rfl)
              rw [h6] at t61
              have h7 : u 7 = .int .i64 (k : Int) := (G7.out _).1 (PreF.get hp' 7 (by kernel_rfl)).1
              have t62 : au.tmps[62]?.getD undef = u 7 := hsl.out 7 62 (by kernel_rfl)
              rw [h7] at t62
              refine step_plain rfl ?_
              go_simp
              exact hK.out (.pointer (some ⟨bR, k, none⟩)) _ (sR_up hF 8 (by omega) _) (sF_val 8 (by omega) ((G8.out _).2 rfl)) (fun j hj hf h => sF_up 8 _ j hj (fun e => by subst e; exact absurd (Eq.trans (Eq.symm (by kernel_rfl)) hf) Bool.false_ne_true) h)
            ·
              intro u w21 au hsl hel hu hF hp' K hK
              have h8 : u 8 = .pointer (some ⟨bR, k, none⟩) := (G8.out _).1 (PreF.get hp' 8 (by kernel_rfl)).1
              have t63 : au.tmps[63]?.getD undef = u 8 := hsl.out 8 63 (by kernel_rfl)
              rw [h8] at t63
              have hw : w21 = wr.drew := hF ((hu.out 12 (by decide) (.inr (by kernel_rfl))).trans (by kernel_rfl))
              have xc : w21.cell? ⟨bR, k, none⟩ = some (.int .i64 LK) := by rw [hw]; exact HXL.out
              clear hw
              refine step_plain rfl ?_
              go_simp
              exact hK.out (.int .i64 LK) _ (sR_up hF 9 (by omega) _) (sF_val 9 (by omega) ((G9.out _).2 rfl)) (fun j hj hf h => sF_up 9 _ j hj (fun e => by subst e; exact absurd (Eq.trans (Eq.symm (by kernel_rfl)) hf) Bool.false_ne_true) h)
            ·
              intro u w21 au hsl hel hu hF hp' K hK
              have h5 : u 5 = .int .i64 GK := (G5.out _).1 (PreF.get hp' 5 (by kernel_rfl)).1
              have t60 : au.tmps[60]?.getD undef = u 5 := hsl.out 5 60 (by kernel_rfl)
              rw [h5] at t60
              have h9 : u 9 = .int .i64 LK := (G9.out _).1 (PreF.get hp' 9 (by kernel_rfl)).1
              have t64 : au.tmps[64]?.getD undef = u 9 := hsl.out 9 64 (by kernel_rfl)
              rw [h9] at t64
              refine step_plain rfl ?_
              go_simp
              exact hK.out (.int .i64 D) _ (sR_up hF 10 (by omega) _) (sF_val 10 (by omega) ((G10.out _).2 rfl)) (fun j hj hf h => sF_up 10 _ j hj (fun e => by subst e; exact absurd (Eq.trans (Eq.symm (by kernel_rfl)) hf) Bool.false_ne_true) h)
            ·
              intro u w21 au hsl hel hu hF hp' K hK
              have h0 : u 0 = .slice (some ⟨bR, 0, none⟩) m c5 := (G0.out _).1 (PreF.get hp' 0 (by kernel_rfl)).1
              have t55 : au.tmps[55]?.getD undef = u 0 := hsl.out 0 55 (by kernel_rfl)
              rw [h0] at t55
              have h1 : u 1 = .int .i64 (k : Int) := (G1.out _).1 (PreF.get hp' 1 (by kernel_rfl)).1
              have t56 : au.tmps[56]?.getD undef = u 1 := hsl.out 1 56 (by kernel_rfl)
              rw [h1] at t56
              refine step_plain rfl ?_
              go_simp
              exact hK.out (.pointer (some ⟨bR, k, none⟩)) _ (sR_up hF 11 (by omega) _) (sF_val 11 (by omega) ((G11.out _).2 rfl)) (fun j hj hf h => sF_up 11 _ j hj (fun e => by subst e; exact absurd (Eq.trans (Eq.symm (by kernel_rfl)) hf) Bool.false_ne_true) h)
            ·
              intro u w21 au hsl hel hu hF hp' K hK
              have h11 : u 11 = .pointer (some ⟨bR, k, none⟩) := (G11.out _).1 (PreF.get hp' 11 (by kernel_rfl)).1
              have t66 : au.tmps[66]?.getD undef = u 11 := hsl.out 11 66 (by kernel_rfl)
              rw [h11] at t66
              have h10 : u 10 = .int .i64 D := (G10.out _).1 (PreF.get hp' 10 (by kernel_rfl)).1
              have t65 : au.tmps[65]?.getD undef = u 10 := hsl.out 10 65 (by kernel_rfl)
              rw [h10] at t65
              have hw : w21 = wr.drew := hF ((hu.out 12 (by decide) (.inl rfl)).trans (by kernel_rfl))
              have xc : w21.cell? ⟨bR, k, none⟩ = some (.int .i64 LK) := by rw [hw]; exact HXL.out
              have xf : w21.frozen? ⟨bR, k, none⟩ = false := by rw [hw]; exact HXF.out
              have HW21 := hide hw
              clear hw
              refine step_plain rfl ?_
              go_simp
              exact hK.out (.bool true) _ (sR_st (by simp [undef])) (sF_st (G12.out _) (by rw [hPP, HW21.out])) (fun j hj _ h => sF_keep _ j hj h)
          · intro u w30 hF hall
            have hp := (hall 12 (by decide)).2 rfl
            rw [hPP] at hp
            have HE := hide hp
            clear hF hall hp
            simp only [rgPut, Act.put]
            go_simp
            have HL := hide HSN.out
            have HL2 := hide HKN.out
            rw [← HE.out] at HL HL2
            clear HSN HKN HE
            have hlt := HLT.out
            go_wp2_with fail
            exact ⟨⟨k + 1, by omega, rfl, HL.out, HL2.out⟩, by simp [intOf]; omega⟩
        · obtain rfl : k = m := by omega
          have HS7 : Hid (St w [(N, [.int .i64 q', .int .i64 q', .slice (some ⟨b3, 0, none⟩) n c3]), (w.heap.size + 1, [.int .i64 0, .int .i64 0, .slice none 0 0]), (w.heap.size, [.int .i64 q', .int .i64 q', .slice (some ⟨ba, off, none⟩) n cap])] [dcP b3 n (dcR q' g f 0), dcP bR k (rsl q' g (dcR q' g f 0))] wr) := St.cong2 (hst.permO (List.Perm.swap ..)) (fun q hq => by unfold dfK; rw [if_pos hq, HLQ.out]; rfl)
          have HO7 : Hid (wr.ownsRow w.heap.size 2 1 v0 (0 + 1) (ints (fl (dcT q' k g f) (0 + 1)))) := owns_same HO6.out (fun b hb => hkp.block b (HO6.out.lt b hb).2 (fun e => HNS.out b (by rw [e]; simp) hb))
          clear hst hkp HO6 HLB HLQ hlt hk
          obtain ⟨m, rfl⟩ : ∃ m, m = k := ⟨_, rfl⟩
          obtain ⟨R, rfl⟩ : ∃ R : Nat, x = (R : Int) := ⟨x.toNat, by omega⟩
          rw [Int.toNat_natCast]
          have HBS : Hid (∀ s t : Nat → Int, blocks [(N, [.int .i64 q', .int .i64 q', .slice (some ⟨b3, 0, none⟩) n c3]), (w.heap.size + 1, [.int .i64 0, .int .i64 0, .slice none 0 0]), (w.heap.size, [.int .i64 q', .int .i64 q', .slice (some ⟨ba, off, none⟩) n cap])] [dcP b3 n (s), dcP bR m (t)] = [N, w.heap.size + 1, w.heap.size, b3, bR]) := fun s t => by simp [blocks, show n ≠ 0 by omega, hm0]
          obtain ⟨w7, hw7⟩ : ∃ w7, w7 = wr := ⟨_, rfl⟩
          rw [← hw7] at HS7 HO7
          rw [← hw7]
          clear hw7
          go_wp2_with fail
          go_loopw [10, 14] (fun v i wr => ∃ r : Nat, r ≤ R ∧ i = .int .i64 r ∧ wr.ownsRow w.heap.size 2 1 v (r + 1) (ints (fl (dcT q' m g f) (r + 1))) ∧ (∀ b ∈ [N, w.heap.size + 1, w.heap.size, b3, bR], v.ownBlock ≠ some b) ∧ St w [(N, [.int .i64 q', .int .i64 q', .slice (some ⟨b3, 0, none⟩) n c3]), (w.heap.size + 1, [.int .i64 0, .int .i64 0, .slice none 0 0]), (w.heap.size, [.int .i64 q', .int .i64 q', .slice (some ⟨ba, off, none⟩) n cap])] [dcP b3 n ((dcR q' g f r)), dcP bR m (rsl q' g (dcR q' g f r))] wr) (fun _ i _ => R - (intOf i).toNat)
          case atStart => exact ⟨0, Nat.zero_le _, rfl, HO7.out, HNS.out, HS7.out⟩
          case round =>
            obtain ⟨r, hr, rfl, ho, hap, hst⟩ := hrel
            clear HO7 HNS HS7
            obtain ⟨wo, hwo⟩ : ∃ wo, wo = wr := ⟨_, rfl⟩
            rw [← hwo] at ho hst
            rw [← hwo]
            clear hwo
            by_cases hlr : r < R
            · have wP : IntKind.i64.wrap ((q' : Int) * (q' : Int)) = (n : Int) := by rw [IntKind.wrap_i64, ← Int.natCast_mul, ← HN.out]; omega
              have HO := hide ho
              have HAP := hide hap
              have HSo := hide hst
              have HFb := hide (dcR_b (p := q') (S := g) HFB.out r)
              have HRn : Hid (dcK q' g (dcR q' g f r) n = dcR q' g f (r + 1)) := by show _ = dcK q' g (dcR q' g f r) (q' * q'); rw [HN.out]
              clear ho hap hst
              obtain ⟨F, hF⟩ : ∃ F, F = dcR q' g f r := ⟨_, rfl⟩
              rw [← hF] at HSo HFb HRn
              clear hF
              go_wp2_with fail
              go_loopw [15] (fun i wk => ∃ k : Nat, k ≤ n ∧ i = .int .i64 k ∧ St w [(N, [.int .i64 q', .int .i64 q', .slice (some ⟨b3, 0, none⟩) n c3]), (w.heap.size + 1, [.int .i64 0, .int .i64 0, .slice none 0 0]), (w.heap.size, [.int .i64 q', .int .i64 q', .slice (some ⟨ba, off, none⟩) n cap])] [dcP b3 n (dcK q' g F k), dcP bR m (rsl q' g (dcK q' g F k))] wk ∧ KpS (fun b => b = b3 ∨ b = bR) wo wk) (fun i _ => n - (intOf i).toNat)
              case atStart => exact ⟨0, Nat.zero_le _, rfl, HSo.out, KpS.refl _ _⟩
              case round =>
                obtain ⟨k, hk, rfl, hst, hkp⟩ := hrel
                clear HSo
                by_cases hlt : k < n
                · have hx := Nat.mod_lt k (show 0 < q' by omega)
                  have hy : k / q' < q' := Nat.div_lt_of_lt_mul (by rw [← HN.out]; exact hlt)
                  have cT := l6Through_any (k % q') (k / q') q' (by omega) (by omega) hx hy
                  have em : (k : Int).tmod (q' : Int) = ((k % q' : Nat) : Int) := by rw [Int.tmod_eq_emod_of_nonneg (by omega)]; rfl
                  have eq : (k : Int).tdiv (q' : Int) = ((k / q' : Nat) : Int) := by rw [Int.tdiv_eq_ediv_of_nonneg (by omega)]; rfl
                  have hG := dcK_b (p := q') (S := g) HFb.out k
                  obtain ⟨G, hGG⟩ : ∃ G, G = dcK q' g F k := ⟨_, rfl⟩
                  rw [← hGG] at hst hG
                  have HDk : Hid (dcK q' g F (k + 1) = Lnm.upd G k (dcv q' g G k)) := by rw [hGG]; rfl
                  have hsb := dcs_b (S := g) (f := G) (m := m) (show 0 < q' by omega) p2 HM.out HG.out (fun j hj => hG j (by rw [HN.out]; exact hj)) k
                  have hdb := nst_b (x := dcs q' g G k) (y := q' + 1) (by omega) hsb
                  have HRb := hide (fun l hl => rsl_b (p := q') (m := m) (S := g) (f := G) (l := l) (show 0 < q' by omega) p2 HG.out (fun j hj => hG j (by rw [HN.out]; exact hj)) hl)
                  have HIs := hide (fun v i => rsi_at (p := q') (show 0 < q' by omega) g G k v i)
                  have HIt := hide (fun v i l => rsi_step (p := q') (show 0 < q' by omega) g G k v i l)
                  have HIl := hide (fun v l hl => rsi_last (p := q') g G (show k < q' * q' by rw [← HN.out]; exact hlt) v l hl)
                  have HIz := hide (fun v => rsi_zero q' g G k v)
                  have HML : Hid (∀ i, i < q' + 1 → Lnm.thr q' (k % q') (k / q') i < m) := fun i hi => by rw [HM.out]; exact Lnm.thr_lt hx (by omega)
                  have HTH : Hid (∀ i, thF q' (k % q') (k / q') i = ((Lnm.thr q' (k % q') (k / q') i : Nat) : Int)) := fun _ => rfl
                  have HSM : Hid (∀ i, i ≤ q' + 1 → -10462240 ≤ Lnm.sm (fun j => rsl q' g G (Lnm.thr q' (k % q') (k / q') j)) i ∧ Lnm.sm (fun j => rsl q' g G (Lnm.thr q' (k % q') (k / q') j)) i ≤ 10462240) := fun i hi => by
                    have := Lnm.sm_bound (f := fun j => rsl q' g G (Lnm.thr q' (k % q') (k / q') j)) (M := 326945) (n := i) (fun j hj => HRb.out _ (HML.out j (by omega)))
                    omega
                  have HDS : Hid (Lnm.sm (fun j => rsl q' g G (Lnm.thr q' (k % q') (k / q') j)) (q' + 1) = dcs q' g G k) := rfl
                  have HDV : Hid (clp (G k + nst (dcs q' g G k) (q' + 1)) = dcv q' g G k) := rfl
                  have hT := hG k hlt
                  have HSr := hide hst
                  have HKr := hide hkp
                  have HLT := hide hlt
                  obtain ⟨X, hX⟩ : ∃ X, X = k % q' := ⟨_, rfl⟩
                  obtain ⟨Y, hY⟩ : ∃ Y, Y = k / q' := ⟨_, rfl⟩
                  rw [← hX, ← hY] at cT HIs HIt HML HTH HSM HDS
                  rw [← hX] at em hx
                  rw [← hY] at eq hy
                  have wx : IntKind.i64.wrap (X : Int) = (X : Int) := by rw [IntKind.wrap_i64]; omega
                  have wy : IntKind.i64.wrap (Y : Int) = (Y : Int) := by rw [IntKind.wrap_i64]; omega
                  clear hst hkp hGG hG hX hY hx hy
                  go_upto_region 18 with fail
                  go_cut [16] (fun sl wc => ∃ b6 c6, sl = .slice (some ⟨b6, 0, none⟩) (q' + 1) c6 ∧ St w [(N, [.int .i64 q', .int .i64 q', .slice (some ⟨b3, 0, none⟩) n c3]), (w.heap.size + 1, [.int .i64 0, .int .i64 0, .slice none 0 0]), (w.heap.size, [.int .i64 q', .int .i64 q', .slice (some ⟨ba, off, none⟩) n cap])] [((some ⟨b6, 0, none⟩ : Option Addr), b6, q' + 1, fun j => Value.int .i64 (thF q' X Y j)), dcP b3 n G, dcP bR m (rsl q' g G)] wc ∧ KpS (fun b => b = b3 ∨ b = bR) wo wc)
                  case first =>
                    go_region_with (go_at_call 37; refine (cT _).mono ?_; rintro e w3 ⟨a6, c6, b6, rfl, ow6, hb6, hbel6⟩)
                    all_goals
                      obtain ⟨ra, -⟩ := ow6.resolve_left (by omega)
                      subst ra
                      have HS3 := hide (HSr.out.drew.own hbel6 ow6.v hb6)
                      have HK3 := hide (HKr.out.drew.next hbel6)
                      go_wp2_with fail
                      go_meet
                      exact ⟨b6, c6, rfl, HS3.out, HK3.out⟩
                  case rest =>
                    obtain ⟨b6, c6, rfl, hS3, hK3⟩ := hcut
                    obtain ⟨w3, hw3⟩ : ∃ w3, w3 = wc := ⟨_, rfl⟩
                    rw [← hw3] at hS3 hK3
                    rw [← hw3]
                    have HS3 := hide hS3
                    have HK3 := hide hK3
                    clear hw3 hS3 hK3 cT em eq wx wy HSr HKr
                    have hRow : Row bR m (rsl q' g G) w3 := ((HS3.out.nthO 2 rfl).resolve_left hm0).2
                    have hTh : Px (some ⟨b6, 0, none⟩) (q' + 1) (thF q' X Y) w3 := (HS3.out.nthO 0 rfl).px
                    have HRow := hide hRow
                    have HTh := hide hTh
                    clear hRow hTh
                    go_wp2_with fail
                    go_loop [17, 18] (fun s i => ∃ j : Nat, j ≤ q' + 1 ∧ i = .int .i64 j ∧ s = .int .i64 (Lnm.sm (fun j => rsl q' g G (Lnm.thr q' X Y j)) j)) (fun _ i => q' + 1 - (intOf i).toNat)
                    case atStart => exact ⟨0, Nat.zero_le _, rfl, rfl⟩
                    case round =>
                      obtain ⟨j, hj, rfl, rfl⟩ := hrel
                      by_cases hlj : j < q' + 1
                      · obtain ⟨_, _, heq, hz6⟩ := HTh.out.at hlj
                        cases heq
                        rw [HTH.out, Nat.zero_add] at hz6
                        have hq := HML.out j hlj
                        have hzr := (HRow.out _ hq).1
                        have b1 := HSM.out j hj
                        have b2 := HSM.out (j + 1) hlj
                        obtain ⟨S2, hS2⟩ : ∃ S2, S2 = Lnm.sm (fun j => rsl q' g G (Lnm.thr q' X Y j)) (j + 1) := ⟨_, rfl⟩
                        have hS3 : S2 = Lnm.sm (fun j => rsl q' g G (Lnm.thr q' X Y j)) j + rsl q' g G (Lnm.thr q' X Y j) := hS2
                        have HS2 := hide hS2
                        rw [← hS2] at b2
                        clear hS2
                        generalize Lnm.sm (fun j => rsl q' g G (Lnm.thr q' X Y j)) j = S1 at *
                        generalize rsl q' g G (Lnm.thr q' X Y j) = Y1 at *
                        generalize Lnm.thr q' X Y j = q at *
                        have wS : IntKind.i64.wrap (S1 + Y1) = S2 := by rw [IntKind.wrap_i64, hS3]; omega
                        clear hS3 b1 b2 hsb hdb hT
                        go_wp2_with fail
                        exact ⟨⟨j + 1, by omega, rfl, (by rw [HS2.out])⟩, by simp [intOf]; omega⟩
                      · obtain rfl : j = q' + 1 := by omega
                        rw [HDS.out]
                        obtain ⟨s, hs⟩ : ∃ s, s = dcs q' g G k := ⟨_, rfl⟩
                        rw [← hs] at hsb hdb ⊢
                        have HSS := hide hs
                        obtain ⟨d, hd⟩ : ∃ d, d = nst s (q' + 1) := ⟨_, rfl⟩
                        have HD := hide hd
                        obtain ⟨X4, hX4⟩ : ∃ X4, X4 = 2 * s + ((q' + 1 : Nat) : Int) := ⟨_, rfl⟩
                        have e1 : IntKind.i64.wrap (2 * s) = 2 * s := by rw [IntKind.wrap_i64]; omega
                        have e2 : IntKind.i64.wrap (2 * s + (q' : Int)) = 2 * s + (q' : Int) := by rw [IntKind.wrap_i64]; omega
                        have e3 : IntKind.i64.wrap (2 * s + (q' : Int) + 1) = X4 := by rw [IntKind.wrap_i64]; omega
                        have e4 : IntKind.i64.wrap ((q' : Int) + 1) = (q' : Int) + 1 := by rw [IntKind.wrap_i64]; omega
                        obtain ⟨Yn, hYn⟩ : ∃ Yn : Nat, Yn = 2 * (q' + 1) := ⟨_, rfl⟩
                        have e5 : IntKind.i64.wrap (2 * ((q' : Int) + 1)) = (Yn : Int) := by rw [IntKind.wrap_i64]; omega
                        have cD := l1Down_any X4 Yn (by omega) (by omega) (by omega) (by omega)
                        have hdd : X4 / (Yn : Int) = d := by rw [hd, hX4, hYn]; rfl
                        rw [hdd] at cD
                        rw [← hd] at hdb
                        have eT : IntKind.i64.wrap (G k + d) = G k + d := by rw [IntKind.wrap_i64]; omega
                        obtain ⟨V, hV⟩ : ∃ V, V = dcv q' g G k := ⟨_, rfl⟩
                        have hV2 : max (-4095) (min 4095 (G k + d)) = V := by rw [clp_mx, hV, ← HDV.out, HD.out, HSS.out]
                        have hVb : -4095 ≤ V ∧ V ≤ 4095 := by rw [← hV2]; omega
                        have cMn := l1Min_any 4095 (G k + d)
                        have cMx := l1Max_any (-4095) (min 4095 (G k + d))
                        rw [hV2] at cMx
                        have HV := hide hV
                        have hcP : w3.cell? ⟨b3, k, none⟩ = some (.int .i64 (G k)) := (((HS3.out.nthO 1 rfl).resolve_left (show n ≠ 0 by omega)).2 k HLT.out).1
                        obtain ⟨N0, N1, N2⟩ := HS3.out.im3 0 rfl
                        obtain ⟨T, hTT⟩ : ∃ T, T = G k := ⟨_, rfl⟩
                        rw [← hTT] at hT hcP cMn cMx eT
                        have HTT := hide hTT
                        obtain ⟨E, hE⟩ : ∃ E, E = T + d := ⟨_, rfl⟩
                        rw [← hE] at cMn cMx
                        have eT' : IntKind.i64.wrap (T + d) = E := by rw [eT, hE]
                        generalize min 4095 E = E1 at *
                        have hltk := HLT.out
                        clear hs hd hX4 hYn hdd hV hV2 hTT hE eT hsb hdb HSM HDS hlj hj
                        go_wp2_with fail
                        refine (cD _).mono ?_
                        rintro e w5 ⟨rfl, h5⟩
                        obtain rfl := h5.symm
                        clear cD e1 e2 e3 e4 e5
                        go_wp2_with fail
                        refine (cMn _).mono ?_
                        rintro e w5 ⟨rfl, h5⟩
                        obtain rfl := h5.symm
                        clear cMn eT'
                        go_wp2_with fail
                        refine (cMx _).mono ?_
                        rintro e w5 ⟨rfl, h5⟩
                        obtain rfl := h5.symm
                        clear cMx hcP N0 N1 N2
                        have HSs : Hid (St w [(N, [.int .i64 q', .int .i64 q', .slice (some ⟨b3, 0, none⟩) n c3]), (w.heap.size + 1, [.int .i64 0, .int .i64 0, .slice none 0 0]), (w.heap.size, [.int .i64 q', .int .i64 q', .slice (some ⟨ba, off, none⟩) n cap])] [((some ⟨b6, 0, none⟩ : Option Addr), b6, q' + 1, fun j => Value.int .i64 (thF q' X Y j)), dcP b3 n G, dcP bR m (rsi q' g G k V 0)] w3) := by rw [HIz.out]; exact HS3.out
                        clear HS3 HRow HTh HIz
                        go_wp2_with fail
                        go_loopw [21] (fun i wi => ∃ j : Nat, j ≤ q' + 1 ∧ i = .int .i64 j ∧ St w [(N, [.int .i64 q', .int .i64 q', .slice (some ⟨b3, 0, none⟩) n c3]), (w.heap.size + 1, [.int .i64 0, .int .i64 0, .slice none 0 0]), (w.heap.size, [.int .i64 q', .int .i64 q', .slice (some ⟨ba, off, none⟩) n cap])] [((some ⟨b6, 0, none⟩ : Option Addr), b6, q' + 1, fun j => Value.int .i64 (thF q' X Y j)), dcP b3 n G, dcP bR m (rsi q' g G k V j)] wi ∧ KpS (fun b => b = b3 ∨ b = bR) wo wi) (fun i _ => q' + 1 - (intOf i).toNat)
                        case atStart => exact ⟨0, Nat.zero_le _, rfl, HSs.out, HK3.out⟩
                        case round =>
                          obtain ⟨i, hi, rfl, hst, hkp⟩ := hrel
                          clear HSs HK3
                          by_cases hli : i < q' + 1
                          · obtain ⟨_, _, heq, hz6⟩ := (hst.nthO 0 rfl).px.at hli
                            cases heq
                            rw [HTH.out] at hz6
                            have hq := HML.out i hli
                            have hR := HIs.out V i
                            have hRb := HRb.out _ hq
                            have hstep := HIt.out V i
                            obtain ⟨q, hqq⟩ : ∃ q, q = Lnm.thr q' X Y i := ⟨_, rfl⟩
                            rw [← hqq] at hz6 hq hR hRb hstep
                            rw [← hR] at hRb hstep
                            have hrow : Row bR m (rsi q' g G k V i) wr := ((hst.nthO 2 rfl).resolve_left hm0).2
                            obtain ⟨hzr, hzf⟩ := hrow q hq
                            have hcP : wr.cell? ⟨b3, k, none⟩ = some (.int .i64 (G k)) := (((hst.nthO 1 rfl).resolve_left (show n ≠ 0 by omega)).2 k hltk).1
                            rw [← HTT.out] at hcP
                            obtain ⟨R1, hRR⟩ : ∃ R1, R1 = rsi q' g G k V i q := ⟨_, rfl⟩
                            rw [← hRR] at hRb hzr hstep
                            obtain ⟨D1, hD1⟩ : ∃ D1, D1 = V - T := ⟨_, rfl⟩
                            obtain ⟨Z, hZ⟩ : ∃ Z, Z = R1 - D1 := ⟨_, rfl⟩
                            have wV : IntKind.i64.wrap (V - T) = D1 := by rw [IntKind.wrap_i64]; omega
                            have wR : IntKind.i64.wrap (R1 - D1) = Z := by rw [IntKind.wrap_i64]; omega
                            have HSN : Hid (St w [(N, [.int .i64 q', .int .i64 q', .slice (some ⟨b3, 0, none⟩) n c3]), (w.heap.size + 1, [.int .i64 0, .int .i64 0, .slice none 0 0]), (w.heap.size, [.int .i64 q', .int .i64 q', .slice (some ⟨ba, off, none⟩) n cap])] [((some ⟨b6, 0, none⟩ : Option Addr), b6, q' + 1, fun j => Value.int .i64 (thF q' X Y j)), dcP b3 n G, dcP bR m (rsi q' g G k V (i + 1))] (wr.drew.setCell ⟨bR, q, none⟩ (.int .i64 Z))) := by
                              have h := St.mark (O1 := [((some ⟨b6, 0, none⟩ : Option Addr), b6, q' + 1, fun j => Value.int .i64 (thF q' X Y j)), dcP b3 n G]) (O2 := []) (f' := fun j => .int .i64 (updN (rsi q' g G k V i) q Z j)) hst.drew (by rw [bk_pos hm0]; exact (Kept.refl bR wr.drew).setCell (a := ⟨bR, q, none⟩) rfl (.int .i64 Z)) (by rw [bk_pos hm0]; exact (Row.updN hrow.drewR hq Z).v)
                              have e : (fun j => Value.int .i64 (updN (rsi q' g G k V i) q Z j)) = fun j => .int .i64 (rsi q' g G k V (i + 1) j) := by
                                funext l
                                have := hstep l
                                rw [← HTT.out, ← hD1, ← hZ] at this
                                rw [← this]
                                rfl
                              rw [e] at h
                              exact h
                            have HKN := hide (hkp.drew.setCell (a := ⟨bR, q, none⟩) (.inr rfl) (.int .i64 Z))
                            have HX6Z : Hid (wr.cell? ⟨b6, i, none⟩ = some (.int .i64 (q : Int))) := by rw [Nat.zero_add] at hz6; exact hz6
                            have HXQ := hide hzr
                            have HXF := hide hzf
                            have HXP := hide hcP
                            have HXN : Hid (wr.cell? ⟨N, 2, none⟩ = some (.slice (some ⟨b3, 0, none⟩) n c3)) := (hst.im3 0 rfl).2.2
                            clear hst hkp hz6 hR hRb hstep hqq hrow hzr hzf hcP hRR hD1 hZ hT hVb HTT
                            have HLI := hide hli
                            go_upto_region 29 with fail
                            obtain ⟨G, hG⟩ : ∃ G : Nat → Value → Prop, G = (fun j v => match j with | 0 => v = .slice (some ⟨bR, 0, none⟩) m c5 | 1 => v = .slice (some ⟨b6, 0, none⟩) (q' + 1) c6 | 2 => v = .int .i64 (i : Int) | 3 => v = .pointer (some ⟨b6, i, none⟩) | 4 => v = .int .i64 (q : Int) | 5 => v = .slice (some ⟨bR, 0, none⟩) m c5 | 6 => v = .slice (some ⟨b6, 0, none⟩) (q' + 1) c6 | 7 => v = .int .i64 (i : Int) | 8 => v = .pointer (some ⟨b6, i, none⟩) | 9 => v = .int .i64 (q : Int) | 10 => v = .pointer (some ⟨bR, q, none⟩) | 11 => v = .int .i64 R1 | 12 => v = .int .i64 V | 13 => v = .pointer (some ⟨N, 2, none⟩) | 14 => v = .slice (some ⟨b3, 0, none⟩) n c3 | 15 => v = .int .i64 (k : Int) | 16 => v = .pointer (some ⟨b3, k, none⟩) | 17 => v = .int .i64 T | 18 => v = .int .i64 D1 | 19 => v = .int .i64 Z | 20 => v = .pointer (some ⟨bR, q, none⟩) | _ => True) := ⟨_, rfl⟩
                            have G0 : Hid (∀ v, G 0 v ↔ v = .slice (some ⟨bR, 0, none⟩) m c5) := fun v => by rw [hG]; exact Iff.rfl
                            have G1 : Hid (∀ v, G 1 v ↔ v = .slice (some ⟨b6, 0, none⟩) (q' + 1) c6) := fun v => by rw [hG]; exact Iff.rfl
                            have G2 : Hid (∀ v, G 2 v ↔ v = .int .i64 (i : Int)) := fun v => by rw [hG]; exact Iff.rfl
                            have G3 : Hid (∀ v, G 3 v ↔ v = .pointer (some ⟨b6, i, none⟩)) := fun v => by rw [hG]; exact Iff.rfl
                            have G4 : Hid (∀ v, G 4 v ↔ v = .int .i64 (q : Int)) := fun v => by rw [hG]; exact Iff.rfl
                            have G5 : Hid (∀ v, G 5 v ↔ v = .slice (some ⟨bR, 0, none⟩) m c5) := fun v => by rw [hG]; exact Iff.rfl
                            have G6 : Hid (∀ v, G 6 v ↔ v = .slice (some ⟨b6, 0, none⟩) (q' + 1) c6) := fun v => by rw [hG]; exact Iff.rfl
                            have G7 : Hid (∀ v, G 7 v ↔ v = .int .i64 (i : Int)) := fun v => by rw [hG]; exact Iff.rfl
                            have G8 : Hid (∀ v, G 8 v ↔ v = .pointer (some ⟨b6, i, none⟩)) := fun v => by rw [hG]; exact Iff.rfl
                            have G9 : Hid (∀ v, G 9 v ↔ v = .int .i64 (q : Int)) := fun v => by rw [hG]; exact Iff.rfl
                            have G10 : Hid (∀ v, G 10 v ↔ v = .pointer (some ⟨bR, q, none⟩)) := fun v => by rw [hG]; exact Iff.rfl
                            have G11 : Hid (∀ v, G 11 v ↔ v = .int .i64 R1) := fun v => by rw [hG]; exact Iff.rfl
                            have G12 : Hid (∀ v, G 12 v ↔ v = .int .i64 V) := fun v => by rw [hG]; exact Iff.rfl
                            have G13 : Hid (∀ v, G 13 v ↔ v = .pointer (some ⟨N, 2, none⟩)) := fun v => by rw [hG]; exact Iff.rfl
                            have G14 : Hid (∀ v, G 14 v ↔ v = .slice (some ⟨b3, 0, none⟩) n c3) := fun v => by rw [hG]; exact Iff.rfl
                            have G15 : Hid (∀ v, G 15 v ↔ v = .int .i64 (k : Int)) := fun v => by rw [hG]; exact Iff.rfl
                            have G16 : Hid (∀ v, G 16 v ↔ v = .pointer (some ⟨b3, k, none⟩)) := fun v => by rw [hG]; exact Iff.rfl
                            have G17 : Hid (∀ v, G 17 v ↔ v = .int .i64 T) := fun v => by rw [hG]; exact Iff.rfl
                            have G18 : Hid (∀ v, G 18 v ↔ v = .int .i64 D1) := fun v => by rw [hG]; exact Iff.rfl
                            have G19 : Hid (∀ v, G 19 v ↔ v = .int .i64 Z) := fun v => by rw [hG]; exact Iff.rfl
                            have G20 : Hid (∀ v, G 20 v ↔ v = .pointer (some ⟨bR, q, none⟩)) := fun v => by rw [hG]; exact Iff.rfl
                            have G21 : Hid (∀ v, G 21 v) := fun v => by rw [hG]; trivial
                            clear hG
                            obtain ⟨PP, hPP⟩ : ∃ P : World → Prop, P = (fun wx => wx = wr.drew.setCell ⟨bR, q, none⟩ (.int .i64 Z)) := ⟨_, rfl⟩
                            refine region_opsV (sR 21 wr) (sF 21 G PP) (by kernel_rfl) (by kernel_rfl) (by kernel_rfl) (by kernel_rfl) (fun _ => rfl) ?_ ?_
                            · refine ⟨?_, ?_, ?_, ?_, ?_, ?_, ?_, ?_, ?_, ?_, ?_, ?_, ?_, ?_, ?_, ?_, ?_, ?_, ?_, ?_, ?_, ?_, trivial⟩
                              ·
                                intro u w21 au hsl hel hu hF hp' K hK
                                have t12 : au.tmps[12]?.getD undef = .slice (some ⟨bR, 0, none⟩) m c5 := (hel.out 12 (by kernel_rfl)).trans (by kernel_rfl)
                                refine step_plain rfl ?_
                                go_simp
                                exact hK.out (.slice (some ⟨bR, 0, none⟩) m c5) _ (sR_up hF 0 (by omega) _) (sF_val 0 (by omega) ((G0.out _).2 rfl)) (fun j hj hf h => sF_up 0 _ j hj (fun e => by subst e; exact absurd (Eq.trans (Eq.symm (by kernel_rfl)) hf) Bool.false_ne_true) h)
                              ·
                                intro u w21 au hsl hel hu hF hp' K hK
                                have t16 : au.tmps[16]?.getD undef = .slice (some ⟨b6, 0, none⟩) (q' + 1) c6 := (hel.out 16 (by kernel_rfl)).trans (by kernel_rfl)
                                refine step_plain rfl ?_
                                go_simp
                                exact hK.out (.slice (some ⟨b6, 0, none⟩) (q' + 1) c6) _ (sR_up hF 1 (by omega) _) (sF_val 1 (by omega) ((G1.out _).2 rfl)) (fun j hj hf h => sF_up 1 _ j hj (fun e => by subst e; exact absurd (Eq.trans (Eq.symm (by kernel_rfl)) hf) Bool.false_ne_true) h)
                              ·
                                intro u w21 au hsl hel hu hF hp' K hK
                                have t21 : au.tmps[21]?.getD undef = .int .i64 (i : Int) := (hel.out 21 (by kernel_rfl)).trans (by kernel_rfl)
                                refine step_plain rfl ?_
                                go_simp
                                exact hK.out (.int .i64 (i : Int)) _ (sR_up hF 2 (by omega) _) (sF_val 2 (by omega) ((G2.out _).2 rfl)) (fun j hj hf h => sF_up 2 _ j hj (fun e => by subst e; exact absurd (Eq.trans (Eq.symm (by kernel_rfl)) hf) Bool.false_ne_true) h)
                              ·
                                intro u w21 au hsl hel hu hF hp' K hK
                                have h1 : u 1 = .slice (some ⟨b6, 0, none⟩) (q' + 1) c6 := (G1.out _).1 (PreF.get hp' 1 (by kernel_rfl)).1
                                have t127 : au.tmps[127]?.getD undef = u 1 := hsl.out 1 127 (by kernel_rfl)
                                rw [h1] at t127
                                have h2 : u 2 = .int .i64 (i : Int) := (G2.out _).1 (PreF.get hp' 2 (by kernel_rfl)).1
                                have t128 : au.tmps[128]?.getD undef = u 2 := hsl.out 2 128 (by kernel_rfl)
                                rw [h2] at t128
                                refine step_plain rfl ?_
                                go_simp
                                exact hK.out (.pointer (some ⟨b6, i, none⟩)) _ (sR_up hF 3 (by omega) _) (sF_val 3 (by omega) ((G3.out _).2 rfl)) (fun j hj hf h => sF_up 3 _ j hj (fun e => by subst e; exact absurd (Eq.trans (Eq.symm (by kernel_rfl)) hf) Bool.false_ne_true) h)
                              ·
                                intro u w21 au hsl hel hu hF hp' K hK
                                have h3 : u 3 = .pointer (some ⟨b6, i, none⟩) := (G3.out _).1 (PreF.get hp' 3 (by kernel_rfl)).1
                                have t129 : au.tmps[129]?.getD undef = u 3 := hsl.out 3 129 (by kernel_rfl)
                                rw [h3] at t129
                                have hw : w21 = wr.drew := hF ((hu.out 21 (by decide) (.inr (by kernel_rfl))).trans (by kernel_rfl))
                                have xc : w21.cell? ⟨b6, i, none⟩ = some (.int .i64 (q : Int)) := by rw [hw]; exact HX6Z.out
                                clear hw
                                refine step_plain rfl ?_
                                go_simp
                                exact hK.out (.int .i64 (q : Int)) _ (sR_up hF 4 (by omega) _) (sF_val 4 (by omega) ((G4.out _).2 rfl)) (fun j hj hf h => sF_up 4 _ j hj (fun e => by subst e; exact absurd (Eq.trans (Eq.symm (by kernel_rfl)) hf) Bool.false_ne_true) h)
                              ·
                                intro u w21 au hsl hel hu hF hp' K hK
                                have t12 : au.tmps[12]?.getD undef = .slice (some ⟨bR, 0, none⟩) m c5 := (hel.out 12 (by kernel_rfl)).trans (by kernel_rfl)
                                refine step_plain rfl ?_
                                go_simp
                                exact hK.out (.slice (some ⟨bR, 0, none⟩) m c5) _ (sR_up hF 5 (by omega) _) (sF_val 5 (by omega) ((G5.out _).2 rfl)) (fun j hj hf h => sF_up 5 _ j hj (fun e => by subst e; exact absurd (Eq.trans (Eq.symm (by kernel_rfl)) hf) Bool.false_ne_true) h)
                              ·
                                intro u w21 au hsl hel hu hF hp' K hK
                                have t16 : au.tmps[16]?.getD undef = .slice (some ⟨b6, 0, none⟩) (q' + 1) c6 := (hel.out 16 (by kernel_rfl)).trans (by kernel_rfl)
                                refine step_plain rfl ?_
                                go_simp
                                exact hK.out (.slice (some ⟨b6, 0, none⟩) (q' + 1) c6) _ (sR_up hF 6 (by omega) _) (sF_val 6 (by omega) ((G6.out _).2 rfl)) (fun j hj hf h => sF_up 6 _ j hj (fun e => by subst e; exact absurd (Eq.trans (Eq.symm (by kernel_rfl)) hf) Bool.false_ne_true) h)
                              ·
                                intro u w21 au hsl hel hu hF hp' K hK
                                have t21 : au.tmps[21]?.getD undef = .int .i64 (i : Int) := (hel.out 21 (by kernel_rfl)).trans (by kernel_rfl)
                                refine step_plain rfl ?_
                                go_simp
                                exact hK.out (.int .i64 (i : Int)) _ (sR_up hF 7 (by omega) _) (sF_val 7 (by omega) ((G7.out _).2 rfl)) (fun j hj hf h => sF_up 7 _ j hj (fun e => by subst e; exact absurd (Eq.trans (Eq.symm (by kernel_rfl)) hf) Bool.false_ne_true) h)
                              ·
                                intro u w21 au hsl hel hu hF hp' K hK
                                have h6 : u 6 = .slice (some ⟨b6, 0, none⟩) (q' + 1) c6 := (G6.out _).1 (PreF.get hp' 6 (by kernel_rfl)).1
                                have t132 : au.tmps[132]?.getD undef = u 6 := hsl.out 6 132 (by kernel_rfl)
                                rw [h6] at t132
                                have h7 : u 7 = .int .i64 (i : Int) := (G7.out _).1 (PreF.get hp' 7 (by kernel_rfl)).1
                                have t133 : au.tmps[133]?.getD undef = u 7 := hsl.out 7 133 (by kernel_rfl)
                                rw [h7] at t133
                                refine step_plain rfl ?_
                                go_simp
                                exact hK.out (.pointer (some ⟨b6, i, none⟩)) _ (sR_up hF 8 (by omega) _) (sF_val 8 (by omega) ((G8.out _).2 rfl)) (fun j hj hf h => sF_up 8 _ j hj (fun e => by subst e; exact absurd (Eq.trans (Eq.symm (by kernel_rfl)) hf) Bool.false_ne_true) h)
                              ·
                                intro u w21 au hsl hel hu hF hp' K hK
                                have h8 : u 8 = .pointer (some ⟨b6, i, none⟩) := (G8.out _).1 (PreF.get hp' 8 (by kernel_rfl)).1
                                have t134 : au.tmps[134]?.getD undef = u 8 := hsl.out 8 134 (by kernel_rfl)
                                rw [h8] at t134
                                have hw : w21 = wr.drew := hF ((hu.out 21 (by decide) (.inr (by kernel_rfl))).trans (by kernel_rfl))
                                have xc : w21.cell? ⟨b6, i, none⟩ = some (.int .i64 (q : Int)) := by rw [hw]; exact HX6Z.out
                                clear hw
                                refine step_plain rfl ?_
                                go_simp
                                exact hK.out (.int .i64 (q : Int)) _ (sR_up hF 9 (by omega) _) (sF_val 9 (by omega) ((G9.out _).2 rfl)) (fun j hj hf h => sF_up 9 _ j hj (fun e => by subst e; exact absurd (Eq.trans (Eq.symm (by kernel_rfl)) hf) Bool.false_ne_true) h)
                              ·
                                intro u w21 au hsl hel hu hF hp' K hK
                                have h5 : u 5 = .slice (some ⟨bR, 0, none⟩) m c5 := (G5.out _).1 (PreF.get hp' 5 (by kernel_rfl)).1
                                have t131 : au.tmps[131]?.getD undef = u 5 := hsl.out 5 131 (by kernel_rfl)
                                rw [h5] at t131
                                have h9 : u 9 = .int .i64 (q : Int) := (G9.out _).1 (PreF.get hp' 9 (by kernel_rfl)).1
                                have t135 : au.tmps[135]?.getD undef = u 9 := hsl.out 9 135 (by kernel_rfl)
                                rw [h9] at t135
                                refine step_plain rfl ?_
                                go_simp
                                exact hK.out (.pointer (some ⟨bR, q, none⟩)) _ (sR_up hF 10 (by omega) _) (sF_val 10 (by omega) ((G10.out _).2 rfl)) (fun j hj hf h => sF_up 10 _ j hj (fun e => by subst e; exact absurd (Eq.trans (Eq.symm (by kernel_rfl)) hf) Bool.false_ne_true) h)
                              ·
                                intro u w21 au hsl hel hu hF hp' K hK
                                have h10 : u 10 = .pointer (some ⟨bR, q, none⟩) := (G10.out _).1 (PreF.get hp' 10 (by kernel_rfl)).1
                                have t136 : au.tmps[136]?.getD undef = u 10 := hsl.out 10 136 (by kernel_rfl)
                                rw [h10] at t136
                                have hw : w21 = wr.drew := hF ((hu.out 21 (by decide) (.inr (by kernel_rfl))).trans (by kernel_rfl))
                                have xc : w21.cell? ⟨bR, q, none⟩ = some (.int .i64 R1) := by rw [hw]; exact HXQ.out
                                clear hw
                                refine step_plain rfl ?_
                                go_simp
                                exact hK.out (.int .i64 R1) _ (sR_up hF 11 (by omega) _) (sF_val 11 (by omega) ((G11.out _).2 rfl)) (fun j hj hf h => sF_up 11 _ j hj (fun e => by subst e; exact absurd (Eq.trans (Eq.symm (by kernel_rfl)) hf) Bool.false_ne_true) h)
                              ·
                                intro u w21 au hsl hel hu hF hp' K hK
                                have t20 : au.tmps[20]?.getD undef = .int .i64 V := (hel.out 20 (by kernel_rfl)).trans (by kernel_rfl)
                                refine step_plain rfl ?_
                                go_simp
                                exact hK.out (.int .i64 V) _ (sR_up hF 12 (by omega) _) (sF_val 12 (by omega) ((G12.out _).2 rfl)) (fun j hj hf h => sF_up 12 _ j hj (fun e => by subst e; exact absurd (Eq.trans (Eq.symm (by kernel_rfl)) hf) Bool.false_ne_true) h)
                              ·
                                intro u w21 au hsl hel hu hF hp' K hK
                                have t9 : au.tmps[9]?.getD undef = .pointer (some ⟨N, 0, none⟩) := (hel.out 9 (by kernel_rfl)).trans (by kernel_rfl)
                                refine step_plain rfl ?_
                                go_simp
                                exact hK.out (.pointer (some ⟨N, 2, none⟩)) _ (sR_up hF 13 (by omega) _) (sF_val 13 (by omega) ((G13.out _).2 rfl)) (fun j hj hf h => sF_up 13 _ j hj (fun e => by subst e; exact absurd (Eq.trans (Eq.symm (by kernel_rfl)) hf) Bool.false_ne_true) h)
                              ·
                                intro u w21 au hsl hel hu hF hp' K hK
                                have h13 : u 13 = .pointer (some ⟨N, 2, none⟩) := (G13.out _).1 (PreF.get hp' 13 (by kernel_rfl)).1
                                have t139 : au.tmps[139]?.getD undef = u 13 := hsl.out 13 139 (by kernel_rfl)
                                rw [h13] at t139
                                have hw : w21 = wr.drew := hF ((hu.out 21 (by decide) (.inr (by kernel_rfl))).trans (by kernel_rfl))
                                have xc : w21.cell? ⟨N, 2, none⟩ = some (.slice (some ⟨b3, 0, none⟩) n c3) := by rw [hw]; exact HXN.out
                                clear hw
                                refine step_plain rfl ?_
                                go_simp
                                exact hK.out (.slice (some ⟨b3, 0, none⟩) n c3) _ (sR_up hF 14 (by omega) _) (sF_val 14 (by omega) ((G14.out _).2 rfl)) (fun j hj hf h => sF_up 14 _ j hj (fun e => by subst e; exact absurd (Eq.trans (Eq.symm (by kernel_rfl)) hf) Bool.false_ne_true) h)
                              ·
                                intro u w21 au hsl hel hu hF hp' K hK
                                have t15 : au.tmps[15]?.getD undef = .int .i64 (k : Int) := (hel.out 15 (by kernel_rfl)).trans (by kernel_rfl)
                                refine step_plain rfl ?_
                                go_simp
                                exact hK.out (.int .i64 (k : Int)) _ (sR_up hF 15 (by omega) _) (sF_val 15 (by omega) ((G15.out _).2 rfl)) (fun j hj hf h => sF_up 15 _ j hj (fun e => by subst e; exact absurd (Eq.trans (Eq.symm (by kernel_rfl)) hf) Bool.false_ne_true) h)
                              ·
                                intro u w21 au hsl hel hu hF hp' K hK
                                have h14 : u 14 = .slice (some ⟨b3, 0, none⟩) n c3 := (G14.out _).1 (PreF.get hp' 14 (by kernel_rfl)).1
                                have t140 : au.tmps[140]?.getD undef = u 14 := hsl.out 14 140 (by kernel_rfl)
                                rw [h14] at t140
                                have h15 : u 15 = .int .i64 (k : Int) := (G15.out _).1 (PreF.get hp' 15 (by kernel_rfl)).1
                                have t141 : au.tmps[141]?.getD undef = u 15 := hsl.out 15 141 (by kernel_rfl)
                                rw [h15] at t141
                                refine step_plain rfl ?_
                                go_simp
                                exact hK.out (.pointer (some ⟨b3, k, none⟩)) _ (sR_up hF 16 (by omega) _) (sF_val 16 (by omega) ((G16.out _).2 rfl)) (fun j hj hf h => sF_up 16 _ j hj (fun e => by subst e; exact absurd (Eq.trans (Eq.symm (by kernel_rfl)) hf) Bool.false_ne_true) h)
                              ·
                                intro u w21 au hsl hel hu hF hp' K hK
                                have h16 : u 16 = .pointer (some ⟨b3, k, none⟩) := (G16.out _).1 (PreF.get hp' 16 (by kernel_rfl)).1
                                have t142 : au.tmps[142]?.getD undef = u 16 := hsl.out 16 142 (by kernel_rfl)
                                rw [h16] at t142
                                have hw : w21 = wr.drew := hF ((hu.out 21 (by decide) (.inr (by kernel_rfl))).trans (by kernel_rfl))
                                have xc : w21.cell? ⟨b3, k, none⟩ = some (.int .i64 T) := by rw [hw]; exact HXP.out
                                clear hw
                                refine step_plain rfl ?_
                                go_simp
                                exact hK.out (.int .i64 T) _ (sR_up hF 17 (by omega) _) (sF_val 17 (by omega) ((G17.out _).2 rfl)) (fun j hj hf h => sF_up 17 _ j hj (fun e => by subst e; exact absurd (Eq.trans (Eq.symm (by kernel_rfl)) hf) Bool.false_ne_true) h)
                              ·
                                intro u w21 au hsl hel hu hF hp' K hK
                                have h12 : u 12 = .int .i64 V := (G12.out _).1 (PreF.get hp' 12 (by kernel_rfl)).1
                                have t138 : au.tmps[138]?.getD undef = u 12 := hsl.out 12 138 (by kernel_rfl)
                                rw [h12] at t138
                                have h17 : u 17 = .int .i64 T := (G17.out _).1 (PreF.get hp' 17 (by kernel_rfl)).1
                                have t143 : au.tmps[143]?.getD undef = u 17 := hsl.out 17 143 (by kernel_rfl)
                                rw [h17] at t143
                                refine step_plain rfl ?_
                                go_simp
                                exact hK.out (.int .i64 D1) _ (sR_up hF 18 (by omega) _) (sF_val 18 (by omega) ((G18.out _).2 rfl)) (fun j hj hf h => sF_up 18 _ j hj (fun e => by subst e; exact absurd (Eq.trans (Eq.symm (by kernel_rfl)) hf) Bool.false_ne_true) h)
                              ·
                                intro u w21 au hsl hel hu hF hp' K hK
                                have h11 : u 11 = .int .i64 R1 := (G11.out _).1 (PreF.get hp' 11 (by kernel_rfl)).1
                                have t137 : au.tmps[137]?.getD undef = u 11 := hsl.out 11 137 (by kernel_rfl)
                                rw [h11] at t137
                                have h18 : u 18 = .int .i64 D1 := (G18.out _).1 (PreF.get hp' 18 (by kernel_rfl)).1
                                have t144 : au.tmps[144]?.getD undef = u 18 := hsl.out 18 144 (by kernel_rfl)
                                rw [h18] at t144
                                refine step_plain rfl ?_
                                go_simp
                                exact hK.out (.int .i64 Z) _ (sR_up hF 19 (by omega) _) (sF_val 19 (by omega) ((G19.out _).2 rfl)) (fun j hj hf h => sF_up 19 _ j hj (fun e => by subst e; exact absurd (Eq.trans (Eq.symm (by kernel_rfl)) hf) Bool.false_ne_true) h)
                              ·
                                intro u w21 au hsl hel hu hF hp' K hK
                                have h0 : u 0 = .slice (some ⟨bR, 0, none⟩) m c5 := (G0.out _).1 (PreF.get hp' 0 (by kernel_rfl)).1
                                have t126 : au.tmps[126]?.getD undef = u 0 := hsl.out 0 126 (by kernel_rfl)
                                rw [h0] at t126
                                have h4 : u 4 = .int .i64 (q : Int) := (G4.out _).1 (PreF.get hp' 4 (by kernel_rfl)).1
                                have t130 : au.tmps[130]?.getD undef = u 4 := hsl.out 4 130 (by kernel_rfl)
                                rw [h4] at t130
                                refine step_plain rfl ?_
                                go_simp
                                exact hK.out (.pointer (some ⟨bR, q, none⟩)) _ (sR_up hF 20 (by omega) _) (sF_val 20 (by omega) ((G20.out _).2 rfl)) (fun j hj hf h => sF_up 20 _ j hj (fun e => by subst e; exact absurd (Eq.trans (Eq.symm (by kernel_rfl)) hf) Bool.false_ne_true) h)
                              ·
                                intro u w21 au hsl hel hu hF hp' K hK
                                have h20 : u 20 = .pointer (some ⟨bR, q, none⟩) := (G20.out _).1 (PreF.get hp' 20 (by kernel_rfl)).1
                                have t146 : au.tmps[146]?.getD undef = u 20 := hsl.out 20 146 (by kernel_rfl)
                                rw [h20] at t146
                                have h19 : u 19 = .int .i64 Z := (G19.out _).1 (PreF.get hp' 19 (by kernel_rfl)).1
                                have t145 : au.tmps[145]?.getD undef = u 19 := hsl.out 19 145 (by kernel_rfl)
                                rw [h19] at t145
                                have hw : w21 = wr.drew := hF ((hu.out 21 (by decide) (.inl rfl)).trans (by kernel_rfl))
                                have xc : w21.cell? ⟨bR, q, none⟩ = some (.int .i64 R1) := by rw [hw]; exact HXQ.out
                                have xf : w21.frozen? ⟨bR, q, none⟩ = false := by rw [hw]; exact HXF.out
                                have HW21 := hide hw
                                clear hw
                                refine step_plain rfl ?_
                                go_simp
                                exact hK.out (.bool true) _ (sR_st (by simp [undef])) (sF_st (G21.out _) (by rw [hPP, HW21.out])) (fun j hj _ h => sF_keep _ j hj h)
                            · intro u w30 hF hall
                              have hp := (hall 21 (by decide)).2 rfl
                              rw [hPP] at hp
                              have HE := hide hp
                              clear hF hall hp
                              simp only [rgPut, Act.put]
                              go_simp
                              have HL := hide HSN.out
                              have HL2 := hide HKN.out
                              rw [← HE.out] at HL HL2
                              clear HSN HKN HE
                              have hli := HLI.out
                              go_wp2_with fail
                              exact ⟨⟨i + 1, by omega, rfl, HL.out, HL2.out⟩, by simp [intOf]; omega⟩
                          · obtain rfl : i = q' + 1 := by omega
                            have HS9 := hide (St.cong2 (hst.sub (L' := [(N, [.int .i64 q', .int .i64 q', .slice (some ⟨b3, 0, none⟩) n c3]), (w.heap.size + 1, [.int .i64 0, .int .i64 0, .slice none 0 0]), (w.heap.size, [.int .i64 q', .int .i64 q', .slice (some ⟨ba, off, none⟩) n cap])]) (O' := [dcP b3 n G, dcP bR m (rsi q' g G k V (q' + 1))]) (List.Sublist.refl _) (List.sublist_cons_self ..)) (fun l hl => HIl.out V l (by rw [← HM.out]; exact hl)))
                            have HK9 := hide hkp
                            obtain ⟨hc, hcf⟩ := HS9.out.atO hltk
                            obtain ⟨N0, N1, N2⟩ := HS9.out.im3 0 rfl
                            have HSN := hide (HS9.out.upd hltk V)
                            have HKN := hide (HK9.out.setCell (a := ⟨b3, k, none⟩) (.inl rfl) (.int .i64 V))
                            have HDk' : Hid (dcK q' g F (k + 1) = updN G k V) := by show _ = _; rw [HDk.out, ← HV.out]; rfl
                            obtain ⟨wn, hwn⟩ : ∃ wn, wr.setCell ⟨b3, k, none⟩ (.int .i64 V) = wn := ⟨_, rfl⟩
                            rw [hwn] at HSN HKN
                            clear hst hkp HS9 HK9 HIs HIt HIl HTH HML HDk HDV HSS HD HTT HV hT hVb
                            go_wp2_with fail
                            exact ⟨⟨k + 1, by omega, rfl, by rw [HDk'.out]; exact HSN.out, HKN.out⟩, by simp [intOf]; omega⟩
                · obtain rfl : k = n := by omega
                  rw [HRn.out] at hst
                  have HSk := hide hst
                  have hms := dc_mis HMB.out (dcR_b (p := q') (S := g) HFB.out (r + 1))
                  have cM := specMisfit_any (q' : Int) (q' : Int) (some ⟨b3, 0, none⟩) k c3 (dcR q' g f (r + 1)) hl (some ⟨bg, og, none⟩) m cap' g hl' wr (hst.nthO 0 rfl).px (HP'.out.below hst.below)
                  rw [hms] at cM
                  obtain ⟨Z, hZ⟩ : ∃ Z, Z = dcT q' m g f (r + 1) := ⟨_, rfl⟩
                  have hZ2 : Lnm.sm (dsq g (Lnm.lin q' (dcR q' g f (r + 1)))) m = Z := by rw [hZ]; rfl
                  rw [hZ2] at cM
                  have HZ := hide hZ
                  have HO8 := hide (owns_same HO.out (fun b hb => hkp.block b (HO.out.lt b hb).2 (fun e => by rcases e with e | e <;> exact HAP.out b (by rw [e]; simp) hb)))
                  obtain ⟨N0, N1, N2⟩ := HSk.out.im3 0 rfl
                  clear hst hkp hms hZ hZ2 HO HRn HFb
                  go_wp2_with fail
                  refine cM.mono ?_
                  rintro e wa ⟨rfl, hba⟩
                  have HSa := hide (HSk.out.next hba)
                  have HOa := hide (ownsRow_below' HO8.out hba)
                  have HBa : Hid (w.heap.size ≤ wa.heap.size) := HSa.out.below.size
                  have HL : Hid (r + 1 ≤ 1048576) := by show _ ≤ _; omega
                  clear cM HSk HO8 hba N0 N1 N2 hlt hk
                  go_wp2_with (refine growN _ rfl _ _ rfl w.heap.size _ (r + 1) (fl (dcT q' m g f) (r + 1)) rfl wa HOa.out (Below.refl _ _) HBa.out Z rfl HL.out ?_)
                  intro v' wb ho' hb' hs' hkv hmv
                  have HOb : Hid (wb.ownsRow w.heap.size 2 1 v' (r + 1 + 1) (ints (fl (dcT q' m g f) (r + 1 + 1)))) := by
                    rw [HZ.out] at ho'
                    exact ho'
                  have HSb := hide (HSa.out.kpv hkv (by rw [HBS.out]; exact HAP.out) hb')
                  have HAb : Hid (∀ b ∈ [N, w.heap.size + 1, w.heap.size, b3, bR], v'.ownBlock ≠ some b) := fun b hb e => by
                    rcases hmv b e with h1 | h1
                    · exact HAP.out b hb h1
                    · have := (HSa.out.lt b (by rw [HBS.out]; exact hb)).2
                      omega
                  clear HOa HBa HSa ho' hb' hs' hkv hmv HZ
                  go_wp2_with fail
                  exact ⟨⟨r + 1, by omega, rfl, HOb.out, HAb.out, HSb.out⟩, by simp [intOf]; omega⟩
            · obtain rfl : r = R := by omega
              obtain ⟨a1, c1, b1, rfl, ow1, hb1⟩ := ow_fl ho
              obtain ⟨ra, -⟩ := ow1.resolve_left (by omega)
              subst ra
              have HST := hide hst
              have HW1 := hide ow1
              have hne3 : b1 ≠ b3 := fun e => hap b3 (by simp) (by rw [e]; rfl)
              have hneO : b1 ≠ w.heap.size + 1 := fun e => hap (w.heap.size + 1) (by simp) (by rw [e]; rfl)
              clear hst ow1 ho hlr hap
              obtain ⟨N0, N1, N2⟩ := HST.out.im3 0 rfl
              obtain ⟨o0, o1, o2⟩ := HST.out.im3 1 rfl
              obtain ⟨f0, f1, f2⟩ := HST.out.fr3 1 rfl
              have HZ0 := hide (St.fill3' (L1 := [(N, [.int .i64 q', .int .i64 q', .slice (some ⟨b3, 0, none⟩) n c3])]) HST.out (.int .i64 q') (.int .i64 q') (.slice (some ⟨b3, 0, none⟩) n c3))
              have hkz : Kept (w.heap.size + 1) wo (((wo.setCell ⟨w.heap.size + 1, 0, none⟩ (.int .i64 q')).setCell ⟨w.heap.size + 1, 1, none⟩ (.int .i64 q')).setCell ⟨w.heap.size + 1, 2, none⟩ (.slice (some ⟨b3, 0, none⟩) n c3)) := (((Kept.refl (w.heap.size + 1) wo).setCell (a := ⟨w.heap.size + 1, 0, none⟩) rfl (.int .i64 q')).setCell (a := ⟨w.heap.size + 1, 1, none⟩) rfl (.int .i64 q')).setCell (a := ⟨w.heap.size + 1, 2, none⟩) rfl (.slice (some ⟨b3, 0, none⟩) n c3)
              obtain ⟨wz, hz⟩ : ∃ wz, ((wo.setCell ⟨w.heap.size + 1, 0, none⟩ (.int .i64 q')).setCell ⟨w.heap.size + 1, 1, none⟩ (.int .i64 q')).setCell ⟨w.heap.size + 1, 2, none⟩ (.slice (some ⟨b3, 0, none⟩) n c3) = wz := ⟨_, rfl⟩
              rw [hz] at HZ0 hkz
              obtain ⟨z0, z1, z2⟩ := HZ0.out.im3 1 rfl
              have HW2 : Hid (Ow (some ⟨b1, 0, none⟩) b1 (r + 1) (dcT q' m g f) wz) := HW1.out.kept hkz hneO
              have HB1 : Hid (w.heap.size ≤ b1) := hb1.resolve_left (by omega)
              have HNE : Hid (b3 ≠ b1) := Ne.symm hne3
              clear HST HW1 hkz hneO hne3 hb1 HBS
              go_wp2_with fail
              exact bodyPost_ret (v := .tuple #[im q' q' (some ⟨b3, 0, none⟩) n c3, .slice (some ⟨b1, 0, none⟩) (r + 1 : Nat) c1]) (by simp [results, Try.results11, go_sem, z0, z1, z2]) rfl ⟨_, _, b3, _, _, b1, rfl, (HZ0.out.nthO 0 rfl).i, .inr (HZ0.out.lt b3 (mem_blocks_own (x := dcP b3 n (dcR q' g f r)) (List.mem_cons_self ..) (show n ≠ 0 by omega))).1, HW2.out, .inr HB1.out, .inr (.inr HNE.out), HZ0.out.below⟩

end Go.Proofs.Ytcdklkebedpmnaa

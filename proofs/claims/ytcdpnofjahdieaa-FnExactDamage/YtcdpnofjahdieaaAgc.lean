/- An archive is copied. -/
import Derived.Test.YtcdpnofjahdieaaAgf
namespace Go.Proofs.Ytcdpnofjahdieaa
open Go.RowKit

set_option maxRecDepth 100000 in
set_option maxHeartbeats 8000000 in
theorem copyOfArch_any (bI nI cI : Nat) (I : Nat → SEntry) (bL nL cL : Nat) (L : Nat → SCopy) (bR nR cR : Nat) (R : Nat → SCopy) (bA nA cA : Nat) (A : Nat → SNote) (clock : Int) (hl : nI ≤ 1048576 ∧ nL ≤ 1048576 ∧ nR ≤ 1048576 ∧ nA ≤ 1048576) (w : World) (h : RdA bI nI I bL nL L bR nR R bA nA A w) :
    Calls Try.prog 20 #[vArch (some ⟨bI, 0, none⟩) nI cI (some ⟨bL, 0, none⟩) nL cL (some ⟨bR, 0, none⟩) nR cR (some ⟨bA, 0, none⟩) nA cA clock] w (ArR nI I nL L nR R nA A clock w) := by
  obtain ⟨W, hW⟩ : ∃ W, W = (w.alloc (.cells #[.slice (some ⟨bI, 0, none⟩) nI cI, .slice (some ⟨bL, 0, none⟩) nL cL, .slice (some ⟨bR, 0, none⟩) nR cR, .slice (some ⟨bA, 0, none⟩) nA cA, .int .i64 clock] 32)).alloc (.cells #[.slice none 0 0, .slice none 0 0, .slice none 0 0, .slice none 0 0, .int .i64 0] 32) := ⟨_, rfl⟩
  have s0 : (w.alloc (.cells #[.slice (some ⟨bI, 0, none⟩) nI cI, .slice (some ⟨bL, 0, none⟩) nL cL, .slice (some ⟨bR, 0, none⟩) nR cR, .slice (some ⟨bA, 0, none⟩) nA cA, .int .i64 clock] 32)).heap.size = w.heap.size + 1 := by simp
  have s2 : W.heap.size = w.heap.size + 2 := by rw [hW]; simp
  have HB : Hid (Below w.heap.size w W) := by show Below _ _ _; rw [hW]; exact (bnew _ _).alloc (by simp) _
  have HX0 : Hid (Bx w.heap.size [.slice (some ⟨bI, 0, none⟩) nI cI, .slice (some ⟨bL, 0, none⟩) nL cL, .slice (some ⟨bR, 0, none⟩) nR cR, .slice (some ⟨bA, 0, none⟩) nA cA, .int .i64 clock] W) := by
    show Bx _ _ _
    rw [hW]
    exact (Bx.new [.slice (some ⟨bI, 0, none⟩) nI cI, .slice (some ⟨bL, 0, none⟩) nL cL, .slice (some ⟨bR, 0, none⟩) nR cR, .slice (some ⟨bA, 0, none⟩) nA cA, .int .i64 clock] 32 w).below (bnew _ _) (by rw [s0]; omega)
  have HX1 : Hid (Bx (w.heap.size + 1) [.slice none 0 0, .slice none 0 0, .slice none 0 0, .slice none 0 0, .int .i64 0] W) := by
    show Bx _ _ _
    have h := Bx.new [.slice none 0 0, .slice none 0 0, .slice none 0 0, .slice none 0 0, .int .i64 0] 32 (w.alloc (.cells #[.slice (some ⟨bI, 0, none⟩) nI cI, .slice (some ⟨bL, 0, none⟩) nL cL, .slice (some ⟨bR, 0, none⟩) nR cR, .slice (some ⟨bA, 0, none⟩) nA cA, .int .i64 clock] 32))
    rw [s0] at h
    rw [hW]; exact h
  have HR := hide (h.below HB.out)
  have HS2 := hide s2
  have cEntry := fun b n c E hl w h => cloneEntry_any b n c E hl w h
  have cCopy := fun b n c E hl w h => cloneCopy_any b n c E hl w h
  have cNote := fun b n c E hl w h => cloneNote_any b n c E hl w h
  have hW' := hW.symm
  clear h hW s0 s2
  go_enter Try.func20, Try.ntmps20
  go_upto_region 1 with fail
  (try rw [hW'])
  clear hW'
  obtain ⟨H, hH⟩ : ∃ H : Nat → Value → World → Prop, H = (fun j v wz => match j with | 0 => v = .pointer (some ⟨w.heap.size, 0, none⟩) | 1 => v = .slice (some ⟨bI, 0, none⟩) nI cI | 2 => ∃ a c d, v = .slice a nI c ∧ OwV a d (nI * 5) (FEntry I) wz ∧ (nI * 5 = 0 ∨ w.heap.size + 2 ≤ d) | 3 => v = .pointer (some ⟨w.heap.size, 1, none⟩) | 4 => v = .slice (some ⟨bL, 0, none⟩) nL cL | 5 => ∃ a c d, v = .slice a nL c ∧ OwV a d (nL * 4) (FCopy L) wz ∧ (nL * 4 = 0 ∨ w.heap.size + 2 ≤ d) | 6 => v = .pointer (some ⟨w.heap.size, 2, none⟩) | 7 => v = .slice (some ⟨bR, 0, none⟩) nR cR | 8 => ∃ a c d, v = .slice a nR c ∧ OwV a d (nR * 4) (FCopy R) wz ∧ (nR * 4 = 0 ∨ w.heap.size + 2 ≤ d) | 9 => v = .pointer (some ⟨w.heap.size, 3, none⟩) | 10 => v = .slice (some ⟨bA, 0, none⟩) nA cA | 11 => ∃ a c d, v = .slice a nA c ∧ OwV a d (nA * 5) (FNote A) wz ∧ (nA * 5 = 0 ∨ w.heap.size + 2 ≤ d) | 12 => v = .pointer (some ⟨w.heap.size, 4, none⟩) | 13 => v = .int .i64 clock | 14 => ∃ aI cI dI aL cL dL aR cR dR aA cA dA, v = vArch aI nI cI aL nL cL aR nR cR aA nA cA clock ∧ St W [] [(aI, dI, nI * 5, FEntry I), (aL, dL, nL * 4, FCopy L), (aR, dR, nR * 4, FCopy R), (aA, dA, nA * 5, FNote A)] wz | _ => True) := ⟨_, rfl⟩
  have H0 : Hid (∀ v wz, H 0 v wz ↔ (v = .pointer (some ⟨w.heap.size, 0, none⟩))) := fun v wz => by rw [hH]; exact Iff.rfl
  have H1 : Hid (∀ v wz, H 1 v wz ↔ (v = .slice (some ⟨bI, 0, none⟩) nI cI)) := fun v wz => by rw [hH]; exact Iff.rfl
  have H2 : Hid (∀ v wz, H 2 v wz ↔ (∃ a c d, v = .slice a nI c ∧ OwV a d (nI * 5) (FEntry I) wz ∧ (nI * 5 = 0 ∨ w.heap.size + 2 ≤ d))) := fun v wz => by rw [hH]; exact Iff.rfl
  have H3 : Hid (∀ v wz, H 3 v wz ↔ (v = .pointer (some ⟨w.heap.size, 1, none⟩))) := fun v wz => by rw [hH]; exact Iff.rfl
  have H4 : Hid (∀ v wz, H 4 v wz ↔ (v = .slice (some ⟨bL, 0, none⟩) nL cL)) := fun v wz => by rw [hH]; exact Iff.rfl
  have H5 : Hid (∀ v wz, H 5 v wz ↔ (∃ a c d, v = .slice a nL c ∧ OwV a d (nL * 4) (FCopy L) wz ∧ (nL * 4 = 0 ∨ w.heap.size + 2 ≤ d))) := fun v wz => by rw [hH]; exact Iff.rfl
  have H6 : Hid (∀ v wz, H 6 v wz ↔ (v = .pointer (some ⟨w.heap.size, 2, none⟩))) := fun v wz => by rw [hH]; exact Iff.rfl
  have H7 : Hid (∀ v wz, H 7 v wz ↔ (v = .slice (some ⟨bR, 0, none⟩) nR cR)) := fun v wz => by rw [hH]; exact Iff.rfl
  have H8 : Hid (∀ v wz, H 8 v wz ↔ (∃ a c d, v = .slice a nR c ∧ OwV a d (nR * 4) (FCopy R) wz ∧ (nR * 4 = 0 ∨ w.heap.size + 2 ≤ d))) := fun v wz => by rw [hH]; exact Iff.rfl
  have H9 : Hid (∀ v wz, H 9 v wz ↔ (v = .pointer (some ⟨w.heap.size, 3, none⟩))) := fun v wz => by rw [hH]; exact Iff.rfl
  have H10 : Hid (∀ v wz, H 10 v wz ↔ (v = .slice (some ⟨bA, 0, none⟩) nA cA)) := fun v wz => by rw [hH]; exact Iff.rfl
  have H11 : Hid (∀ v wz, H 11 v wz ↔ (∃ a c d, v = .slice a nA c ∧ OwV a d (nA * 5) (FNote A) wz ∧ (nA * 5 = 0 ∨ w.heap.size + 2 ≤ d))) := fun v wz => by rw [hH]; exact Iff.rfl
  have H12 : Hid (∀ v wz, H 12 v wz ↔ (v = .pointer (some ⟨w.heap.size, 4, none⟩))) := fun v wz => by rw [hH]; exact Iff.rfl
  have H13 : Hid (∀ v wz, H 13 v wz ↔ (v = .int .i64 clock)) := fun v wz => by rw [hH]; exact Iff.rfl
  have H14 : Hid (∀ v wz, H 14 v wz ↔ (∃ aI cI dI aL cL dL aR cR dR aA cA dA, v = vArch aI nI cI aL nL cL aR nR cR aA nA cA clock ∧ St W [] [(aI, dI, nI * 5, FEntry I), (aL, dL, nL * 4, FCopy L), (aR, dR, nR * 4, FCopy R), (aA, dA, nA * 5, FNote A)] wz)) := fun v wz => by rw [hH]; exact Iff.rfl
  have HST : Hid (∀ j v (w1 w2 : World), Below w1.heap.size w1 w2 → H j v w1 → H j v w2) := by
    intro j v w1 w2 hb hp
    rw [hH] at hp ⊢
    dsimp only at hp ⊢
    split at hp
    · exact hp
    · exact hp
    · obtain ⟨a, c, d, e, ho, h1⟩ := hp; exact ⟨a, c, d, e, ho.below hb, h1⟩
    · exact hp
    · exact hp
    · obtain ⟨a, c, d, e, ho, h1⟩ := hp; exact ⟨a, c, d, e, ho.below hb, h1⟩
    · exact hp
    · exact hp
    · obtain ⟨a, c, d, e, ho, h1⟩ := hp; exact ⟨a, c, d, e, ho.below hb, h1⟩
    · exact hp
    · exact hp
    · obtain ⟨a, c, d, e, ho, h1⟩ := hp; exact ⟨a, c, d, e, ho.below hb, h1⟩
    · exact hp
    · exact hp
    · obtain ⟨aI, cI, dI, aL, cL, dL, aR, cR, dR, aA, cA, dA, e, hs⟩ := hp; exact ⟨aI, cI, dI, aL, cL, dL, aR, cR, dR, aA, cA, dA, e, hs.next hb⟩
    · trivial
  clear hH
  obtain ⟨PX, hPX⟩ : ∃ P : World → Prop, P = (fun wz => ∃ aI cI dI aL cL dL aR cR dR aA cA dA, Bx (w.heap.size + 1) [.slice aI nI cI, .slice aL nL cL, .slice aR nR cR, .slice aA nA cA, .int .i64 clock] wz ∧ St w [] [(aI, dI, nI * 5, FEntry I), (aL, dL, nL * 4, FCopy L), (aR, dR, nR * 4, FCopy R), (aA, dA, nA * 5, FNote A)] wz) := ⟨_, rfl⟩
  have HPX := hide hPX
  clear hPX
  refine region_opsV (aR [2, 5, 8, 11] 15 W) (aF 15 H PX) (by kernel_rfl) (by kernel_rfl) (by kernel_rfl) (by kernel_rfl) ?_ ?_ ?_
  · refine fun _ => ⟨(Below.refl _ _).drew, fun j hj b n c hv _ => ?_, fun i hi j hj _ b n c b' n' c' hv _ _ _ => ?_⟩
    · simp only [List.mem_cons, List.not_mem_nil, or_false] at hj
      rcases hj with rfl | rfl | rfl | rfl <;>
      · have h := hv.symm.trans (show _ = undef by kernel_rfl)
        simp [undef] at h
    · simp only [List.mem_cons, List.not_mem_nil, or_false] at hi
      rcases hi with rfl | rfl | rfl | rfl <;>
      · have h := hv.symm.trans (show _ = undef by kernel_rfl)
        simp [undef] at h
  · refine ⟨?_, ?_, ?_, ?_, ?_, ?_, ?_, ?_, ?_, ?_, ?_, ?_, ?_, ?_, ?_, ?_, trivial⟩
    ·
      intro u w21 au hsl hel hu hF hp' K hK
      have hU : u 15 = undef := (hu.out 15 (by decide) (.inr (by kernel_rfl))).trans (by kernel_rfl)
      obtain ⟨hB21, hL21, hD21⟩ := hF hU
      have tq : au.tmps[1]?.getD undef = .pointer (some ⟨w.heap.size, 0, none⟩) := (hel.out 1 (by kernel_rfl)).trans (by kernel_rfl)
      clear hU
      refine step_plain rfl ?_
      go_simp
      exact hK.out (.pointer (some ⟨w.heap.size, 0, none⟩)) _ (aR_up hF (Below.refl _ _) 0 (by omega) (by decide) _) (aF_val 0 (by omega) ((H0.out _ _).2 rfl)) (fun j hj hf h => aF_up (fun j v h => HST.out j v _ _ (Below.refl _ _) h) 0 (by omega) _ j hj (fun e => by subst e; exact absurd (Eq.trans (Eq.symm (by kernel_rfl)) hf) Bool.false_ne_true) h)
    ·
      intro u w21 au hsl hel hu hF hp' K hK
      have hU : u 15 = undef := (hu.out 15 (by decide) (.inr (by kernel_rfl))).trans (by kernel_rfl)
      obtain ⟨hB21, hL21, hD21⟩ := hF hU
      have h0 := (H0.out _ _).1 ((PreF.get hp' 0 (by kernel_rfl)).1.resolve_left (fun hx => hx hU))
      have tq : au.tmps[3]?.getD undef = u 0 := hsl.out 0 3 (by kernel_rfl)
      rw [h0] at tq
      have xc := (HX0.out.below hB21 (by have := HS2.out; omega) 0 _ rfl).1
      clear hU
      refine step_plain rfl ?_
      go_simp
      exact hK.out (.slice (some ⟨bI, 0, none⟩) nI cI) _ (aR_up hF (Below.refl _ _) 1 (by omega) (by decide) _) (aF_val 1 (by omega) ((H1.out _ _).2 rfl)) (fun j hj hf h => aF_up (fun j v h => HST.out j v _ _ (Below.refl _ _) h) 1 (by omega) _ j hj (fun e => by subst e; exact absurd (Eq.trans (Eq.symm (by kernel_rfl)) hf) Bool.false_ne_true) h)
    ·
      intro u w21 au hsl hel hu hF hp' K hK
      have hU : u 15 = undef := (hu.out 15 (by decide) (.inr (by kernel_rfl))).trans (by kernel_rfl)
      obtain ⟨hB21, hL21, hD21⟩ := hF hU
      have h0 := (H1.out _ _).1 ((PreF.get hp' 1 (by kernel_rfl)).1.resolve_left (fun hx => hx hU))
      have tq : au.tmps[4]?.getD undef = u 1 := hsl.out 1 4 (by kernel_rfl)
      rw [h0] at tq
      have hrd := (HR.out.below (hB21.mono (Nat.le_refl _))).i
      have cc := cEntry bI nI cI I hl.1 w21 hrd
      clear hU
      refine step_plain rfl ?_
      go_simp
      refine cc.mono ?_
      rintro e w22 ⟨v22, rfl, hw22, hb22⟩
      obtain ⟨a22, c22, d22, rfl, ho22, h1, -⟩ := own_V hw22
      exact hK.out _ _ (aR_own hF hb22 2 (by omega) (m := 5) (by omega) ho22 (h1.imp id id)) (aF_val 2 (by omega) ((H2.out _ _).2 ⟨_, _, _, rfl, ho22, h1.imp id fun h => by have := hB21.size; have := HS2.out; omega⟩)) (fun j hj hf h => aF_up (fun j v h => HST.out j v _ _ hb22 h) 2 (by omega) _ j hj (fun e => by subst e; exact absurd (Eq.trans (Eq.symm (by kernel_rfl)) hf) Bool.false_ne_true) h)
    ·
      intro u w21 au hsl hel hu hF hp' K hK
      have hU : u 15 = undef := (hu.out 15 (by decide) (.inr (by kernel_rfl))).trans (by kernel_rfl)
      obtain ⟨hB21, hL21, hD21⟩ := hF hU
      have tq : au.tmps[1]?.getD undef = .pointer (some ⟨w.heap.size, 0, none⟩) := (hel.out 1 (by kernel_rfl)).trans (by kernel_rfl)
      clear hU
      refine step_plain rfl ?_
      go_simp
      exact hK.out (.pointer (some ⟨w.heap.size, 1, none⟩)) _ (aR_up hF (Below.refl _ _) 3 (by omega) (by decide) _) (aF_val 3 (by omega) ((H3.out _ _).2 rfl)) (fun j hj hf h => aF_up (fun j v h => HST.out j v _ _ (Below.refl _ _) h) 3 (by omega) _ j hj (fun e => by subst e; exact absurd (Eq.trans (Eq.symm (by kernel_rfl)) hf) Bool.false_ne_true) h)
    ·
      intro u w21 au hsl hel hu hF hp' K hK
      have hU : u 15 = undef := (hu.out 15 (by decide) (.inr (by kernel_rfl))).trans (by kernel_rfl)
      obtain ⟨hB21, hL21, hD21⟩ := hF hU
      have h0 := (H3.out _ _).1 ((PreF.get hp' 3 (by kernel_rfl)).1.resolve_left (fun hx => hx hU))
      have tq : au.tmps[6]?.getD undef = u 3 := hsl.out 3 6 (by kernel_rfl)
      rw [h0] at tq
      have xc := (HX0.out.below hB21 (by have := HS2.out; omega) 1 _ rfl).1
      clear hU
      refine step_plain rfl ?_
      go_simp
      exact hK.out (.slice (some ⟨bL, 0, none⟩) nL cL) _ (aR_up hF (Below.refl _ _) 4 (by omega) (by decide) _) (aF_val 4 (by omega) ((H4.out _ _).2 rfl)) (fun j hj hf h => aF_up (fun j v h => HST.out j v _ _ (Below.refl _ _) h) 4 (by omega) _ j hj (fun e => by subst e; exact absurd (Eq.trans (Eq.symm (by kernel_rfl)) hf) Bool.false_ne_true) h)
    ·
      intro u w21 au hsl hel hu hF hp' K hK
      have hU : u 15 = undef := (hu.out 15 (by decide) (.inr (by kernel_rfl))).trans (by kernel_rfl)
      obtain ⟨hB21, hL21, hD21⟩ := hF hU
      have h0 := (H4.out _ _).1 ((PreF.get hp' 4 (by kernel_rfl)).1.resolve_left (fun hx => hx hU))
      have tq : au.tmps[7]?.getD undef = u 4 := hsl.out 4 7 (by kernel_rfl)
      rw [h0] at tq
      have hrd := (HR.out.below (hB21.mono (Nat.le_refl _))).l
      have cc := cCopy bL nL cL L hl.2.1 w21 hrd
      clear hU
      refine step_plain rfl ?_
      go_simp
      refine cc.mono ?_
      rintro e w22 ⟨v22, rfl, hw22, hb22⟩
      obtain ⟨a22, c22, d22, rfl, ho22, h1, -⟩ := own_V hw22
      exact hK.out _ _ (aR_own hF hb22 5 (by omega) (m := 4) (by omega) ho22 (h1.imp id id)) (aF_val 5 (by omega) ((H5.out _ _).2 ⟨_, _, _, rfl, ho22, h1.imp id fun h => by have := hB21.size; have := HS2.out; omega⟩)) (fun j hj hf h => aF_up (fun j v h => HST.out j v _ _ hb22 h) 5 (by omega) _ j hj (fun e => by subst e; exact absurd (Eq.trans (Eq.symm (by kernel_rfl)) hf) Bool.false_ne_true) h)
    ·
      intro u w21 au hsl hel hu hF hp' K hK
      have hU : u 15 = undef := (hu.out 15 (by decide) (.inr (by kernel_rfl))).trans (by kernel_rfl)
      obtain ⟨hB21, hL21, hD21⟩ := hF hU
      have tq : au.tmps[1]?.getD undef = .pointer (some ⟨w.heap.size, 0, none⟩) := (hel.out 1 (by kernel_rfl)).trans (by kernel_rfl)
      clear hU
      refine step_plain rfl ?_
      go_simp
      exact hK.out (.pointer (some ⟨w.heap.size, 2, none⟩)) _ (aR_up hF (Below.refl _ _) 6 (by omega) (by decide) _) (aF_val 6 (by omega) ((H6.out _ _).2 rfl)) (fun j hj hf h => aF_up (fun j v h => HST.out j v _ _ (Below.refl _ _) h) 6 (by omega) _ j hj (fun e => by subst e; exact absurd (Eq.trans (Eq.symm (by kernel_rfl)) hf) Bool.false_ne_true) h)
    ·
      intro u w21 au hsl hel hu hF hp' K hK
      have hU : u 15 = undef := (hu.out 15 (by decide) (.inr (by kernel_rfl))).trans (by kernel_rfl)
      obtain ⟨hB21, hL21, hD21⟩ := hF hU
      have h0 := (H6.out _ _).1 ((PreF.get hp' 6 (by kernel_rfl)).1.resolve_left (fun hx => hx hU))
      have tq : au.tmps[9]?.getD undef = u 6 := hsl.out 6 9 (by kernel_rfl)
      rw [h0] at tq
      have xc := (HX0.out.below hB21 (by have := HS2.out; omega) 2 _ rfl).1
      clear hU
      refine step_plain rfl ?_
      go_simp
      exact hK.out (.slice (some ⟨bR, 0, none⟩) nR cR) _ (aR_up hF (Below.refl _ _) 7 (by omega) (by decide) _) (aF_val 7 (by omega) ((H7.out _ _).2 rfl)) (fun j hj hf h => aF_up (fun j v h => HST.out j v _ _ (Below.refl _ _) h) 7 (by omega) _ j hj (fun e => by subst e; exact absurd (Eq.trans (Eq.symm (by kernel_rfl)) hf) Bool.false_ne_true) h)
    ·
      intro u w21 au hsl hel hu hF hp' K hK
      have hU : u 15 = undef := (hu.out 15 (by decide) (.inr (by kernel_rfl))).trans (by kernel_rfl)
      obtain ⟨hB21, hL21, hD21⟩ := hF hU
      have h0 := (H7.out _ _).1 ((PreF.get hp' 7 (by kernel_rfl)).1.resolve_left (fun hx => hx hU))
      have tq : au.tmps[10]?.getD undef = u 7 := hsl.out 7 10 (by kernel_rfl)
      rw [h0] at tq
      have hrd := (HR.out.below (hB21.mono (Nat.le_refl _))).r
      have cc := cCopy bR nR cR R hl.2.2.1 w21 hrd
      clear hU
      refine step_plain rfl ?_
      go_simp
      refine cc.mono ?_
      rintro e w22 ⟨v22, rfl, hw22, hb22⟩
      obtain ⟨a22, c22, d22, rfl, ho22, h1, -⟩ := own_V hw22
      exact hK.out _ _ (aR_own hF hb22 8 (by omega) (m := 4) (by omega) ho22 (h1.imp id id)) (aF_val 8 (by omega) ((H8.out _ _).2 ⟨_, _, _, rfl, ho22, h1.imp id fun h => by have := hB21.size; have := HS2.out; omega⟩)) (fun j hj hf h => aF_up (fun j v h => HST.out j v _ _ hb22 h) 8 (by omega) _ j hj (fun e => by subst e; exact absurd (Eq.trans (Eq.symm (by kernel_rfl)) hf) Bool.false_ne_true) h)
    ·
      intro u w21 au hsl hel hu hF hp' K hK
      have hU : u 15 = undef := (hu.out 15 (by decide) (.inr (by kernel_rfl))).trans (by kernel_rfl)
      obtain ⟨hB21, hL21, hD21⟩ := hF hU
      have tq : au.tmps[1]?.getD undef = .pointer (some ⟨w.heap.size, 0, none⟩) := (hel.out 1 (by kernel_rfl)).trans (by kernel_rfl)
      clear hU
      refine step_plain rfl ?_
      go_simp
      exact hK.out (.pointer (some ⟨w.heap.size, 3, none⟩)) _ (aR_up hF (Below.refl _ _) 9 (by omega) (by decide) _) (aF_val 9 (by omega) ((H9.out _ _).2 rfl)) (fun j hj hf h => aF_up (fun j v h => HST.out j v _ _ (Below.refl _ _) h) 9 (by omega) _ j hj (fun e => by subst e; exact absurd (Eq.trans (Eq.symm (by kernel_rfl)) hf) Bool.false_ne_true) h)
    ·
      intro u w21 au hsl hel hu hF hp' K hK
      have hU : u 15 = undef := (hu.out 15 (by decide) (.inr (by kernel_rfl))).trans (by kernel_rfl)
      obtain ⟨hB21, hL21, hD21⟩ := hF hU
      have h0 := (H9.out _ _).1 ((PreF.get hp' 9 (by kernel_rfl)).1.resolve_left (fun hx => hx hU))
      have tq : au.tmps[12]?.getD undef = u 9 := hsl.out 9 12 (by kernel_rfl)
      rw [h0] at tq
      have xc := (HX0.out.below hB21 (by have := HS2.out; omega) 3 _ rfl).1
      clear hU
      refine step_plain rfl ?_
      go_simp
      exact hK.out (.slice (some ⟨bA, 0, none⟩) nA cA) _ (aR_up hF (Below.refl _ _) 10 (by omega) (by decide) _) (aF_val 10 (by omega) ((H10.out _ _).2 rfl)) (fun j hj hf h => aF_up (fun j v h => HST.out j v _ _ (Below.refl _ _) h) 10 (by omega) _ j hj (fun e => by subst e; exact absurd (Eq.trans (Eq.symm (by kernel_rfl)) hf) Bool.false_ne_true) h)
    ·
      intro u w21 au hsl hel hu hF hp' K hK
      have hU : u 15 = undef := (hu.out 15 (by decide) (.inr (by kernel_rfl))).trans (by kernel_rfl)
      obtain ⟨hB21, hL21, hD21⟩ := hF hU
      have h0 := (H10.out _ _).1 ((PreF.get hp' 10 (by kernel_rfl)).1.resolve_left (fun hx => hx hU))
      have tq : au.tmps[13]?.getD undef = u 10 := hsl.out 10 13 (by kernel_rfl)
      rw [h0] at tq
      have hrd := (HR.out.below (hB21.mono (Nat.le_refl _))).a
      have cc := cNote bA nA cA A hl.2.2.2 w21 hrd
      clear hU
      refine step_plain rfl ?_
      go_simp
      refine cc.mono ?_
      rintro e w22 ⟨v22, rfl, hw22, hb22⟩
      obtain ⟨a22, c22, d22, rfl, ho22, h1, -⟩ := own_V hw22
      exact hK.out _ _ (aR_own hF hb22 11 (by omega) (m := 5) (by omega) ho22 (h1.imp id id)) (aF_val 11 (by omega) ((H11.out _ _).2 ⟨_, _, _, rfl, ho22, h1.imp id fun h => by have := hB21.size; have := HS2.out; omega⟩)) (fun j hj hf h => aF_up (fun j v h => HST.out j v _ _ hb22 h) 11 (by omega) _ j hj (fun e => by subst e; exact absurd (Eq.trans (Eq.symm (by kernel_rfl)) hf) Bool.false_ne_true) h)
    ·
      intro u w21 au hsl hel hu hF hp' K hK
      have hU : u 15 = undef := (hu.out 15 (by decide) (.inr (by kernel_rfl))).trans (by kernel_rfl)
      obtain ⟨hB21, hL21, hD21⟩ := hF hU
      have tq : au.tmps[1]?.getD undef = .pointer (some ⟨w.heap.size, 0, none⟩) := (hel.out 1 (by kernel_rfl)).trans (by kernel_rfl)
      clear hU
      refine step_plain rfl ?_
      go_simp
      exact hK.out (.pointer (some ⟨w.heap.size, 4, none⟩)) _ (aR_up hF (Below.refl _ _) 12 (by omega) (by decide) _) (aF_val 12 (by omega) ((H12.out _ _).2 rfl)) (fun j hj hf h => aF_up (fun j v h => HST.out j v _ _ (Below.refl _ _) h) 12 (by omega) _ j hj (fun e => by subst e; exact absurd (Eq.trans (Eq.symm (by kernel_rfl)) hf) Bool.false_ne_true) h)
    ·
      intro u w21 au hsl hel hu hF hp' K hK
      have hU : u 15 = undef := (hu.out 15 (by decide) (.inr (by kernel_rfl))).trans (by kernel_rfl)
      obtain ⟨hB21, hL21, hD21⟩ := hF hU
      have h0 := (H12.out _ _).1 ((PreF.get hp' 12 (by kernel_rfl)).1.resolve_left (fun hx => hx hU))
      have tq : au.tmps[15]?.getD undef = u 12 := hsl.out 12 15 (by kernel_rfl)
      rw [h0] at tq
      have xc := (HX0.out.below hB21 (by have := HS2.out; omega) 4 _ rfl).1
      clear hU
      refine step_plain rfl ?_
      go_simp
      exact hK.out (.int .i64 clock) _ (aR_up hF (Below.refl _ _) 13 (by omega) (by decide) _) (aF_val 13 (by omega) ((H13.out _ _).2 rfl)) (fun j hj hf h => aF_up (fun j v h => HST.out j v _ _ (Below.refl _ _) h) 13 (by omega) _ j hj (fun e => by subst e; exact absurd (Eq.trans (Eq.symm (by kernel_rfl)) hf) Bool.false_ne_true) h)
    ·
      intro u w21 au hsl hel hu hF hp' K hK
      have hU : u 15 = undef := (hu.out 15 (by decide) (.inr (by kernel_rfl))).trans (by kernel_rfl)
      obtain ⟨hB21, hL21, hD21⟩ := hF hU
      obtain ⟨aI, cI', dI, eI, oI, kI⟩ := (H2.out _ _).1 ((PreF.get hp' 2 (by kernel_rfl)).1.resolve_left (fun hx => hx hU))
      have tI : au.tmps[5]?.getD undef = u 2 := hsl.out 2 5 (by kernel_rfl)
      rw [eI] at tI
      obtain ⟨aL, cL', dL, eL, oL, kL⟩ := (H5.out _ _).1 ((PreF.get hp' 5 (by kernel_rfl)).1.resolve_left (fun hx => hx hU))
      have tL : au.tmps[8]?.getD undef = u 5 := hsl.out 5 8 (by kernel_rfl)
      rw [eL] at tL
      obtain ⟨aR, cR', dR, eR, oR, kR⟩ := (H8.out _ _).1 ((PreF.get hp' 8 (by kernel_rfl)).1.resolve_left (fun hx => hx hU))
      have tR : au.tmps[11]?.getD undef = u 8 := hsl.out 8 11 (by kernel_rfl)
      rw [eR] at tR
      obtain ⟨aA, cA', dA, eA, oA, kA⟩ := (H11.out _ _).1 ((PreF.get hp' 11 (by kernel_rfl)).1.resolve_left (fun hx => hx hU))
      have tA : au.tmps[14]?.getD undef = u 11 := hsl.out 11 14 (by kernel_rfl)
      rw [eA] at tA
      have h0 := (H13.out _ _).1 ((PreF.get hp' 13 (by kernel_rfl)).1.resolve_left (fun hx => hx hU))
      have tc : au.tmps[16]?.getD undef = u 13 := hsl.out 13 16 (by kernel_rfl)
      rw [h0] at tc
      have hs2 := HS2.out
      have HZ : Hid (St W [] [(aI, dI, nI * 5, FEntry I), (aL, dL, nL * 4, FCopy L), (aR, dR, nR * 4, FCopy R), (aA, dA, nA * 5, FNote A)] w21) := by
        have sh : ∀ (a : Option Addr) (d n m : Nat) (F : Nat → Value) (c : Nat) (i : Nat), u i = .slice a n c → OwV a d (n * m) F w21 → n * m ≠ 0 → u i = .slice (some ⟨d, 0, none⟩) n c ∧ n ≠ 0 := fun a d n m F c i e ho h0 => by
          rcases ho with h | ⟨h, -⟩
          · exact absurd h h0
          · exact ⟨by rw [e, h], fun hn => h0 (by rw [hn, Nat.zero_mul])⟩
        have dj : ∀ i ∈ [2, 5, 8, 11], ∀ j ∈ [2, 5, 8, 11], i ≠ j → ∀ (a : Option Addr) (d n m : Nat) (F : Nat → Value) (c : Nat) (a' : Option Addr) (d' n' m' : Nat) (F' : Nat → Value) (c' : Nat), u i = .slice a n c → OwV a d (n * m) F w21 → u j = .slice a' n' c' → OwV a' d' (n' * m') F' w21 → n * m ≠ 0 → n' * m' ≠ 0 → d ≠ d' := fun i hi j hj hij a d n m F c a' d' n' m' F' c' e1 o1 e2 o2 z1 z2 => by
          obtain ⟨g1, y1⟩ := sh _ _ _ _ _ _ _ e1 o1 z1
          obtain ⟨g2, y2⟩ := sh _ _ _ _ _ _ _ e2 o2 z2
          exact hD21 i hi j hj hij _ _ _ _ _ _ g1 g2 y1 y2
        exact St.four hB21 oI oL oR oA (kI.imp id fun h => by omega) (kL.imp id fun h => by omega) (kR.imp id fun h => by omega) (kA.imp id fun h => by omega)
          (dj 2 (by decide) 5 (by decide) (by decide) _ _ _ _ _ _ _ _ _ _ _ _ eI oI eL oL) (dj 2 (by decide) 8 (by decide) (by decide) _ _ _ _ _ _ _ _ _ _ _ _ eI oI eR oR) (dj 2 (by decide) 11 (by decide) (by decide) _ _ _ _ _ _ _ _ _ _ _ _ eI oI eA oA)
          (dj 5 (by decide) 8 (by decide) (by decide) _ _ _ _ _ _ _ _ _ _ _ _ eL oL eR oR) (dj 5 (by decide) 11 (by decide) (by decide) _ _ _ _ _ _ _ _ _ _ _ _ eL oL eA oA) (dj 8 (by decide) 11 (by decide) (by decide) _ _ _ _ _ _ _ _ _ _ _ _ eR oR eA oA)
      clear hU oI oL oR oA kI kL kR kA
      refine step_plain rfl ?_
      go_simp
      exact hK.out (vArch aI nI cI' aL nL cL' aR nR cR' aA nA cA' clock) _ (aR_up hF (Below.refl _ _) 14 (by omega) (by decide) _) (aF_val 14 (by omega) ((H14.out _ _).2 ⟨_, _, _, _, _, _, _, _, _, _, _, _, rfl, HZ.out⟩)) (fun j hj hf h => aF_up (fun j v h => HST.out j v _ _ (Below.refl _ _) h) 14 (by omega) _ j hj (fun e => by subst e; exact absurd (Eq.trans (Eq.symm (by kernel_rfl)) hf) Bool.false_ne_true) h)
    ·
      intro u w21 au hsl hel hu hF hp' K hK
      have hU : u 15 = undef := (hu.out 15 (by decide) (.inl rfl)).trans (by kernel_rfl)
      obtain ⟨hB21, hL21, hD21⟩ := hF hU
      obtain ⟨aI, cI', dI, aL, cL', dL, aR, cR', dR, aA, cA', dA, e0, hst⟩ := (H14.out _ _).1 ((PreF.get hp' 14 (by kernel_rfl)).1.resolve_left (fun hx => hx hU))
      have tq : au.tmps[17]?.getD undef = u 14 := hsl.out 14 17 (by kernel_rfl)
      rw [e0] at tq
      have t2 : au.tmps[2]?.getD undef = .pointer (some ⟨w.heap.size + 1, 0, none⟩) := (hel.out 2 (by kernel_rfl)).trans (by kernel_rfl)
      have hx := HX1.out.below hB21 (by have := HS2.out; omega)
      have HZ := hide (St.filled5 HB.out HS2.out hst hx (.slice aI nI cI') (.slice aL nL cL') (.slice aR nR cR') (.slice aA nA cA') (.int .i64 clock))
      obtain ⟨y0, z0⟩ := hx 0 _ rfl
      obtain ⟨y1, z1⟩ := hx 1 _ rfl
      obtain ⟨y2, z2⟩ := hx 2 _ rfl
      obtain ⟨y3, z3⟩ := hx 3 _ rfl
      obtain ⟨y4, z4⟩ := hx 4 _ rfl
      clear hU hst hx
      refine step_plain rfl ?_
      go_simp
      exact hK.out (.bool true) _ (aR_st (by simp [undef])) (aF_done (by simp [undef]) (by rw [HPX.out]; exact ⟨_, _, _, _, _, _, _, _, _, _, _, _, HZ.out.1, HZ.out.2⟩)) (fun j hj _ h => aF_st (by simp [undef]) j hj)
  · intro u w30 hF hall
    have hP := (hall 15 (by decide)).2 rfl
    rw [HPX.out] at hP
    obtain ⟨aI, cI', dI, aL, cL', dL, aR, cR', dR, aA, cA', dA, hx, hst⟩ := hP
    have HF : Hid (ArR nI I nL L nR R nA A clock w (.returned (vArch aI nI cI' aL nL cL' aR nR cR' aA nA cA' clock)) w30) := ⟨_, _, _, _, _, _, _, _, _, _, _, _, rfl, hst⟩
    obtain ⟨y0, z0⟩ := hx 0 _ rfl
    obtain ⟨y1, z1⟩ := hx 1 _ rfl
    obtain ⟨y2, z2⟩ := hx 2 _ rfl
    obtain ⟨y3, z3⟩ := hx 3 _ rfl
    obtain ⟨y4, z4⟩ := hx 4 _ rfl
    clear hall hF hx hst
    simp only [rgPut, Act.put]
    go_simp
    go_wp2_with fail
    exact bodyPost_ret (v := vArch aI nI cI' aL nL cL' aR nR cR' aA nA cA' clock) (by simp [results, Try.results20, go_sem, y0, y1, y2, y3, y4]) rfl HF.out

end Go.Proofs.Ytcdpnofjahdieaa

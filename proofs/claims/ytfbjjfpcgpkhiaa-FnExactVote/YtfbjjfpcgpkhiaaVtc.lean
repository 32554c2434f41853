/- The program's votes. -/
import Derived.Test.YtfbjjfpcgpkhiaaVtb
namespace Go.Proofs.Ytfbjjfpcgpkhiaa
open Go.RowKit

/-- a block that is not in hand may turn -/
theorem St.off {w0 : World} {L : List BoxT} {O : List OwnT} {w w' : World} {b : Nat} (h : St w0 L O w) (hk : Kept b w w') (hb : b ∉ blocks L O) (h0 : w0.heap.size ≤ b) : St w0 L O w' := by
  refine ⟨h.below.trans (hk.below h0 h.below.size), fun x hx => (h.bx x hx).kept hk (fun e => hb ?_), fun x hx => (h.ow x hx).keptO hk (fun hx0 e => hb ?_), fun c hc => ?_, h.nd⟩
  · rw [← e]; exact mem_blocks_box hx
  · rw [← e]; exact mem_blocks_own hx hx0
  · have := h.lt c hc
    exact ⟨this.1, Nat.lt_of_lt_of_le this.2 hk.size⟩
theorem PxM.kept {a : Option Addr} {m p : Nat} {ad : Nat → Option Addr} {ln cp : Nat → Nat} {F : Nat → Nat → Int} {Wv Hv : Nat → Int} {w w' : World} (h : PxM a m ad ln cp F Wv Hv w) (hk : Kept p w w') (h3 : ∀ b off, a = some ⟨b, off, none⟩ → b ≠ p) (h4 : ∀ i b off, i < m → ad i = some ⟨b, off, none⟩ → b ≠ p) : PxM a m ad ln cp F Wv Hv w' := by
  refine ⟨?_, fun i hi => ?_⟩
  · rcases h.1 with h0 | ⟨b, off, ha, hc⟩
    · exact .inl h0
    · have hb := h3 b off ha
      exact .inr ⟨b, off, ha, fun i hi => ⟨hk.cell hb (hc i hi).1, hk.cell hb (hc i hi).2.1, hk.cell hb (hc i hi).2.2⟩⟩
  · rcases h.2 i hi with h0 | ⟨b, off, ha, hc⟩
    · exact .inl h0
    · have hb := h4 i b off hi ha
      exact .inr ⟨b, off, ha, fun j hj => hk.cell hb (hc j hj)⟩
theorem okB_vote {W H : Int} {n : Nat} {f g : Nat → Int} (h : okB W H n f = true) (hg : ∀ k, 0 ≤ g k ∧ g k ≤ 255) : okB W H n g = true := by
  obtain ⟨h1, h2, h3, -⟩ := okB_parts h
  unfold okB
  have : ∀ n, allB g n = true := fun n => by
    induction n with
    | zero => rfl
    | succ n ih => exact allB_step ih (by have := hg n; unfold inB; rw [Bool.and_eq_true, decide_eq_true_eq, decide_eq_true_eq]; omega)
  rw [h1, h2, decide_eq_true h3, this]; rfl
theorem votF_bd (m : Nat) (F : Nat → Nat → Int) (k : Nat) : 0 ≤ votF m F k ∧ votF m F k ≤ 255 := by
  unfold votF
  have h : ∀ v, 1 ≤ v → moB (hst (fun i => F i k) m) v < v := fun v => by
    induction v with
    | zero => intro h; omega
    | succ v ih =>
      intro _
      simp only [moB]
      split
      · omega
      · rcases Nat.eq_zero_or_pos v with h0 | h0
        · subst h0; simp [moB]
        · have := ih h0; omega
  have := h 256 (by omega)
  omega

set_option maxRecDepth 100000 in
set_option maxHeartbeats 4000000 in
theorem implVote_any (a : Option Addr) (m cap : Nat) (ad : Nat → Option Addr) (ln cp : Nat → Nat) (F : Nat → Nat → Int) (Wv Hv : Nat → Int) (hm : m ≤ 1048576) (hl : ∀ i, i < m → ln i ≤ 1048576) (w : World) (h : PxM a m ad ln cp F Wv Hv w) :
    Calls Try.prog 7 #[.slice a m cap] w (ImR (pkI (atlB m ln F Wv Hv) (Wv 0)) (pkI (atlB m ln F Wv Hv) (Hv 0)) (pkN (atlB m ln F Wv Hv) (ln 0)) (votF m F) w) := by
  have HS0 := hide (((St.start w).box [.slice a m cap] 28).box' [.int .i64 0, .int .i64 0, .slice none 0 0] 26 (b := w.heap.size + 1) (by simp))
  have cA := isAtlas_any a m cap ad ln cp F Wv Hv hm hl _ (h.below HS0.out.below)
  have HP := hide h
  clear h
  unfold pkI pkN
  cases hq : atlB m ln F Wv Hv
  · rw [hq] at cA
    simp only [Bool.false_eq_true, if_false]
    clear hq HP
    go_enter Try.func7, Try.ntmps7
    go_wp2_with fail
    refine cA.mono ?_
    rintro e w1 ⟨rfl, hb⟩
    have HS1 := hide (HS0.out.next hb)
    obtain ⟨j0, j1, j2⟩ := HS1.out.im3 0 rfl
    obtain ⟨f0, f1, f2⟩ := HS1.out.fr3 0 rfl
    have HF := hide (HS1.out.fill3 (.int .i64 0) (.int .i64 0) (.slice none 0 0))
    clear hb cA HS0 HS1
    go_wp2_with fail
    refine bodyPost_ret (v := im 0 0 none 0 0) (by simp [results, Try.results7, go_sem, j0, j1, j2]) rfl (HF.out.imN _)
  · rw [hq] at cA
    simp only [if_true]
    obtain ⟨hm1, hm2, hnW, hn4, hok, hall⟩ := atl_at hq
    have HALL := hide hall
    have HOK := hide (okB_vote (g := votF m F) hok (votF_bd m F))
    have hpos : 0 < ln 0 := by
      obtain ⟨h1, h2, h3, -⟩ := okB_parts hok
      have := prod_bounds h1 h2
      omega
    have hmk := fun w' => make_px m (by omega) w'
    have HBa : Hid (∀ b off, a = some ⟨b, off, none⟩ → b < w.heap.size) := fun b off e => by
      obtain ⟨b', off', e', c0, -, -⟩ := HP.out.at (show 0 < m by omega)
      rw [e] at e'; cases e'
      exact World.block_lt_of_cell? w _ c0
    have HBi : Hid (∀ i b off, i < m → ad i = some ⟨b, off, none⟩ → b < w.heap.size) := fun i b off hi e => by
      obtain ⟨b', off', e', c0⟩ := (HP.out.2 i hi).at (show 0 < ln i by have := (HALL.out i hi).1; omega)
      rw [e] at e'; cases e'
      exact World.block_lt_of_cell? w _ c0
    clear hq hall hnW hok
    go_enter Try.func7, Try.ntmps7
    go_wp2_with fail
    refine cA.mono ?_
    rintro e w1 ⟨rfl, hb⟩
    have HS1 := hide (HS0.out.next hb)
    have i0 := HS1.out.cell 1 rfl 0 rfl
    clear hb cA HS0
    go_upto_region 4 with fail
    have hr0 := row_new m w1
    have hb2 : Below w1.heap.size w1 (w1.alloc (.cells (madeCells #[.int .i64 0] m) 2)) := bnew _ _
    have hp1 : w1.heap.size < (w1.alloc (.cells (madeCells #[.int .i64 0] m) 2)).heap.size := by simp
    have hS2 := HS1.out.next hb2
    have hS5 := hS2.box' [.slice (some ⟨w1.heap.size, 0, none⟩) m m] 24 (b := w1.heap.size + 1) (by simp)
    have HS5 : Hid (St w [(w1.heap.size + 1, [.slice (some ⟨w1.heap.size, 0, none⟩) m m]), (w.heap.size + 1, [.int .i64 0, .int .i64 0, .slice none 0 0]), (w.heap.size, [.slice a m cap])] [] ((w1.alloc (.cells (madeCells #[.int .i64 0] m) 2)).alloc (.cells #[.slice (some ⟨w1.heap.size, 0, none⟩) m m] 24))) := hS5
    have hr5 := hr0.below (bnew (w1.alloc (.cells (madeCells #[.int .i64 0] m) 2)) (.cells #[.slice (some ⟨w1.heap.size, 0, none⟩) m m] 24)) hp1
    have hp5 : w1.heap.size < ((w1.alloc (.cells (madeCells #[.int .i64 0] m) 2)).alloc (.cells #[.slice (some ⟨w1.heap.size, 0, none⟩) m m] 24)).heap.size := by simp; omega
    have hPw : w.heap.size + 2 ≤ w1.heap.size := by have := (HS1.out.ltB 0 rfl).2; omega
    have HR5 := hide hr5
    have HP5 := hide hp5
    have HPW := hide hPw
    clear hS2 hS5 hr0 hb2 hp1 hr5 hp5 hPw HS1 hmk i0
    generalize (w1.alloc (.cells (madeCells #[.int .i64 0] m) 2)).alloc (.cells #[.slice (some ⟨w1.heap.size, 0, none⟩) m m] 24) = w5 at *
    generalize w1.heap.size = P at *
    obtain ⟨ba, oa, rfl, -, -, -⟩ := HP.out.at (show 0 < m by omega)
    obtain ⟨y0, y1, y2⟩ := (HP.out.below HS5.out.below).at0 rfl (show 0 < m by omega)
    have i0 := HS5.out.cell 2 rfl 0 rfl
    have cP := fun w' => pictureOf_any (Wv 0) (Hv 0) (ad 0) (ln 0) (cp 0) w'
    have HM := hide (And.intro hm1 hm2)
    have hm0 : (0 : Int) < (m : Int) := by omega
    have HN4 := hide hn4
    clear hm1 hm2 hn4
    go_wp2_with fail
    refine (cP _).mono ?_
    rintro e w6 ⟨rfl, hb⟩
    have HS6 := hide (HS5.out.next hb)
    have hI6 : ∃ g, Row P m g w6 := ⟨_, HR5.out.below hb HP5.out⟩
    have hpx6 := HP.out.below HS6.out.below
    have hx0 := HS6.out.bx (w.heap.size, [.slice (some ⟨ba, oa, none⟩) m cap]) (by simp)
    have hx1 := HS6.out.bx (P + 1, [.slice (some ⟨P, 0, none⟩) m m]) (by simp)
    have h3 : ∀ b off, (some ⟨ba, oa, none⟩ : Option Addr) = some ⟨b, off, none⟩ → b ≠ P := fun b off e => by have := HBa.out b off e; have := HPW.out; omega
    have h4 : ∀ i b off, i < m → ad i = some ⟨b, off, none⟩ → b ≠ P := fun i b off hi e => by have := HBi.out i b off hi e; have := HPW.out; omega
    have cF := filteredI_any P (fun wr => ∃ g, Row P m g wr) (fun w w' ⟨g, hg⟩ e => ⟨g, fun q hq => by
        rw [World.cell?_of_block (w := w) (a := ⟨P, q, none⟩) e, World.frozen?_of_block (w := w) (a := ⟨P, q, none⟩) e]; exact hg q hq⟩) (Wv 0) (Hv 0) (ad 0) (ln 0) (cp 0) (by have := HN4.out; omega) 20 vote1_fn #[.pointer (some ⟨w.heap.size, 0, none⟩), .pointer (some ⟨P + 1, 0, none⟩)] (votF m F) w6 (Nat.lt_of_lt_of_le HP5.out hb.size) hI6
      (fun k wr hk hkp hI => vote1_any k (some ⟨ba, oa, none⟩) m cap ad ln cp F Wv Hv HM.out.2 (fun i hi => by have h1 := (HALL.out i hi).1; have := HN4.out; omega) (fun i hi => (HALL.out i hi).2 k hk) w.heap.size (P + 1) P (by have := HPW.out; omega) (by omega) h3 h4 wr (hpx6.kept hkp h3 h4) (hx0.kept hkp (by have := HPW.out; omega)) (hx1.kept hkp (by omega)) hI)
    have hS := HS6.out
    clear cP hb HR5 hI6 hpx6 hx0 hx1 h3 h4 HS5 y0 y1 y2 i0
    go_wp2_with fail
    refine cF.mono ?_
    rintro e w7 ⟨a7, c7, b7, rfl, ho, hb1, hb2, hk, -⟩
    have hnb : P ∉ blocks [(P + 1, [Value.slice (some ⟨P, 0, none⟩) m m]), (w.heap.size + 1, [.int .i64 0, .int .i64 0, .slice none 0 0]), (w.heap.size, [.slice (some ⟨ba, oa, none⟩) m cap])] [] := by
      have := HPW.out
      simp [blocks]; omega
    have HS7 := hide (hS.off hk hnb (by have := HPW.out; omega))
    have HO7 := hide ho
    have HB7 := hide (And.intro (Nat.le_trans hS.below.size hb1) hb2)
    have HBN : Hid (w.heap.size + 1 ≠ b7) := by
      have h1 := (hS.ltB 1 rfl).2
      show _ ≠ _
      omega
    have cI := image_any (Wv 0) (Hv 0) a7 (ln 0) c7 (votF m F) (by have := HN4.out; omega) w7 ho.px
    rw [if_pos HOK.out] at cI
    clear cF ho hb1 hb2 hk hnb hS HS6
    go_wp2_with fail
    refine cI.mono ?_
    rintro e w8 ⟨rfl, hb⟩
    have HS8 := hide (HS7.out.next hb)
    have HO8 := hide (HO7.out.below hb HB7.out.2)
    obtain ⟨j0, j1, j2⟩ := HS8.out.im3 1 rfl
    obtain ⟨f0, f1, f2⟩ := HS8.out.fr3 1 rfl
    have HF := hide (HS8.out.fill3' (L1 := [_]) (.int .i64 (Wv 0)) (.int .i64 (Hv 0)) (.slice a7 (ln 0) c7))
    have hk : Kept (w.heap.size + 1) w8 (((w8.setCell ⟨w.heap.size + 1, 0, none⟩ (.int .i64 (Wv 0))).setCell ⟨w.heap.size + 1, 1, none⟩ (.int .i64 (Hv 0))).setCell ⟨w.heap.size + 1, 2, none⟩ (.slice a7 (ln 0) c7)) :=
      (((Kept.refl _ w8).setCell (a := ⟨w.heap.size + 1, 0, none⟩) rfl _).setCell (a := ⟨w.heap.size + 1, 1, none⟩) rfl _).setCell (a := ⟨w.heap.size + 1, 2, none⟩) rfl _
    have HO9 := hide (HO8.out.kept hk (fun e => HBN.out e.symm))
    clear cI hb HS7 HO7 HO8 HS8 hk
    go_wp2_with fail
    refine bodyPost_ret (v := im (Wv 0) (Hv 0) a7 (ln 0) c7) (by simp [results, Try.results7, go_sem, j0, j1, j2]) rfl ⟨a7, c7, b7, rfl, HO9.out, .inr HB7.out.1, HF.out.below⟩

end Go.Proofs.Ytfbjjfpcgpkhiaa

/- The draws of tone images. -/
import Derived.Test.YtcdklkebedpmnaaDsp
import Derived.Test.YtcdklkebedpmnaaRgu
namespace Go.Proofs.Ytcdklkebedpmnaa
open Go.RowKit

/-- what is known while an image is drawn: the box of the answer, the box of the image -/
structure DM (p : Nat) (a : Option Addr) (len cap : Nat) (w : World) (X : Nat) (vs : List Value) (wr : World) : Prop where
  cur : Cur p a len cap wr
  kept : Kept p w wr
  res : Bx w.heap.size [.int .i64 0, .int .i64 0, .slice none 0 0] wr
  box : Bx X vs wr
  lt : w.heap.size < X ∧ X < wr.heap.size
theorem DM.step {p : Nat} {a : Option Addr} {len cap : Nat} {w : World} {X : Nat} {vs : List Value} {wr w' : World} (h : DM p a len cap w X vs wr) (hp : p < w.heap.size) (hc : Cur p a len cap w') (hk : Kept p wr w') : DM p a len cap w X vs w' :=
  ⟨hc, h.kept.trans hk, h.res.kept hk (by omega), h.box.kept hk (by have := h.lt; omega), ⟨h.lt.1, Nat.lt_of_lt_of_le h.lt.2 hk.size⟩⟩
theorem DM.next {p : Nat} {a : Option Addr} {len cap : Nat} {w : World} {X : Nat} {vs : List Value} {wr w' : World} (h : DM p a len cap w X vs wr) (hb : Below wr.heap.size wr w') : DM p a len cap w X vs w' :=
  ⟨h.cur.below hb, h.kept.trans (Kept.of_below hb), h.res.below hb (by have := h.lt; omega), h.box.below hb h.lt.2, ⟨h.lt.1, Nat.lt_of_lt_of_le h.lt.2 hb.size⟩⟩
theorem DM.set3 {p : Nat} {a : Option Addr} {len cap : Nat} {w : World} {X : Nat} {v0 v1 v2 : Value} {wr : World} (h : DM p a len cap w X [v0, v1, v2] wr) (hp : p < w.heap.size) (hab : len = 0 ∨ ∀ b off, a = some ⟨b, off, none⟩ → b < w.heap.size) (u0 u1 u2 : Value) :
    DM p a len cap w X [u0, u1, u2] (((wr.setCell ⟨X, 0, none⟩ u0).setCell ⟨X, 1, none⟩ u1).setCell ⟨X, 2, none⟩ u2) := by
  have hl := h.lt
  have hb := below_set3 (B := w.heap.size) wr X u0 u1 u2 (by omega)
  refine ⟨h.cur.belowB hb hp hab, h.kept.belowB hb (Nat.le_refl _), ?_, ?_, hl.1, by simpa using hl.2⟩
  · exact ((h.res.far (q := ⟨X, 0, none⟩) (by show X ≠ _; omega) _).far (q := ⟨X, 1, none⟩) (by show X ≠ _; omega) _).far (q := ⟨X, 2, none⟩) (by show X ≠ _; omega) _
  · exact ((h.box.set 0 u0).set 1 u1).set 2 u2
/-- one cell of a list that lies elsewhere is written -/
theorem DM.cell {p : Nat} {a : Option Addr} {len cap : Nat} {w : World} {X : Nat} {vs : List Value} {wr : World} (h : DM p a len cap w X vs wr) (hp : p < w.heap.size) (hab : len = 0 ∨ ∀ b off, a = some ⟨b, off, none⟩ → b < w.heap.size) {b k : Nat} (hb : w.heap.size < b) (hX : b ≠ X) (v : Value) : DM p a len cap w X vs (wr.setCell ⟨b, k, none⟩ v) := by
  have hl := h.lt
  have hbw : Below w.heap.size wr (wr.setCell ⟨b, k, none⟩ v) := (Below.refl _ _).setCell (by show w.heap.size ≤ b; omega) _
  exact ⟨h.cur.belowB hbw hp hab, h.kept.belowB hbw (Nat.le_refl _), h.res.far (q := ⟨b, k, none⟩) (by show b ≠ _; omega) _, h.box.far (q := ⟨b, k, none⟩) hX _, hl.1, by simpa using hl.2⟩
/-- an image is drawn: n pixels, in a block behind all -/
def Dr6 (p : Nat) (a : Option Addr) (len cap : Nat) (w : World) (e : Ending) (w' : World) : Prop :=
  ∃ W H o n f, e = .returned (im W H (some ⟨o, 0, none⟩) n n) ∧ 0 < n ∧ n ≤ 961 ∧ Row o n f w' ∧ w.heap.size ≤ o ∧ Cur p a len cap w' ∧ Kept p w w'

/-- what stays while a pixel is drawn and written -/
def q4R (p : Nat) (a : Option Addr) (len cap : Nat) (w0 : World) (X : Nat) (vs : List Value) (o n : Nat) (f : Nat → Int) (wB : World) (u : Nat → Value) (w : World) : Prop := u 13 = undef → DM p a len cap w0 X vs w ∧ Row o n f w ∧ Kept p wB w
def q4F (H : Nat → Value → World → Prop) (Q : World → Prop) (j : Nat) (u : Nat → Value) (w : World) : Prop := (j ≠ 13 → u 13 ≠ undef ∨ H j (u j) w) ∧ (j = 13 → Q w)
theorem q4F_up {H : Nat → Value → World → Prop} {Q : World → Prop} {u : Nat → Value} {w w' : World} (hH : ∀ j v, H j v w → H j v w') (i : Nat) (hi : 13 ≠ i) (v : Value) (j : Nat) (hj : j ≠ i) (hj13 : j ≠ 13) (h : q4F H Q j u w) : q4F H Q j (upU u i v) w' :=
  ⟨fun h0 => by rw [upU_other u v hi, upU_other u v hj]; exact (h.1 h0).imp id (hH _ _), fun e => absurd e hj13⟩
theorem q4F_val {H : Nat → Value → World → Prop} {Q : World → Prop} {u : Nat → Value} {w : World} (j : Nat) (hj : j ≠ 13) {v : Value} (h : H j v w) : q4F H Q j (upU u j v) w :=
  ⟨fun _ => .inr (by rw [upU_same]; exact h), fun e => absurd e hj⟩
theorem Row.kept6 {b n p : Nat} {f : Nat → Int} {w w' : World} (h : Row b n f w) (hk : Kept p w w') (hp : b ≠ p) : Row b n f w' :=
  fun q hq => ⟨hk.cell hp (h q hq).1, (hk.frozen (a := ⟨b, q, none⟩) hp (h q hq).1).trans (h q hq).2⟩
theorem Row.upd6 {b n : Nat} {f : Nat → Int} {w : World} (h : Row b n f w) {k : Nat} (z : Int) : Row b n (fun q => if q = k then z else f q) (w.setCell ⟨b, k, none⟩ (.int .i64 z)) := by
  intro q hq
  refine ⟨?_, by simpa using (h q hq).2⟩
  by_cases e : q = k
  · subst e
    simp only [if_true]
    exact World.cell?_setCell_same _ _ _ (h q hq).1
  · simp only [if_neg e]
    rw [World.cell?_setCell_other _ _ _ _ (by simp; try omega)]
    exact (h q hq).1

set_option maxRecDepth 100000 in
set_option maxHeartbeats 4000000 in
theorem l6Draw_any (p : Nat) (a : Option Addr) (len cap : Nat) (w : World) (h : Cur p a len cap w) (hp : p < w.heap.size) (hab : len = 0 ∨ ∀ b off, a = some ⟨b, off, none⟩ → b < w.heap.size) :
    Calls Try.prog 56 #[.pointer (some ⟨p, 0, none⟩)] w (Dr6 p a len cap w) := by
  have hb := bnew w (.cells #[.int .i64 0, .int .i64 0, .slice none 0 0] 26)
  have HX0 : Hid (Bx w.heap.size [.int .i64 0, .int .i64 0, .slice none 0 0] (w.alloc (.cells #[.int .i64 0, .int .i64 0, .slice none 0 0] 26))) := Bx.new [.int .i64 0, .int .i64 0, .slice none 0 0] 26 w
  have hz : (w.alloc (.cells #[.int .i64 0, .int .i64 0, .slice none 0 0] 26)).heap.size = w.heap.size + 1 := by simp
  have HC0 := hide (h.below hb)
  have HK0 := hide (Kept.of_below (p := p) hb)
  have HAB := hide hab
  clear h hab hb
  go_enter Try.func56, Try.ntmps56
  go_upto_region 1 with fail
  generalize hw1 : w.alloc (.cells #[.int .i64 0, .int .i64 0, .slice none 0 0] 26) = w1 at *
  clear hw1
  have hb2 := bnew w1 (.cells #[.int .i64 2, .int .i64 3, .int .i64 5, .int .i64 5, .int .i64 7, .int .i64 11] 2)
  have HT2 : Hid (Bx w1.heap.size [.int .i64 2, .int .i64 3, .int .i64 5, .int .i64 5, .int .i64 7, .int .i64 11] (w1.alloc (.cells #[.int .i64 2, .int .i64 3, .int .i64 5, .int .i64 5, .int .i64 7, .int .i64 11] 2))) := Bx.new [.int .i64 2, .int .i64 3, .int .i64 5, .int .i64 5, .int .i64 7, .int .i64 11] 2 w1
  have HX2 := hide (HX0.out.below hb2 (by omega))
  have HK2 := hide (HK0.out.trans (Kept.of_below hb2))
  have HZ2 : Hid (w1.heap.size + 1 = (w1.alloc (.cells #[.int .i64 2, .int .i64 3, .int .i64 5, .int .i64 5, .int .i64 7, .int .i64 11] 2)).heap.size) := by show _ = _; simp
  have c1 := below_any p a len cap _ (HC0.out.below hb2) 6 (by omega) (by omega)
  clear hb2 HX0 HK0 HC0
  go_wp2_with fail
  refine c1.mono ?_
  rintro e w2 ⟨i, rfl, i0, i1, hc, hk⟩
  have bt := HT2.out.kept hk (by omega)
  have HX3 := hide (HX2.out.kept hk (by omega))
  have HK3 := hide (HK2.out.trans hk)
  have HC3 := hide hc
  have HS3 : Hid (w.heap.size + 2 ≤ w2.heap.size) := by have := hk.size; rw [← HZ2.out] at this; show _ ≤ _; omega
  rw [hz] at bt
  obtain ⟨I, rfl⟩ : ∃ I : Nat, i = (I : Int) := ⟨i.toNat, by omega⟩
  obtain ⟨P, hP, hcell⟩ : ∃ P : Nat, (2 ≤ P ∧ P ≤ 11) ∧ w2.cell? ⟨w.heap.size + 1, I, none⟩ = some (.int .i64 (P : Int)) := by
    have hI : I < 6 := by omega
    match I, hI with
    | 0, _ => exact ⟨2, by omega, (bt 0 _ rfl).1⟩
    | 1, _ => exact ⟨3, by omega, (bt 1 _ rfl).1⟩
    | 2, _ => exact ⟨5, by omega, (bt 2 _ rfl).1⟩
    | 3, _ => exact ⟨5, by omega, (bt 3 _ rfl).1⟩
    | 4, _ => exact ⟨7, by omega, (bt 4 _ rfl).1⟩
    | 5, _ => exact ⟨11, by omega, (bt 5 _ rfl).1⟩
  have hI6 : (I : Int) < 6 := by omega
  clear c1 hc hk bt HT2 HX2 HK2 HZ2 i0 i1
  go_upto_region 2 with fail
  clear hcell hI6
  obtain ⟨n, hn, hn1, hn2⟩ : ∃ n : Nat, (P : Int) * P = (n : Int) ∧ 0 < n ∧ n ≤ 121 := by
    have h1 : 2 * 2 ≤ P * P := Nat.mul_le_mul hP.1 hP.1
    have h2 : P * P ≤ 11 * 11 := Nat.mul_le_mul hP.2 hP.2
    exact ⟨P * P, by simp, by omega, by omega⟩
  have HS3' := HS3.out
  have c1 := drawImage_any p a len cap (P : Int) (P : Int) (-20) 200 n hn (by omega) w2 HC3.out (by omega) (HAB.out.imp id fun h b off e => by have := h b off e; omega)
  have HPN : Hid (IntKind.i64.wrap ((P : Int) * P) = (n : Int)) := by show _ = _; rw [hn, IntKind.wrap_i64]; omega
  clear hn
  go_wp2_with fail
  refine c1.mono ?_
  rintro e w3 ⟨o, f, rfl, hr, ho, hc, hk⟩
  have hs3 := hk.size
  have hol : o < w3.heap.size := World.block_lt_of_cell? w3 _ (hr 0 hn1).1
  have hb4 := bnew w3 (.cells #[.int .i64 (P : Int), .int .i64 (P : Int), .slice (some ⟨o, 0, none⟩) n n] 26)
  have HD : Hid (DM p a len cap w w3.heap.size [.int .i64 (P : Int), .int .i64 (P : Int), .slice (some ⟨o, 0, none⟩) n n] (w3.alloc (.cells #[.int .i64 (P : Int), .int .i64 (P : Int), .slice (some ⟨o, 0, none⟩) n n] 26))) :=
    ⟨hc.below hb4, (HK3.out.trans hk).trans (Kept.of_below hb4), (HX3.out.kept hk (by omega)).below hb4 (by omega), Bx.new [.int .i64 (P : Int), .int .i64 (P : Int), .slice (some ⟨o, 0, none⟩) n n] _ w3, by omega, by simp⟩
  have HRo := hide (hr.below hb4 hol)
  have HO : Hid (w.heap.size < o ∧ o < w3.heap.size) := ⟨by omega, hol⟩
  clear c1 hr hc hk HX3 HK3 HC3 hb4 HS3 HS3' hs3 hol ho
  go_upto_region 3 with fail
  generalize hw4 : w3.alloc (.cells #[.int .i64 (P : Int), .int .i64 (P : Int), .slice (some ⟨o, 0, none⟩) n n] 26) = w4 at *
  clear hw4
  have c1 := once_any p a len cap _ HD.out.cur 20 (by omega) (by omega)
  generalize hX : w3.heap.size = X at *
  clear hX
  go_wp2_with fail
  refine c1.mono ?_
  rintro e w5 ⟨q, rfl, hc, hk⟩
  have HD5 := hide (HD.out.step hp hc hk)
  have HR5 := hide (HRo.out.kept6 hk (by have := HO.out; omega))
  clear c1 hc hk HD HRo
  go_upto_if 15 with fail
  go_cut [] (fun wc => ∃ f', DM p a len cap w X [.int .i64 (P : Int), .int .i64 (P : Int), .slice (some ⟨o, 0, none⟩) n n] wc ∧ Row o n f' wc)
  case first =>
    cases q
    · go_wp2_with fail
      go_meet
      exact ⟨f, HD5.out, HR5.out⟩
    · go_upto_region 4 with fail
      obtain ⟨H, hH⟩ : ∃ H : Nat → Value → World → Prop, H = (fun j v wx => match j with | 0 => v = .pointer (some ⟨X, 2, none⟩) | 1 => v = .slice (some ⟨o, 0, none⟩) n n | 2 => v = .pointer (some ⟨p, 0, none⟩) | 3 => v = .int .i64 (P : Int) | 4 => v = .int .i64 (P : Int) | 5 => v = .int .i64 (n : Int) | 6 => ∃ j : Nat, j < n ∧ v = .int .i64 (j : Int) | 7 => ∃ tb, v = .slice (some ⟨tb, 0, none⟩) 3 3 ∧ tb ≠ p ∧ Bx tb [.int .i64 4095, .int .i64 (-4095), .int .i64 4096] wx | 8 => v = .pointer (some ⟨p, 0, none⟩) | 9 => ∃ j : Nat, j < 3 ∧ v = .int .i64 (j : Int) | 10 => ∃ tb, ∃ j : Nat, j < 3 ∧ v = .pointer (some ⟨tb, j, none⟩) ∧ tb ≠ p ∧ Bx tb [.int .i64 4095, .int .i64 (-4095), .int .i64 4096] wx | 11 => ∃ z : Int, v = .int .i64 z | 12 => ∃ j : Nat, j < n ∧ v = .pointer (some ⟨o, j, none⟩) | _ => True) := ⟨_, rfl⟩
      have HUP : Hid (∀ (wx wy : World), Kept p wx wy → ∀ j v, H j v wx → H j v wy) := by
        intro wx wy hk j v h
        rw [hH] at h ⊢
        match j, h with
        | 0, h => exact h
        | 1, h => exact h
        | 2, h => exact h
        | 3, h => exact h
        | 4, h => exact h
        | 5, h => exact h
        | 6, h => exact h
        | 7, h => obtain ⟨tb, h1, h2, h3⟩ := h; exact ⟨tb, h1, h2, h3.kept hk h2⟩
        | 8, h => exact h
        | 9, h => exact h
        | 10, h => obtain ⟨tb, j, h0, h1, h2, h3⟩ := h; exact ⟨tb, j, h0, h1, h2, h3.kept hk h2⟩
        | 11, h => exact h
        | 12, h => exact h
        | _ + 13, _ => trivial
      have H0 : Hid (∀ v wx, H 0 v wx ↔ v = .pointer (some ⟨X, 2, none⟩)) := fun v wx => by rw [hH]; exact Iff.rfl
      have H1 : Hid (∀ v wx, H 1 v wx ↔ v = .slice (some ⟨o, 0, none⟩) n n) := fun v wx => by rw [hH]; exact Iff.rfl
      have H2 : Hid (∀ v wx, H 2 v wx ↔ v = .pointer (some ⟨p, 0, none⟩)) := fun v wx => by rw [hH]; exact Iff.rfl
      have H3 : Hid (∀ v wx, H 3 v wx ↔ v = .int .i64 (P : Int)) := fun v wx => by rw [hH]; exact Iff.rfl
      have H4 : Hid (∀ v wx, H 4 v wx ↔ v = .int .i64 (P : Int)) := fun v wx => by rw [hH]; exact Iff.rfl
      have H5 : Hid (∀ v wx, H 5 v wx ↔ v = .int .i64 (n : Int)) := fun v wx => by rw [hH]; exact Iff.rfl
      have H6 : Hid (∀ v wx, H 6 v wx ↔ ∃ j : Nat, j < n ∧ v = .int .i64 (j : Int)) := fun v wx => by rw [hH]; exact Iff.rfl
      have H7 : Hid (∀ v wx, H 7 v wx ↔ ∃ tb, v = .slice (some ⟨tb, 0, none⟩) 3 3 ∧ tb ≠ p ∧ Bx tb [.int .i64 4095, .int .i64 (-4095), .int .i64 4096] wx) := fun v wx => by rw [hH]; exact Iff.rfl
      have H8 : Hid (∀ v wx, H 8 v wx ↔ v = .pointer (some ⟨p, 0, none⟩)) := fun v wx => by rw [hH]; exact Iff.rfl
      have H9 : Hid (∀ v wx, H 9 v wx ↔ ∃ j : Nat, j < 3 ∧ v = .int .i64 (j : Int)) := fun v wx => by rw [hH]; exact Iff.rfl
      have H10 : Hid (∀ v wx, H 10 v wx ↔ ∃ tb, ∃ j : Nat, j < 3 ∧ v = .pointer (some ⟨tb, j, none⟩) ∧ tb ≠ p ∧ Bx tb [.int .i64 4095, .int .i64 (-4095), .int .i64 4096] wx) := fun v wx => by rw [hH]; exact Iff.rfl
      have H11 : Hid (∀ v wx, H 11 v wx ↔ ∃ z : Int, v = .int .i64 z) := fun v wx => by rw [hH]; exact Iff.rfl
      have H12 : Hid (∀ v wx, H 12 v wx ↔ ∃ j : Nat, j < n ∧ v = .pointer (some ⟨o, j, none⟩)) := fun v wx => by rw [hH]; exact Iff.rfl
      clear hH
      refine region_opsU (q4R p a len cap w X [.int .i64 (P : Int), .int .i64 (P : Int), .slice (some ⟨o, 0, none⟩) n n] o n f w5) (q4F H (fun wx => ∃ f', DM p a len cap w X [.int .i64 (P : Int), .int .i64 (P : Int), .slice (some ⟨o, 0, none⟩) n n] wx ∧ Row o n f' wx)) (by kernel_rfl) (by kernel_rfl) (by kernel_rfl) ?_ ?_ ?_
      · exact fun _ => ⟨HD5.out.next (Below.refl _ _).drew, HR5.out, (Kept.refl p w5).drew⟩
      · refine ⟨?_, ?_, ?_, ?_, ?_, ?_, ?_, ?_, ?_, ?_, ?_, ?_, ?_, ?_, trivial⟩
        · intro u w21 au hau hu hF hp' K hK
          have h13 : u 13 = undef := (hu.out 13 (by decide) (.inr (by kernel_rfl))).trans (by kernel_rfl)
          have HF' := hide (hF h13)
          clear hF
          have t4 : au.tmps[4]?.getD undef = .pointer (some ⟨X, 0, none⟩) := by rw [hau.out]; kernel_rfl
          refine step_plain rfl ?_
          go_simp
          exact hK.out (.pointer (some ⟨X, 2, none⟩)) _ (fun _ => HF'.out) (q4F_val 0 (by omega) ((H0.out _ _).2 rfl)) (fun j hj hf h => q4F_up (HUP.out _ _ (Kept.refl _ _)) 0 (by omega) _ j hj (fun e => by subst e; exact absurd (Eq.trans (Eq.symm (by kernel_rfl)) hf) Bool.false_ne_true) h)
        · intro u w21 au hau hu hF hp' K hK
          have h13 : u 13 = undef := (hu.out 13 (by decide) (.inr (by kernel_rfl))).trans (by kernel_rfl)
          have HF' := hide (hF h13)
          clear hF
          have h0 : u 0 = .pointer (some ⟨X, 2, none⟩) := (H0.out _ _).1 (((PreF.get hp' 0 (by kernel_rfl)).1 (by omega)).resolve_left (fun h => h h13))
          have t16 : au.tmps[16]?.getD undef = u 0 := by rw [hau.out]; kernel_rfl
          rw [h0] at t16
          have xc := (HF'.out.1.box 2 _ rfl).1
          refine step_plain rfl ?_
          go_simp
          exact hK.out (.slice (some ⟨o, 0, none⟩) n n) _ (fun _ => HF'.out) (q4F_val 1 (by omega) ((H1.out _ _).2 rfl)) (fun j hj hf h => q4F_up (HUP.out _ _ (Kept.refl _ _)) 1 (by omega) _ j hj (fun e => by subst e; exact absurd (Eq.trans (Eq.symm (by kernel_rfl)) hf) Bool.false_ne_true) h)
        · intro u w21 au hau hu hF hp' K hK
          have h13 : u 13 = undef := (hu.out 13 (by decide) (.inr (by kernel_rfl))).trans (by kernel_rfl)
          have HF' := hide (hF h13)
          clear hF
          have t0 : au.tmps[0]?.getD undef = .pointer (some ⟨p, 0, none⟩) := by rw [hau.out]; kernel_rfl
          refine step_plain rfl ?_
          go_simp
          exact hK.out (.pointer (some ⟨p, 0, none⟩)) _ (fun _ => HF'.out) (q4F_val 2 (by omega) ((H2.out _ _).2 rfl)) (fun j hj hf h => q4F_up (HUP.out _ _ (Kept.refl _ _)) 2 (by omega) _ j hj (fun e => by subst e; exact absurd (Eq.trans (Eq.symm (by kernel_rfl)) hf) Bool.false_ne_true) h)
        · intro u w21 au hau hu hF hp' K hK
          have h13 : u 13 = undef := (hu.out 13 (by decide) (.inr (by kernel_rfl))).trans (by kernel_rfl)
          have HF' := hide (hF h13)
          clear hF
          have t3 : au.tmps[3]?.getD undef = .int .i64 (P : Int) := by rw [hau.out]; kernel_rfl
          refine step_plain rfl ?_
          go_simp
          exact hK.out (.int .i64 (P : Int)) _ (fun _ => HF'.out) (q4F_val 3 (by omega) ((H3.out _ _).2 rfl)) (fun j hj hf h => q4F_up (HUP.out _ _ (Kept.refl _ _)) 3 (by omega) _ j hj (fun e => by subst e; exact absurd (Eq.trans (Eq.symm (by kernel_rfl)) hf) Bool.false_ne_true) h)
        · intro u w21 au hau hu hF hp' K hK
          have h13 : u 13 = undef := (hu.out 13 (by decide) (.inr (by kernel_rfl))).trans (by kernel_rfl)
          have HF' := hide (hF h13)
          clear hF
          have t3 : au.tmps[3]?.getD undef = .int .i64 (P : Int) := by rw [hau.out]; kernel_rfl
          refine step_plain rfl ?_
          go_simp
          exact hK.out (.int .i64 (P : Int)) _ (fun _ => HF'.out) (q4F_val 4 (by omega) ((H4.out _ _).2 rfl)) (fun j hj hf h => q4F_up (HUP.out _ _ (Kept.refl _ _)) 4 (by omega) _ j hj (fun e => by subst e; exact absurd (Eq.trans (Eq.symm (by kernel_rfl)) hf) Bool.false_ne_true) h)
        · intro u w21 au hau hu hF hp' K hK
          have h13 : u 13 = undef := (hu.out 13 (by decide) (.inr (by kernel_rfl))).trans (by kernel_rfl)
          have HF' := hide (hF h13)
          clear hF
          have h3 : u 3 = .int .i64 (P : Int) := (H3.out _ _).1 (((PreF.get hp' 3 (by kernel_rfl)).1 (by omega)).resolve_left (fun h => h h13))
          have t19 : au.tmps[19]?.getD undef = u 3 := by rw [hau.out]; kernel_rfl
          rw [h3] at t19
          have h4 : u 4 = .int .i64 (P : Int) := (H4.out _ _).1 (((PreF.get hp' 4 (by kernel_rfl)).1 (by omega)).resolve_left (fun h => h h13))
          have t20 : au.tmps[20]?.getD undef = u 4 := by rw [hau.out]; kernel_rfl
          rw [h4] at t20
          have e9 := HPN.out
          refine step_plain rfl ?_
          go_simp
          exact hK.out (.int .i64 (n : Int)) _ (fun _ => HF'.out) (q4F_val 5 (by omega) ((H5.out _ _).2 rfl)) (fun j hj hf h => q4F_up (HUP.out _ _ (Kept.refl _ _)) 5 (by omega) _ j hj (fun e => by subst e; exact absurd (Eq.trans (Eq.symm (by kernel_rfl)) hf) Bool.false_ne_true) h)
        · intro u w21 au hau hu hF hp' K hK
          have h13 : u 13 = undef := (hu.out 13 (by decide) (.inr (by kernel_rfl))).trans (by kernel_rfl)
          have HF' := hide (hF h13)
          clear hF
          have h2 : u 2 = .pointer (some ⟨p, 0, none⟩) := (H2.out _ _).1 (((PreF.get hp' 2 (by kernel_rfl)).1 (by omega)).resolve_left (fun h => h h13))
          have t18 : au.tmps[18]?.getD undef = u 2 := by rw [hau.out]; kernel_rfl
          rw [h2] at t18
          have h5 : u 5 = .int .i64 (n : Int) := (H5.out _ _).1 (((PreF.get hp' 5 (by kernel_rfl)).1 (by omega)).resolve_left (fun h => h h13))
          have t21 : au.tmps[21]?.getD undef = u 5 := by rw [hau.out]; kernel_rfl
          rw [h5] at t21
          have c := below_any p a len cap w21 HF'.out.1.cur (n : Int) (by omega) (by omega)
          refine step_plain rfl ?_
          go_simp
          refine c.mono ?_
          rintro e w22 ⟨x, rfl, x0, x1, hc, hk⟩
          obtain ⟨J, rfl⟩ : ∃ J : Nat, x = (J : Int) := ⟨x.toNat, by omega⟩
          exact hK.out (.int .i64 (J : Int)) _ (fun _ => ⟨HF'.out.1.step hp hc hk, HF'.out.2.1.kept6 hk (by have := HO.out; omega), HF'.out.2.2.trans hk⟩) (q4F_val 6 (by omega) ((H6.out _ _).2 ⟨J, by omega, rfl⟩)) (fun j hj hf h => q4F_up (HUP.out _ _ hk) 6 (by omega) _ j hj (fun e => by subst e; exact absurd (Eq.trans (Eq.symm (by kernel_rfl)) hf) Bool.false_ne_true) h)
        · intro u w21 au hau hu hF hp' K hK
          have h13 : u 13 = undef := (hu.out 13 (by decide) (.inr (by kernel_rfl))).trans (by kernel_rfl)
          have HF' := hide (hF h13)
          clear hF
          refine step_plain rfl ?_
          go_simp
          have hb9 := bnew w21 (.cells #[.int .i64 4095, .int .i64 (-4095), .int .i64 4096] 2)
          have hk9 : Kept p w21 _ := Kept.of_below hb9
          exact hK.out (.slice (some ⟨w21.heap.size, 0, none⟩) 3 3) _ (fun _ => ⟨HF'.out.1.next hb9, HF'.out.2.1.kept6 hk9 (by have := HO.out; omega), HF'.out.2.2.trans hk9⟩) (q4F_val 7 (by omega) ((H7.out _ _).2 ⟨w21.heap.size, rfl, by have := HF'.out.1.lt; omega, Bx.new [.int .i64 4095, .int .i64 (-4095), .int .i64 4096] 2 w21⟩)) (fun j hj hf h => q4F_up (HUP.out _ _ hk9) 7 (by omega) _ j hj (fun e => by subst e; exact absurd (Eq.trans (Eq.symm (by kernel_rfl)) hf) Bool.false_ne_true) h)
        · intro u w21 au hau hu hF hp' K hK
          have h13 : u 13 = undef := (hu.out 13 (by decide) (.inr (by kernel_rfl))).trans (by kernel_rfl)
          have HF' := hide (hF h13)
          clear hF
          have t0 : au.tmps[0]?.getD undef = .pointer (some ⟨p, 0, none⟩) := by rw [hau.out]; kernel_rfl
          refine step_plain rfl ?_
          go_simp
          exact hK.out (.pointer (some ⟨p, 0, none⟩)) _ (fun _ => HF'.out) (q4F_val 8 (by omega) ((H8.out _ _).2 rfl)) (fun j hj hf h => q4F_up (HUP.out _ _ (Kept.refl _ _)) 8 (by omega) _ j hj (fun e => by subst e; exact absurd (Eq.trans (Eq.symm (by kernel_rfl)) hf) Bool.false_ne_true) h)
        · intro u w21 au hau hu hF hp' K hK
          have h13 : u 13 = undef := (hu.out 13 (by decide) (.inr (by kernel_rfl))).trans (by kernel_rfl)
          have HF' := hide (hF h13)
          clear hF
          have h8 : u 8 = .pointer (some ⟨p, 0, none⟩) := (H8.out _ _).1 (((PreF.get hp' 8 (by kernel_rfl)).1 (by omega)).resolve_left (fun h => h h13))
          have t24 : au.tmps[24]?.getD undef = u 8 := by rw [hau.out]; kernel_rfl
          rw [h8] at t24
          have c := below_any p a len cap w21 HF'.out.1.cur 3 (by omega) (by omega)
          refine step_plain rfl ?_
          go_simp
          refine c.mono ?_
          rintro e w22 ⟨x, rfl, x0, x1, hc, hk⟩
          obtain ⟨J, rfl⟩ : ∃ J : Nat, x = (J : Int) := ⟨x.toNat, by omega⟩
          exact hK.out (.int .i64 (J : Int)) _ (fun _ => ⟨HF'.out.1.step hp hc hk, HF'.out.2.1.kept6 hk (by have := HO.out; omega), HF'.out.2.2.trans hk⟩) (q4F_val 9 (by omega) ((H9.out _ _).2 ⟨J, by omega, rfl⟩)) (fun j hj hf h => q4F_up (HUP.out _ _ hk) 9 (by omega) _ j hj (fun e => by subst e; exact absurd (Eq.trans (Eq.symm (by kernel_rfl)) hf) Bool.false_ne_true) h)
        · intro u w21 au hau hu hF hp' K hK
          have h13 : u 13 = undef := (hu.out 13 (by decide) (.inr (by kernel_rfl))).trans (by kernel_rfl)
          have HF' := hide (hF h13)
          clear hF
          obtain ⟨tb, h7, n7, b7⟩ := (H7.out _ _).1 (((PreF.get hp' 7 (by kernel_rfl)).1 (by omega)).resolve_left (fun h => h h13))
          have t23 : au.tmps[23]?.getD undef = u 7 := by rw [hau.out]; kernel_rfl
          rw [h7] at t23
          obtain ⟨j9, l9, h9⟩ := (H9.out _ _).1 (((PreF.get hp' 9 (by kernel_rfl)).1 (by omega)).resolve_left (fun h => h h13))
          have t25 : au.tmps[25]?.getD undef = u 9 := by rw [hau.out]; kernel_rfl
          rw [h9] at t25
          have l9' : (j9 : Int) < 3 := by omega
          refine step_plain rfl ?_
          go_simp
          exact hK.out (.pointer (some ⟨tb, j9, none⟩)) _ (fun _ => HF'.out) (q4F_val 10 (by omega) ((H10.out _ _).2 ⟨tb, j9, l9, rfl, n7, b7⟩)) (fun j hj hf h => q4F_up (HUP.out _ _ (Kept.refl _ _)) 10 (by omega) _ j hj (fun e => by subst e; exact absurd (Eq.trans (Eq.symm (by kernel_rfl)) hf) Bool.false_ne_true) h)
        · intro u w21 au hau hu hF hp' K hK
          have h13 : u 13 = undef := (hu.out 13 (by decide) (.inr (by kernel_rfl))).trans (by kernel_rfl)
          have HF' := hide (hF h13)
          clear hF
          obtain ⟨tb, j10, l10, h10, n10, b10⟩ := (H10.out _ _).1 (((PreF.get hp' 10 (by kernel_rfl)).1 (by omega)).resolve_left (fun h => h h13))
          have t26 : au.tmps[26]?.getD undef = u 10 := by rw [hau.out]; kernel_rfl
          rw [h10] at t26
          obtain ⟨z, hz9⟩ : ∃ z : Int, w21.cell? ⟨tb, j10, none⟩ = some (.int .i64 z) := by
            match j10, l10 with
            | 0, _ => exact ⟨_, (b10 0 _ rfl).1⟩
            | 1, _ => exact ⟨_, (b10 1 _ rfl).1⟩
            | 2, _ => exact ⟨_, (b10 2 _ rfl).1⟩
          refine step_plain rfl ?_
          go_simp
          exact hK.out (.int .i64 z) _ (fun _ => HF'.out) (q4F_val 11 (by omega) ((H11.out _ _).2 ⟨z, rfl⟩)) (fun j hj hf h => q4F_up (HUP.out _ _ (Kept.refl _ _)) 11 (by omega) _ j hj (fun e => by subst e; exact absurd (Eq.trans (Eq.symm (by kernel_rfl)) hf) Bool.false_ne_true) h)
        · intro u w21 au hau hu hF hp' K hK
          have h13 : u 13 = undef := (hu.out 13 (by decide) (.inr (by kernel_rfl))).trans (by kernel_rfl)
          have HF' := hide (hF h13)
          clear hF
          have h1 : u 1 = .slice (some ⟨o, 0, none⟩) n n := (H1.out _ _).1 (((PreF.get hp' 1 (by kernel_rfl)).1 (by omega)).resolve_left (fun h => h h13))
          have t17 : au.tmps[17]?.getD undef = u 1 := by rw [hau.out]; kernel_rfl
          rw [h1] at t17
          obtain ⟨j6, l6, h6⟩ := (H6.out _ _).1 (((PreF.get hp' 6 (by kernel_rfl)).1 (by omega)).resolve_left (fun h => h h13))
          have t22 : au.tmps[22]?.getD undef = u 6 := by rw [hau.out]; kernel_rfl
          rw [h6] at t22
          have l6' : (j6 : Int) < (n : Int) := by omega
          refine step_plain rfl ?_
          go_simp
          exact hK.out (.pointer (some ⟨o, j6, none⟩)) _ (fun _ => HF'.out) (q4F_val 12 (by omega) ((H12.out _ _).2 ⟨j6, l6, rfl⟩)) (fun j hj hf h => q4F_up (HUP.out _ _ (Kept.refl _ _)) 12 (by omega) _ j hj (fun e => by subst e; exact absurd (Eq.trans (Eq.symm (by kernel_rfl)) hf) Bool.false_ne_true) h)
        · intro u w21 au hau hu hF hp' K hK
          have h13 : u 13 = undef := (hu.out 13 (by decide) (.inl rfl)).trans (by kernel_rfl)
          have HF' := hide (hF h13)
          clear hF
          obtain ⟨z11, h11⟩ := (H11.out _ _).1 (((PreF.get hp' 11 (by kernel_rfl)).1 (by omega)).resolve_left (fun h => h h13))
          have t27 : au.tmps[27]?.getD undef = u 11 := by rw [hau.out]; kernel_rfl
          rw [h11] at t27
          obtain ⟨j12, l12, h12⟩ := (H12.out _ _).1 (((PreF.get hp' 12 (by kernel_rfl)).1 (by omega)).resolve_left (fun h => h h13))
          have t28 : au.tmps[28]?.getD undef = u 12 := by rw [hau.out]; kernel_rfl
          rw [h12] at t28
          obtain ⟨xc, xf⟩ := HF'.out.2.1 j12 l12
          refine step_plain rfl ?_
          go_simp
          exact hK.out (.bool true) _ (fun h0 => by rw [upU_same] at h0; simp [undef] at h0) ⟨fun h => absurd rfl h, fun _ => ⟨_, HF'.out.1.cell hp HAB.out HO.out.1 (by have := HO.out; omega) _, HF'.out.2.1.upd6 z11⟩⟩ (fun j hj _ h => ⟨fun _ => .inl (by rw [upU_same]; simp [undef]), fun e => absurd e hj⟩)
      · intro u w30 hF hall
        have HE := hide ((hall 13 (by decide)).2 rfl)
        clear hF hall
        simp only [rgPut, Act.put]
        go_simp
        go_wp2_with fail
        go_meet
        exact HE.out
  case rest =>
    obtain ⟨f6, hD6, hR6⟩ := hcut
    obtain ⟨w6, hw6⟩ : ∃ w6, w6 = wc := ⟨_, rfl⟩
    rw [← hw6] at hD6 hR6
    rw [← hw6]
    clear hw6 HD5 HR5
    have HD6 := hide hD6
    have HR6 := hide hR6
    clear hD6 hR6
    have c1 := once_any p a len cap _ HD6.out.cur 80 (by omega) (by omega)
    go_wp2_with fail
    refine c1.mono ?_
    rintro e w7 ⟨q, rfl, hc, hk⟩
    have HD7 := hide (HD6.out.step hp hc hk)
    have HR7 := hide (HR6.out.kept6 hk (by have := HO.out; omega))
    clear c1 hc hk HD6 HR6
    have HFIN : Hid (∀ (W' H' : Int) (o' n' : Nat) (f' : Nat → Int) (wx : World), 0 < n' → n' ≤ 961 → w.heap.size < o' → DM p a len cap w X [.int .i64 W', .int .i64 H', .slice (some ⟨o', 0, none⟩) n' n'] wx → Row o' n' f' wx → Dr6 p a len cap w (.returned (im W' H' (some ⟨o', 0, none⟩) n' n')) (((wx.setCell ⟨w.heap.size, 0, none⟩ (.int .i64 W')).setCell ⟨w.heap.size, 1, none⟩ (.int .i64 H')).setCell ⟨w.heap.size, 2, none⟩ (.slice (some ⟨o', 0, none⟩) n' n'))) := fun W' H' o' n' f' wx h0 h1 h2 hD hR => by
      have hb3 := below_set3 (B := w.heap.size) wx w.heap.size (.int .i64 W') (.int .i64 H') (.slice (some ⟨o', 0, none⟩) n' n') (Nat.le_refl _)
      have hne : w.heap.size ≠ o' := by omega
      exact ⟨W', H', o', n', f', rfl, h0, h1, ((hR.set (p := ⟨w.heap.size, 0, none⟩) hne _).set (p := ⟨w.heap.size, 1, none⟩) hne _).set (p := ⟨w.heap.size, 2, none⟩) hne _, by omega, hD.cur.belowB hb3 hp HAB.out, hD.kept.belowB hb3 (Nat.le_refl _)⟩
    cases q
    · have HF := hide (HFIN.out _ _ o n f6 w7 hn1 (by omega) HO.out.1 HD7.out HR7.out)
      obtain ⟨b0, p0⟩ := HD7.out.box 0 _ rfl
      obtain ⟨b1, p1⟩ := HD7.out.box 1 _ rfl
      obtain ⟨b2, p2⟩ := HD7.out.box 2 _ rfl
      obtain ⟨q0, e0⟩ := HD7.out.res 0 _ rfl
      obtain ⟨q1, e1⟩ := HD7.out.res 1 _ rfl
      obtain ⟨q2, e2⟩ := HD7.out.res 2 _ rfl
      clear HD7 HR7 HFIN
      go_wp2_with fail
      exact bodyPost_ret (v := im (P : Int) (P : Int) (some ⟨o, 0, none⟩) n n) (by simp [results, Try.results56, go_sem, q0, q1, q2]) rfl HF.out
    · have c1 := l2New_any 31 31 961 (by decide) (by omega) w7
      clear HR7
      go_wp2_with fail
      refine c1.mono ?_
      rintro e w8 ⟨rfl, hr, hb, hlt⟩
      have hX7 := HD7.out.lt
      have HD8 := hide (HD7.out.next hb)
      have HD9 := hide (HD8.out.set3 hp HAB.out (.int .i64 31) (.int .i64 31) (.slice (some ⟨w7.heap.size + 1, 0, none⟩) 961 961))
      have HR9 : Hid (Row (w7.heap.size + 1) 961 (fun _ => 0) (((w8.setCell ⟨X, 0, none⟩ (.int .i64 31)).setCell ⟨X, 1, none⟩ (.int .i64 31)).setCell ⟨X, 2, none⟩ (.slice (some ⟨w7.heap.size + 1, 0, none⟩) 961 961))) := ((hr.set (p := ⟨X, 0, none⟩) (by show X ≠ _; omega) _).set (p := ⟨X, 1, none⟩) (by show X ≠ _; omega) _).set (p := ⟨X, 2, none⟩) (by show X ≠ _; omega) _
      obtain ⟨b0, p0⟩ := HD8.out.box 0 _ rfl
      obtain ⟨b1, p1⟩ := HD8.out.box 1 _ rfl
      obtain ⟨b2, p2⟩ := HD8.out.box 2 _ rfl
      have HQ7 : Hid (w.heap.size < w7.heap.size + 1 ∧ w7.heap.size + 1 ≠ X) := ⟨by omega, by omega⟩
      clear c1 hr hb hlt HD7 HD8 hX7
      go_upto_region 7 with fail
      clear b0 p0 b1 p1 b2 p2
      generalize hw9 : ((w8.setCell ⟨X, 0, none⟩ (.int .i64 31)).setCell ⟨X, 1, none⟩ (.int .i64 31)).setCell ⟨X, 2, none⟩ (.slice (some ⟨w7.heap.size + 1, 0, none⟩) 961 961) = w9 at *
      clear hw9
      generalize w7.heap.size + 1 = oN at *
      have HD10 := hide (HD9.out.cell hp HAB.out (k := 77) HQ7.out.1 HQ7.out.2 (.int .i64 4095))
      have HR10 := hide (HR9.out.upd6 (k := 77) 4095)
      obtain ⟨xc, xf⟩ := HR9.out 77 (by omega)
      obtain ⟨b2, p2⟩ := HD9.out.box 2 _ rfl
      have HF := hide (HFIN.out _ _ oN 961 _ _ (by omega) (by omega) HQ7.out.1 HD10.out HR10.out)
      clear HD9 HR9 HFIN
      go_upto_region 8 with fail
      clear xc xf b2 p2
      generalize hw10 : w9.setCell ⟨oN, 77, none⟩ (.int .i64 4095) = w10 at *
      clear hw10
      obtain ⟨b0, p0⟩ := HD10.out.box 0 _ rfl
      obtain ⟨b1, p1⟩ := HD10.out.box 1 _ rfl
      obtain ⟨b2, p2⟩ := HD10.out.box 2 _ rfl
      obtain ⟨q0, e0⟩ := HD10.out.res 0 _ rfl
      obtain ⟨q1, e1⟩ := HD10.out.res 1 _ rfl
      obtain ⟨q2, e2⟩ := HD10.out.res 2 _ rfl
      clear HD10 HR10
      go_wp2_with fail
      exact bodyPost_ret (v := im 31 31 (some ⟨oN, 0, none⟩) 961 961) (by simp [results, Try.results56, go_sem, q0, q1, q2]) rfl HF.out

theorem Ow.set36 {x : Option Addr} {b m X : Nat} {f : Nat → Int} {w : World} (h : Ow x b m f w) (hb : m = 0 ∨ X ≠ b) (u0 u1 u2 : Value) : Ow x b m f (((w.setCell ⟨X, 0, none⟩ u0).setCell ⟨X, 1, none⟩ u1).setCell ⟨X, 2, none⟩ u2) := by
  rcases h with h | ⟨ha, h⟩
  · exact .inl h
  · rcases hb with hb | hb
    · exact .inl hb
    · exact .inr ⟨ha, ((h.set (p := ⟨X, 0, none⟩) hb _).set (p := ⟨X, 1, none⟩) hb _).set (p := ⟨X, 2, none⟩) hb _⟩

set_option maxRecDepth 100000 in
set_option maxHeartbeats 4000000 in
theorem l6DrawAny_any (p : Nat) (a : Option Addr) (len cap : Nat) (w : World) (h : Cur p a len cap w) (hp : p < w.heap.size) (hab : len = 0 ∨ ∀ b off, a = some ⟨b, off, none⟩ → b < w.heap.size) :
    Calls Try.prog 41 #[.pointer (some ⟨p, 0, none⟩)] w (DrawnY p a len cap 962 (fun b => w.heap.size ≤ b) w) := by
  have hb := bnew w (.cells #[.int .i64 0, .int .i64 0, .slice none 0 0] 26)
  have HX0 : Hid (Bx w.heap.size [.int .i64 0, .int .i64 0, .slice none 0 0] (w.alloc (.cells #[.int .i64 0, .int .i64 0, .slice none 0 0] 26))) := Bx.new [.int .i64 0, .int .i64 0, .slice none 0 0] 26 w
  have hz : (w.alloc (.cells #[.int .i64 0, .int .i64 0, .slice none 0 0] 26)).heap.size = w.heap.size + 1 := by simp
  have c1 := l6Draw_any p a len cap _ (h.below hb) (by omega) (hab.imp id fun h b off e => by have := h b off e; omega)
  have HK0 := hide (Kept.of_below (p := p) hb)
  have HAB := hide hab
  clear h hab hb
  go_enter Try.func41, Try.ntmps41
  go_upto_region 1 with fail
  generalize hw1 : w.alloc (.cells #[.int .i64 0, .int .i64 0, .slice none 0 0] 26) = w1 at *
  clear hw1
  go_wp2_with fail
  refine c1.mono ?_
  rintro e w3 ⟨W, H, o, n, f, rfl, hn1, hn2, hr, ho, hc, hk⟩
  have hs3 := hk.size
  have hol : o < w3.heap.size := World.block_lt_of_cell? w3 _ (hr 0 hn1).1
  have hb4 := bnew w3 (.cells #[.int .i64 W, .int .i64 H, .slice (some ⟨o, 0, none⟩) n n] 26)
  have HD : Hid (DM p a len cap w w3.heap.size [.int .i64 W, .int .i64 H, .slice (some ⟨o, 0, none⟩) n n] (w3.alloc (.cells #[.int .i64 W, .int .i64 H, .slice (some ⟨o, 0, none⟩) n n] 26))) :=
    ⟨hc.below hb4, (HK0.out.trans hk).trans (Kept.of_below hb4), (HX0.out.kept hk (by omega)).below hb4 (by omega), Bx.new [.int .i64 W, .int .i64 H, .slice (some ⟨o, 0, none⟩) n n] _ w3, by omega, by simp⟩
  have HRo := hide (hr.below hb4 hol)
  have HO : Hid (w.heap.size < o ∧ o < w3.heap.size) := ⟨by omega, hol⟩
  clear c1 hr hc hk HX0 HK0 hb4 hs3 hol ho
  go_upto_region 2 with fail
  generalize hw4 : w3.alloc (.cells #[.int .i64 W, .int .i64 H, .slice (some ⟨o, 0, none⟩) n n] 26) = w4 at *
  clear hw4
  have c1 := once_any p a len cap _ HD.out.cur 14 (by omega) (by omega)
  generalize hX : w3.heap.size = X at *
  clear hX
  go_wp2_with fail
  refine c1.mono ?_
  rintro e w5 ⟨q, rfl, hc, hk⟩
  have HD5 := hide (HD.out.step hp hc hk)
  have HR5 := hide (HRo.out.kept6 hk (by have := HO.out; omega))
  clear c1 hc hk HD HRo
  have hX5 := HD5.out.lt
  go_upto_if 7 with fail
  go_cut [] (fun wc => ∃ (W' H' : Int) (x' : Option Addr) (b' m' c' : Nat) (f' : Nat → Int), m' ≤ 962 ∧ DM p a len cap w X [.int .i64 W', .int .i64 H', .slice x' m' c'] wc ∧ Ow x' b' m' f' wc ∧ (m' = 0 ∨ (w.heap.size < b' ∧ b' ≠ p ∧ b' ≠ X)))
  case first =>
    cases q
    · go_wp2_with fail
      go_meet
      exact ⟨W, H, _, o, n, n, f, by omega, HD5.out, .inr ⟨rfl, HR5.out⟩, .inr ⟨HO.out.1, by have := HO.out; omega, by have := HO.out; omega⟩⟩
    · have cS := spoil_any p a len cap W H o n n f (by omega) hn1 w5 HD5.out.cur (by omega) (HAB.out.imp id fun h b off e => by have := h b off e; omega) HR5.out (by have := HO.out; omega)
      obtain ⟨b0, p0⟩ := HD5.out.box 0 _ rfl
      obtain ⟨b1, p1⟩ := HD5.out.box 1 _ rfl
      obtain ⟨b2, p2⟩ := HD5.out.box 2 _ rfl
      go_wp2_with fail
      refine cS.mono ?_
      rintro e w6 ⟨W', H', x', b', m', c', f', rfl, hm', ho', hb', hc, hk⟩
      have HD6 := hide (HD5.out.step hp hc hk)
      have hX6 : m' = 0 ∨ (w.heap.size < b' ∧ b' ≠ p ∧ b' ≠ X) := by
        rcases hb' with h | ⟨h | h, h2⟩
        · exact .inl h
        · exact .inr ⟨by have := HO.out; omega, h2, by have := HO.out; omega⟩
        · exact .inr ⟨by omega, h2, by omega⟩
      have HD7 := hide (HD6.out.set3 hp HAB.out (.int .i64 W') (.int .i64 H') (.slice x' m' c'))
      have HO7 := hide (ho'.set36 (X := X) (hX6.imp id fun h => Ne.symm h.2.2) (.int .i64 W') (.int .i64 H') (.slice x' m' c'))
      have HX7 := hide hX6
      clear cS hc hk b0 p0 b1 p1 b2 p2 HD5 hX6 ho'
      obtain ⟨b0, p0⟩ := HD6.out.box 0 _ rfl
      obtain ⟨b1, p1⟩ := HD6.out.box 1 _ rfl
      obtain ⟨b2, p2⟩ := HD6.out.box 2 _ rfl
      go_wp2_with fail
      go_meet
      exact ⟨W', H', x', b', m', c', f', by omega, HD7.out, HO7.out, HX7.out⟩
  case rest =>
    obtain ⟨W', H', x', b', m', c', f', hm', hD', hP', hX'⟩ := hcut
    obtain ⟨w6, hw6⟩ : ∃ w6, w6 = wc := ⟨_, rfl⟩
    rw [← hw6] at hD' hP'
    rw [← hw6]
    clear hw6 HD5 HR5 hX5
    have HD6 := hide hD'
    have HP6 := hide hP'
    have HX6 := hide hX'
    clear hD' hP' hX'
    have c1 := once_any p a len cap _ HD6.out.cur 30 (by omega) (by omega)
    go_wp2_with fail
    refine c1.mono ?_
    rintro e w7 ⟨q, rfl, hc, hk⟩
    have HD7 := hide (HD6.out.step hp hc hk)
    have HP7 : Hid (Ow x' b' m' f' w7) := by
      rcases HP6.out with h | ⟨ha, h⟩
      · exact .inl h
      · rcases HX6.out with h0 | h0
        · exact .inl h0
        · exact .inr ⟨ha, h.kept6 hk h0.2.1⟩
    clear c1 hc hk HD6 HP6
    have hX7 := HD7.out.lt
    have HFIN : Hid (∀ (W' H' : Int) (x' : Option Addr) (b' m' c' : Nat) (f' : Nat → Int) (wx : World), m' ≤ 962 → DM p a len cap w X [.int .i64 W', .int .i64 H', .slice x' m' c'] wx → Ow x' b' m' f' wx → (m' = 0 ∨ (w.heap.size < b' ∧ b' ≠ p ∧ b' ≠ X)) → DrawnY p a len cap 962 (fun b => w.heap.size ≤ b) w (.returned (im W' H' x' m' c')) (((wx.setCell ⟨w.heap.size, 0, none⟩ (.int .i64 W')).setCell ⟨w.heap.size, 1, none⟩ (.int .i64 H')).setCell ⟨w.heap.size, 2, none⟩ (.slice x' m' c'))) := fun W' H' x' b' m' c' f' wx hm hD hP hX => by
      have hb3 := below_set3 (B := w.heap.size) wx w.heap.size (.int .i64 W') (.int .i64 H') (.slice x' m' c') (Nat.le_refl _)
      exact ⟨W', H', x', b', m', c', f', rfl, hm, hP.set36 (hX.imp id fun h => by omega) _ _ _, hX.imp id fun h => ⟨Nat.le_of_lt h.1, h.2.1⟩, hD.cur.belowB hb3 hp HAB.out, hD.kept.belowB hb3 (Nat.le_refl _)⟩
    cases q
    · have HF := hide (HFIN.out _ _ _ _ _ _ _ w7 hm' HD7.out HP7.out HX6.out)
      obtain ⟨b0, p0⟩ := HD7.out.box 0 _ rfl
      obtain ⟨b1, p1⟩ := HD7.out.box 1 _ rfl
      obtain ⟨b2, p2⟩ := HD7.out.box 2 _ rfl
      obtain ⟨q0, e0⟩ := HD7.out.res 0 _ rfl
      obtain ⟨q1, e1⟩ := HD7.out.res 1 _ rfl
      obtain ⟨q2, e2⟩ := HD7.out.res 2 _ rfl
      clear HD7 HP7 HFIN
      go_wp2_with fail
      exact bodyPost_ret (v := im W' H' x' m' c') (by simp [results, Try.results41, go_sem, q0, q1, q2]) rfl HF.out
    · have c1 := drawImage_any p a len cap 4 4 0 9 16 (by decide) (by omega) w7 HD7.out.cur (by omega) (HAB.out.imp id fun h b off e => by have := h b off e; omega)
      clear HP7
      go_wp2_with fail
      refine c1.mono ?_
      rintro e w8 ⟨o8, f8, rfl, hr, ho, hc, hk⟩
      have HD8 := hide (HD7.out.step hp hc hk)
      have HD9 := hide (HD8.out.set3 hp HAB.out (.int .i64 4) (.int .i64 4) (.slice (some ⟨o8, 0, none⟩) 16 16))
      have HR9 : Hid (Ow (some ⟨o8, 0, none⟩) o8 16 f8 (((w8.setCell ⟨X, 0, none⟩ (.int .i64 4)).setCell ⟨X, 1, none⟩ (.int .i64 4)).setCell ⟨X, 2, none⟩ (.slice (some ⟨o8, 0, none⟩) 16 16))) := Ow.set36 (.inr ⟨rfl, hr⟩) (.inr (by omega)) _ _ _
      have HF := hide (HFIN.out _ _ _ _ _ _ _ _ (by omega) HD9.out HR9.out (.inr ⟨by omega, by omega, by omega⟩))
      obtain ⟨b0, p0⟩ := HD8.out.box 0 _ rfl
      obtain ⟨b1, p1⟩ := HD8.out.box 1 _ rfl
      obtain ⟨b2, p2⟩ := HD8.out.box 2 _ rfl
      clear c1 hr hc hk ho HD7 HD8 HFIN
      go_upto_region 6 with fail
      clear b0 p0 b1 p1 b2 p2
      generalize hw9 : ((w8.setCell ⟨X, 0, none⟩ (.int .i64 4)).setCell ⟨X, 1, none⟩ (.int .i64 4)).setCell ⟨X, 2, none⟩ (.slice (some ⟨o8, 0, none⟩) 16 16) = w9 at *
      clear hw9
      obtain ⟨b0, p0⟩ := HD9.out.box 0 _ rfl
      obtain ⟨b1, p1⟩ := HD9.out.box 1 _ rfl
      obtain ⟨b2, p2⟩ := HD9.out.box 2 _ rfl
      obtain ⟨q0, e0⟩ := HD9.out.res 0 _ rfl
      obtain ⟨q1, e1⟩ := HD9.out.res 1 _ rfl
      obtain ⟨q2, e2⟩ := HD9.out.res 2 _ rfl
      clear HD9 HR9
      go_wp2_with fail
      exact bodyPost_ret (v := im 4 4 (some ⟨o8, 0, none⟩) 16 16) (by simp [results, Try.results41, go_sem, q0, q1, q2]) rfl HF.out

/-- an image is drawn -/
def ImD (N : Nat) (w : World) (e : Ending) (w' : World) : Prop :=
  ∃ W H x b m c f, e = .returned (im W H x m c) ∧ m ≤ N ∧ Ow x b m f w' ∧ (m = 0 ∨ w.heap.size ≤ b) ∧ Below w.heap.size w w'
theorem bytes_lt {a : Option Addr} {len : Nat} {w : World} (h : Bytes a len w) {B : Nat} (hB : w.heap.size ≤ B) : len = 0 ∨ ∀ b off, a = some ⟨b, off, none⟩ → b < B := by
  by_cases h0 : len = 0
  · exact .inl h0
  · refine .inr fun b off e => ?_
    rcases h.2 with h1 | ⟨b', off', ha, hb⟩
    · exact absurd h1 h0
    · obtain ⟨z, _, _, hz⟩ := hb 0 (by omega)
      rw [e] at ha
      cases ha
      exact Nat.lt_of_lt_of_le (World.block_lt_of_cell? w _ hz) hB

end Go.Proofs.Ytcdklkebedpmnaa

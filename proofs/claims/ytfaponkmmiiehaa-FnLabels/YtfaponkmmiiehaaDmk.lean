/- The draws of masks. -/
import Derived.Test.YtfaponkmmiiehaaDsd
namespace Go.Proofs.Ytfaponkmmiiehaa
open Go.RowKit

set_option maxRecDepth 100000 in
theorem drawMask_any (p : Nat) (a : Option Addr) (len cap : Nat) (W H : Int) (n : Nat) (hn : W * H = (n : Int)) (hl : n ≤ 4096) (w : World) (h : Cur p a len cap w) (hp : p < w.heap.size) (hab : len = 0 ∨ ∀ b off, a = some ⟨b, off, none⟩ → b < w.heap.size) :
    Calls Try.prog 33 #[.pointer (some ⟨p, 0, none⟩), .int .i64 W, .int .i64 H] w (DrawnM p a len cap W H n w) := by
  have hb := bnew w (.cells #[.int .i64 0, .int .i64 0, .slice none 0 0] 26)
  have hx := Bx.new [.int .i64 0, .int .i64 0, .slice none 0 0] 26 w
  have c := drawImage_any p a len cap W H 0 1 n hn hl _ (h.below hb) (by simp; omega) (hab.imp id fun h b off e => by have := h b off e; simp; omega)
  have HB := hide hb
  have HX := hide hx
  have HAB := hide hab
  clear h hb hx hab
  go_enter Try.func33, Try.ntmps33
  go_wp2_with fail
  refine c.mono ?_
  rintro e w2 ⟨o, f, rfl, hr, ho, hc, hk⟩
  have hz : (w.alloc (.cells #[.int .i64 0, .int .i64 0, .slice none 0 0] 26)).heap.size = w.heap.size + 1 := by simp
  rw [hz] at ho
  have hx2 := HX.out.kept hk (by omega)
  have hb3 := below_set3 (B := w.heap.size) w2 w.heap.size (.int .i64 W) (.int .i64 H) (.slice (some ⟨o, 0, none⟩) n n) (Nat.le_refl _)
  have hne : w.heap.size ≠ o := by omega
  have HR : Hid (DrawnM p a len cap W H n w (.returned (im W H (some ⟨o, 0, none⟩) n n)) (((w2.setCell ⟨w.heap.size, 0, none⟩ (.int .i64 W)).setCell ⟨w.heap.size, 1, none⟩ (.int .i64 H)).setCell ⟨w.heap.size, 2, none⟩ (.slice (some ⟨o, 0, none⟩) n n))) :=
    ⟨o, f, rfl, ((hr.set (p := ⟨w.heap.size, 0, none⟩) hne _).set (p := ⟨w.heap.size, 1, none⟩) hne _).set (p := ⟨w.heap.size, 2, none⟩) hne _, by omega, hc.belowB hb3 hp HAB.out, ((Kept.of_below HB.out).trans hk).belowB hb3 (Nat.le_refl _)⟩
  obtain ⟨q0, e0⟩ := hx2 0 _ rfl
  obtain ⟨q1, e1⟩ := hx2 1 _ rfl
  obtain ⟨q2, e2⟩ := hx2 2 _ rfl
  clear c hr hc hk hx2 HX HB hz hb3
  go_wp2_with fail
  exact bodyPost_ret (v := im W H (some ⟨o, 0, none⟩) n n) (by simp [results, Try.results33, go_sem, q0, q1, q2]) rfl HR.out

/-- what is known while a mask is drawn: the box of the answer, the box of the mask -/
structure DM (p : Nat) (a : Option Addr) (len cap : Nat) (w : World) (X : Nat) (vs : List Value) (wr : World) : Prop where
  cur : Cur p a len cap wr
  kept : Kept p w wr
  res : Bx w.heap.size [.int .i64 0, .int .i64 0, .slice none 0 0] wr
  box : Bx X vs wr
  lt : w.heap.size < X ∧ X < wr.heap.size
theorem DM.step {p : Nat} {a : Option Addr} {len cap : Nat} {w : World} {X : Nat} {vs : List Value} {wr w' : World} (h : DM p a len cap w X vs wr) (hp : p < w.heap.size) (hc : Cur p a len cap w') (hk : Kept p wr w') : DM p a len cap w X vs w' :=
  ⟨hc, h.kept.trans hk, h.res.kept hk (by omega), h.box.kept hk (by have := h.lt; omega), ⟨h.lt.1, Nat.lt_of_lt_of_le h.lt.2 hk.size⟩⟩
theorem DM.set3 {p : Nat} {a : Option Addr} {len cap : Nat} {w : World} {X : Nat} {v0 v1 v2 : Value} {wr : World} (h : DM p a len cap w X [v0, v1, v2] wr) (hp : p < w.heap.size) (hab : len = 0 ∨ ∀ b off, a = some ⟨b, off, none⟩ → b < w.heap.size) (u0 u1 u2 : Value) :
    DM p a len cap w X [u0, u1, u2] (((wr.setCell ⟨X, 0, none⟩ u0).setCell ⟨X, 1, none⟩ u1).setCell ⟨X, 2, none⟩ u2) := by
  have hl := h.lt
  have hb := below_set3 (B := w.heap.size) wr X u0 u1 u2 (by omega)
  refine ⟨h.cur.belowB hb hp hab, h.kept.belowB hb (Nat.le_refl _), ?_, ?_, hl.1, by simpa using hl.2⟩
  · exact ((h.res.far (q := ⟨X, 0, none⟩) (by show X ≠ _; omega) _).far (q := ⟨X, 1, none⟩) (by show X ≠ _; omega) _).far (q := ⟨X, 2, none⟩) (by show X ≠ _; omega) _
  · exact ((h.box.set 0 u0).set 1 u1).set 2 u2
theorem Ow.set3 {x : Option Addr} {b m X : Nat} {f : Nat → Int} {w : World} (h : Ow x b m f w) (hb : m = 0 ∨ X ≠ b) (u0 u1 u2 : Value) : Ow x b m f (((w.setCell ⟨X, 0, none⟩ u0).setCell ⟨X, 1, none⟩ u1).setCell ⟨X, 2, none⟩ u2) := by
  rcases h with h | ⟨ha, h⟩
  · exact .inl h
  · rcases hb with hb | hb
    · exact .inl hb
    · exact .inr ⟨ha, ((h.set (p := ⟨X, 0, none⟩) hb _).set (p := ⟨X, 1, none⟩) hb _).set (p := ⟨X, 2, none⟩) hb _⟩

set_option maxRecDepth 100000 in
set_option maxHeartbeats 2000000 in
theorem drawAnyMask_any (hSp : Spoils) (p : Nat) (a : Option Addr) (len cap : Nat) (w : World) (h : Cur p a len cap w) (hp : p < w.heap.size) (hab : len = 0 ∨ ∀ b off, a = some ⟨b, off, none⟩ → b < w.heap.size) :
    Calls Try.prog 17 #[.pointer (some ⟨p, 0, none⟩)] w (DrawnY p a len cap 101 (fun b => w.heap.size ≤ b) w) := by
  have hb := bnew w (.cells #[.int .i64 0, .int .i64 0, .slice none 0 0] 26)
  have HX0 := hide (Bx.new [.int .i64 0, .int .i64 0, .slice none 0 0] 26 w)
  have hc1 := below_any p a len cap _ (h.below hb) 10 (by omega) (by omega)
  have HK0 := hide (Kept.of_below (p := p) hb)
  have hz : (w.alloc (.cells #[.int .i64 0, .int .i64 0, .slice none 0 0] 26)).heap.size = w.heap.size + 1 := by simp
  have HZ := hide hz
  have HAB := hide hab
  clear h hb hab hz
  go_enter Try.func17, Try.ntmps17
  go_wp2_with fail
  refine hc1.mono ?_
  rintro e w1 ⟨y1, rfl, l1, u1, hc, hk⟩
  have HX1 := hide (HX0.out.kept hk (by omega))
  have HK1 := hide (HK0.out.trans hk)
  have hs1 : w.heap.size + 1 ≤ w1.heap.size := by have := hk.size; rw [HZ.out] at this; exact this
  have hc2 := below_any p a len cap _ hc 10 (by omega) (by omega)
  clear hc1 hc hk HX0 HK0 HZ
  go_wp2_with fail
  refine hc2.mono ?_
  rintro e w2 ⟨y2, rfl, l2, u2, hc, hk⟩
  have HX2 := hide (HX1.out.kept hk (by omega))
  have HK2 := hide (HK1.out.trans hk)
  have hs2 : w.heap.size + 1 ≤ w2.heap.size := Nat.le_trans hs1 hk.size
  obtain ⟨n, hn, hn1, hn2⟩ : ∃ n : Nat, (1 + y1) * (1 + y2) = (n : Int) ∧ 0 < n ∧ n ≤ 100 := by
    have h1 : 0 < (1 + y1) * (1 + y2) := Int.mul_pos (by omega) (by omega)
    have h2 : (1 + y1) * (1 + y2) ≤ 10 * 10 := Int.mul_le_mul (by omega) (by omega) (by omega) (by omega)
    exact ⟨((1 + y1) * (1 + y2)).toNat, by omega, by omega, by omega⟩
  have hc3 := drawMask_any p a len cap (1 + y1) (1 + y2) n hn (by omega) w2 hc (by omega) (HAB.out.imp id fun h b off e => by have := h b off e; omega)
  clear hc2 hc hk HX1 HK1 hn
  go_wp2_with fail
  refine hc3.mono ?_
  clear hc3
  generalize 1 + y1 = W at *
  generalize 1 + y2 = H at *
  rintro e w3 ⟨o, f, rfl, hr, ho, hc, hk⟩
  have hs3 := hk.size
  have hol : o < w3.heap.size := World.block_lt_of_cell? w3 _ (hr 0 hn1).1
  have hb4 := bnew w3 (.cells #[.int .i64 W, .int .i64 H, .slice (some ⟨o, 0, none⟩) n n] 26)
  have HD : Hid (DM p a len cap w w3.heap.size [.int .i64 W, .int .i64 H, .slice (some ⟨o, 0, none⟩) n n] (w3.alloc (.cells #[.int .i64 W, .int .i64 H, .slice (some ⟨o, 0, none⟩) n n] 26))) :=
    ⟨hc.below hb4, (HK2.out.trans hk).trans (Kept.of_below hb4), (HX2.out.kept hk (by omega)).below hb4 (by omega), Bx.new [.int .i64 W, .int .i64 H, .slice (some ⟨o, 0, none⟩) n n] _ w3, by omega, by simp⟩
  have HRo := hide (hr.below hb4 hol)
  have HO : Hid (w.heap.size < o ∧ o < w3.heap.size) := ⟨by omega, hol⟩
  clear hr hc hk HX2 HK2 hb4
  go_upto_region 2 with fail
  generalize hw4 : w3.alloc (.cells #[.int .i64 W, .int .i64 H, .slice (some ⟨o, 0, none⟩) n n] 26) = w4 at *
  clear hw4
  have hc5 := once_any p a len cap _ HD.out.cur 14 (by omega) (by omega)
  generalize hX : w3.heap.size = X at *
  clear hX
  go_wp2_with fail
  refine hc5.mono ?_
  rintro e w5 ⟨q, rfl, hc, hk⟩
  have HD5 := hide (HD.out.step hp hc hk)
  have HR5 := hide (HRo.out.kept hk (by have := HO.out; omega))
  clear hc5 hc hk HD HRo
  have hX5 := HD5.out.lt
  go_upto_if 13 with fail
  go_cut [] (fun wc => ∃ (W' H' : Int) (x' : Option Addr) (b' m' c' : Nat) (f' : Nat → Int), m' ≤ 101 ∧ DM p a len cap w X [.int .i64 W', .int .i64 H', .slice x' m' c'] wc ∧ Ow x' b' m' f' wc ∧ (m' = 0 ∨ (w.heap.size < b' ∧ b' ≠ p ∧ b' ≠ X)))
  case first => as_aux_lemma =>
    cases q
    · go_wp2_with fail
      go_meet
      exact ⟨W, H, _, o, n, n, f, by omega, HD5.out, .inr ⟨rfl, HR5.out⟩, .inr ⟨HO.out.1, by have := HO.out; omega, by have := HO.out; omega⟩⟩
    · have cS := hSp p a len cap W H o n n f (by omega) hn1 w5 HD5.out.cur (by omega) (HAB.out.imp id fun h b off e => by have := h b off e; omega) HR5.out (by have := HO.out; omega)
      obtain ⟨b0, p0⟩ := HD5.out.box 0 _ rfl
      obtain ⟨b1, p1⟩ := HD5.out.box 1 _ rfl
      obtain ⟨b2, p2⟩ := HD5.out.box 2 _ rfl
      go_wp2_with fail
      refine cS.mono ?_
      rintro e w6 ⟨W', H', x', b', m', c', f', rfl, hm', ho', hb', hc, hk⟩
      have HD6 := hide (HD5.out.step hp hc hk)
      have hX6 : m' = 0 ∨ (w.heap.size < b' ∧ b' ≠ p ∧ b' ≠ X) := by
        rcases hb' with h | ⟨h | h, h2⟩
        · exact .inl h
        · exact .inr ⟨by have := HO.out; omega, h2, by have := HO.out; omega⟩
        · exact .inr ⟨by omega, h2, by omega⟩
      have HD7 := hide (HD6.out.set3 hp HAB.out (.int .i64 W') (.int .i64 H') (.slice x' m' c'))
      have HO7 := hide (ho'.set3 (X := X) (hX6.imp id fun h => Ne.symm h.2.2) (.int .i64 W') (.int .i64 H') (.slice x' m' c'))
      have HX7 := hide hX6
      clear cS hc hk b0 p0 b1 p1 b2 p2 HD5 hX6 ho'
      obtain ⟨b0, p0⟩ := HD6.out.box 0 _ rfl
      obtain ⟨b1, p1⟩ := HD6.out.box 1 _ rfl
      obtain ⟨b2, p2⟩ := HD6.out.box 2 _ rfl
      go_wp2_with fail
      go_meet
      exact ⟨W', H', x', b', m', c', f', by omega, HD7.out, HO7.out, HX7.out⟩
  case rest => as_aux_lemma =>
    obtain ⟨W', H', x', b', m', c', f', hm', hD', hP', hX'⟩ := hcut
    have hb3 := below_set3 (B := w.heap.size) wc w.heap.size (.int .i64 W') (.int .i64 H') (.slice x' m' c') (Nat.le_refl _)
    have HF : Hid (DrawnY p a len cap 101 (fun b => w.heap.size ≤ b) w (.returned (im W' H' x' m' c')) (((wc.setCell ⟨w.heap.size, 0, none⟩ (.int .i64 W')).setCell ⟨w.heap.size, 1, none⟩ (.int .i64 H')).setCell ⟨w.heap.size, 2, none⟩ (.slice x' m' c'))) :=
      ⟨W', H', x', b', m', c', f', rfl, hm', hP'.set3 (hX'.imp id fun h => by omega) _ _ _, hX'.imp id fun h => ⟨Nat.le_of_lt h.1, h.2.1⟩, hD'.cur.belowB hb3 hp HAB.out, hD'.kept.belowB hb3 (Nat.le_refl _)⟩
    obtain ⟨b0, p0⟩ := hD'.box 0 _ rfl
    obtain ⟨b1, p1⟩ := hD'.box 1 _ rfl
    obtain ⟨b2, p2⟩ := hD'.box 2 _ rfl
    obtain ⟨q0, e0⟩ := hD'.res 0 _ rfl
    obtain ⟨q1, e1⟩ := hD'.res 1 _ rfl
    obtain ⟨q2, e2⟩ := hD'.res 2 _ rfl
    clear hD' hP' hX' HD5 HR5 hb3
    go_wp2_with fail
    exact bodyPost_ret (v := im W' H' x' m' c') (by simp [results, Try.results17, go_sem, q0, q1, q2]) rfl HF.out

end Go.Proofs.Ytfaponkmmiiehaa

/- The draw of a grey image. -/
import Derived.Test.YtekoioggamhlaaaRgv
import Derived.Test.YtekoioggamhlaaaDpg
import Derived.Test.YtekoioggamhlaaaDsp
import Derived.Deep.DeepCutAuto
import Derived.Deep.CutBlock
namespace Go.Proofs.Ytekoioggamhlaaa
open Go.RowKit

/-- what stays: the box that operation A made holds zs until operation S has run -/
def cR (p : Nat) (a : Option Addr) (len cap : Nat) (A S : Nat) (zs : List Value) (wB : World) (u : Nat → Value) (w : World) : Prop :=
  Cur p a len cap w ∧ Kept p wB w ∧ ∀ M, u A = .pointer (some ⟨M, 0, none⟩) → wB.heap.size ≤ M → u S ≠ undef ∨ (Bx M zs w ∧ M < w.heap.size)
/-- what each operation leaves -/
def cG (A S : Nat) (wB : World) (G : Nat → Value → Prop) (P : Nat → World → Prop) (j : Nat) (u : Nat → Value) (w : World) : Prop :=
  G j (u j) ∧ (j = A → ∃ M, u A = .pointer (some ⟨M, 0, none⟩) ∧ wB.heap.size ≤ M) ∧ (j = S → ∃ M, u A = .pointer (some ⟨M, 0, none⟩) ∧ wB.heap.size ≤ M ∧ M < w.heap.size ∧ P M w)
theorem not_ptr {x : Value} {b : Nat} (h : x = undef) (hM : x = .pointer (some ⟨b, 0, none⟩)) : False := by
  rw [h] at hM
  simp [undef] at hM
section
variable {p : Nat} {a : Option Addr} {len cap A S : Nat} {zs : List Value} {wB w w' : World} {G : Nat → Value → Prop} {P : Nat → World → Prop} {u : Nat → Value}
theorem cR_up (hp : p < wB.heap.size) (h : cR p a len cap A S zs wB u w) (hc : Cur p a len cap w') (hk : Kept p w w') (i : Nat) (hA : A ≠ i) (hS : S ≠ i) (v : Value) : cR p a len cap A S zs wB (upU u i v) w' := by
  refine ⟨hc, h.2.1.trans hk, fun M hM hMB => ?_⟩
  rw [upU_other u v hA] at hM
  rw [upU_other u v hS]
  exact (h.2.2 M hM hMB).imp id fun h1 => ⟨h1.1.kept hk (by omega), Nat.lt_of_lt_of_le h1.2 hk.size⟩
theorem cR_al {t : TypeId} (h : cR p a len cap A S zs wB u w) : cR p a len cap A S zs wB (upU u A (.pointer (some ⟨w.heap.size, 0, none⟩))) (w.alloc (.cells zs.toArray t)) := by
  refine ⟨h.1.below (bnew _ _), h.2.1.trans (Kept.of_below (bnew _ _)), fun M hM _ => .inr ?_⟩
  rw [upU_same] at hM
  cases hM
  exact ⟨Bx.new _ _ _, by simp⟩
theorem cR_st (hc : Cur p a len cap w') (hk : Kept p wB w') {v : Value} (hv : v ≠ undef) : cR p a len cap A S zs wB (upU u S v) w' := ⟨hc, hk, fun _ _ _ => .inl (by rw [upU_same]; exact hv)⟩
theorem cG_up (i : Nat) (hA : A ≠ i) (v : Value) (j : Nat) (hj : j ≠ i) (hjS : j ≠ S) (h : cG A S wB G P j u w) : cG A S wB G P j (upU u i v) w' := by
  obtain ⟨h1, h3, h4⟩ := h
  exact ⟨by rw [upU_other u v hj]; exact h1, fun e => by rw [upU_other u v hA]; exact h3 e, fun e => absurd e hjS⟩
theorem cG_val (j : Nat) (hA : j ≠ A) (hS : j ≠ S) {v : Value} (h : G j v) : cG A S wB G P j (upU u j v) w := ⟨by rw [upU_same]; exact h, fun e => absurd e hA, fun e => absurd e hS⟩
theorem cG_ptr (hAS : A ≠ S) (hG : ∀ v, G A v) {M : Nat} (hM : wB.heap.size ≤ M) : cG A S wB G P A (upU u A (.pointer (some ⟨M, 0, none⟩))) w := ⟨hG _, fun _ => ⟨M, upU_same _ _ _, hM⟩, fun e => absurd e hAS⟩
theorem cG_al {v : Value} (j : Nat) (hj : j ≠ A) (hjS : j ≠ S) (h : cG A S wB G P j u w) : cG A S wB G P j (upU u A v) w' := by
  obtain ⟨h1, h3, h4⟩ := h
  exact ⟨by rw [upU_other _ _ hj]; exact h1, fun e => absurd e hj, fun e => absurd e hjS⟩
theorem cG_st {v : Value} (hAS : A ≠ S) (j : Nat) (hj : j ≠ S) (h : cG A S wB G P j u w) : cG A S wB G P j (upU u S v) w' := by
  obtain ⟨h1, h3, h4⟩ := h
  exact ⟨by rw [upU_other _ _ hj]; exact h1, fun e => by rw [upU_other _ _ hAS]; exact h3 e, fun e => absurd e hj⟩
theorem cG_done {v : Value} (hAS : A ≠ S) (hG : ∀ v, G S v) {M : Nat} (h : u A = .pointer (some ⟨M, 0, none⟩)) (hM : wB.heap.size ≤ M) (hw : M < w.heap.size) (hP : P M w) : cG A S wB G P S (upU u S v) w :=
  ⟨hG _, fun e => absurd e.symm hAS, fun _ => ⟨M, (upU_other _ _ hAS).trans h, hM, hw, hP⟩⟩
end

/-- a literal table of n numbers lies there -/
def TabC (n b : Nat) (w : World) : Prop := ∀ Y, Y < n → ∃ z : Int, w.cell? ⟨b, Y, none⟩ = some (.int .i64 z)
theorem TabC.kept {n b p : Nat} {w w' : World} (h : TabC n b w) (hk : Kept p w w') (hb : b ≠ p) : TabC n b w' := fun Y hY => (h Y hY).imp fun _ hz => hk.cell (a := ⟨b, Y, none⟩) hb hz
theorem tab_lit {w : World} : ∀ (L : List Int), TabC L.length w.heap.size (w.alloc (.cells (L.map (Value.int .i64)).toArray 2)) := fun L Y hY =>
  ⟨L[Y], by simp [go_sem, hY]⟩
/-- what stays until the store: the cursor turns, what was there stays -/
def tR (p : Nat) (a : Option Addr) (len cap S : Nat) (wB : World) (u : Nat → Value) (w : World) : Prop := u S = undef → Cur p a len cap w ∧ Kept p wB w
/-- what each operation leaves: a table at T, a place of it at I -/
def tF (T I S n : Nat) (wB : World) (G : Nat → Value → Prop) (P : World → Prop) (j : Nat) (u : Nat → Value) (w : World) : Prop :=
  G j (u j) ∧ (j = T → ∃ b, u T = .slice (some ⟨b, 0, none⟩) n n ∧ wB.heap.size ≤ b ∧ (u S = undef → TabC n b w)) ∧ (j = I → ∃ b Y, u I = .pointer (some ⟨b, Y, none⟩) ∧ wB.heap.size ≤ b ∧ (u S = undef → ∃ z : Int, w.cell? ⟨b, Y, none⟩ = some (.int .i64 z))) ∧ (j = S → P w)
section
variable {p : Nat} {a : Option Addr} {len cap T I S n : Nat} {wB w w' : World} {G : Nat → Value → Prop} {P : World → Prop} {u : Nat → Value}
theorem tR_up (h : tR p a len cap S wB u w) (hc : Cur p a len cap w → Cur p a len cap w') (hk : Kept p w w') (i : Nat) (hS : S ≠ i) (v : Value) : tR p a len cap S wB (upU u i v) w' := by
  intro e
  rw [upU_other u v hS] at e
  exact ⟨hc (h e).1, (h e).2.trans hk⟩
theorem tR_st {v : Value} (hv : v ≠ undef) : tR p a len cap S wB (upU u S v) w := fun e => absurd ((upU_same _ _ _).symm.trans e) hv
theorem tF_up (hp : p < wB.heap.size) (hk : Kept p w w') (i : Nat) (hS : S ≠ i) (v : Value) (j : Nat) (hj : j ≠ i) (hjS : j ≠ S) (h : tF T I S n wB G P j u w) : tF T I S n wB G P j (upU u i v) w' := by
  obtain ⟨h1, h2, h3, h4⟩ := h
  refine ⟨by rw [upU_other u v hj]; exact h1, fun e => ?_, fun e => ?_, fun e => absurd e hjS⟩
  · obtain ⟨b, g1, g2, g3⟩ := h2 e
    exact ⟨b, by rw [upU_other u v (fun e' => hj (e.trans e'))]; exact g1, g2, fun e' => (g3 (by rwa [upU_other u v hS] at e')).kept hk (by omega)⟩
  · obtain ⟨b, Y, g1, g2, g3⟩ := h3 e
    exact ⟨b, Y, by rw [upU_other u v (fun e' => hj (e.trans e'))]; exact g1, g2, fun e' => (g3 (by rwa [upU_other u v hS] at e')).imp fun _ hz => hk.cell (a := ⟨b, Y, none⟩) (by show b ≠ p; omega) hz⟩
theorem tF_st {v : Value} (hv : v ≠ undef) (j : Nat) (hj : j ≠ S) (hT : T ≠ S) (hI : I ≠ S) (h : tF T I S n wB G P j u w) : tF T I S n wB G P j (upU u S v) w' := by
  obtain ⟨h1, h2, h3, h4⟩ := h
  refine ⟨by rw [upU_other u v hj]; exact h1, fun e => ?_, fun e => ?_, fun e => absurd e hj⟩
  · obtain ⟨b, g1, g2, g3⟩ := h2 e
    exact ⟨b, by rw [upU_other u v hT]; exact g1, g2, fun e' => absurd ((upU_same _ _ _).symm.trans e') hv⟩
  · obtain ⟨b, Y, g1, g2, g3⟩ := h3 e
    exact ⟨b, Y, by rw [upU_other u v hI]; exact g1, g2, fun e' => absurd ((upU_same _ _ _).symm.trans e') hv⟩
theorem tF_val (j : Nat) (hT : j ≠ T) (hI : j ≠ I) (hS : j ≠ S) {v : Value} (h : G j v) : tF T I S n wB G P j (upU u j v) w := ⟨by rw [upU_same]; exact h, fun e => absurd e hT, fun e => absurd e hI, fun e => absurd e hS⟩
theorem tF_tab (hTI : T ≠ I) (hTS : T ≠ S) (hG : ∀ v, G T v) {b : Nat} (hb : wB.heap.size ≤ b) (ht : TabC n b w) : tF T I S n wB G P T (upU u T (.slice (some ⟨b, 0, none⟩) n n)) w :=
  ⟨hG _, fun _ => ⟨b, upU_same _ _ _, hb, fun _ => ht⟩, fun e => absurd e hTI, fun e => absurd e hTS⟩
theorem tF_ix (hTI : T ≠ I) (hIS : I ≠ S) (hG : ∀ v, G I v) {b Y : Nat} (hb : wB.heap.size ≤ b) (hz : ∃ z : Int, w.cell? ⟨b, Y, none⟩ = some (.int .i64 z)) : tF T I S n wB G P I (upU u I (.pointer (some ⟨b, Y, none⟩))) w :=
  ⟨hG _, fun e => absurd e.symm hTI, fun _ => ⟨b, Y, upU_same _ _ _, hb, fun _ => hz⟩, fun e => absurd e hIS⟩
theorem tF_done {v : Value} (hTS : T ≠ S) (hIS : I ≠ S) (hG : ∀ v, G S v) (hP : P w) : tF T I S n wB G P S (upU u S v) w := ⟨hG _, fun e => absurd e.symm hTS, fun e => absurd e.symm hIS, fun _ => hP⟩
end

end Go.Proofs.Ytekoioggamhlaaa

namespace Go.Proofs.Ytekoioggamhlaaa
open Go.RowKit

/-- what is known while an image is drawn: the box of the answer, the box of the image -/
structure DM (p : Nat) (a : Option Addr) (len cap : Nat) (w : World) (X : Nat) (vs : List Value) (wr : World) : Prop where
  cur : Cur p a len cap wr
  kept : Kept p w wr
  res : Bx w.heap.size [.int .i64 0, .int .i64 0, .slice none 0 0] wr
  box : Bx X vs wr
  lt : w.heap.size < X ∧ X < wr.heap.size
theorem DM.step {p : Nat} {a : Option Addr} {len cap : Nat} {w : World} {X : Nat} {vs : List Value} {wr w' : World} (h : DM p a len cap w X vs wr) (hp : p < w.heap.size) (hc : Cur p a len cap w') (hk : Kept p wr w') : DM p a len cap w X vs w' :=
  ⟨hc, h.kept.trans hk, h.res.kept hk (by omega), h.box.kept hk (by have := h.lt; omega), ⟨h.lt.1, Nat.lt_of_lt_of_le h.lt.2 hk.size⟩⟩
theorem DM.set3 {p : Nat} {a : Option Addr} {len cap : Nat} {w : World} {X : Nat} {v0 v1 v2 : Value} {wr : World} (h : DM p a len cap w X [v0, v1, v2] wr) (hp : p < w.heap.size) (hab : len = 0 ∨ ∀ b off, a = some ⟨b, off, none⟩ → b < w.heap.size) (u0 u1 u2 : Value) :
    DM p a len cap w X [u0, u1, u2] (((wr.setCell ⟨X, 0, none⟩ u0).setCell ⟨X, 1, none⟩ u1).setCell ⟨X, 2, none⟩ u2) := by
  have hl := h.lt
  have hb := below_set3 (B := w.heap.size) wr X u0 u1 u2 (by omega)
  refine ⟨h.cur.belowB hb hp hab, h.kept.belowB hb (Nat.le_refl _), ?_, ?_, hl.1, by simpa using hl.2⟩
  · exact ((h.res.far (q := ⟨X, 0, none⟩) (by show X ≠ _; omega) _).far (q := ⟨X, 1, none⟩) (by show X ≠ _; omega) _).far (q := ⟨X, 2, none⟩) (by show X ≠ _; omega) _
  · exact ((h.box.set 0 u0).set 1 u1).set 2 u2
theorem Ow.set3 {x : Option Addr} {b m X : Nat} {f : Nat → Int} {w : World} (h : Ow x b m f w) (hb : m = 0 ∨ X ≠ b) (u0 u1 u2 : Value) : Ow x b m f (((w.setCell ⟨X, 0, none⟩ u0).setCell ⟨X, 1, none⟩ u1).setCell ⟨X, 2, none⟩ u2) := by
  rcases h with h | ⟨ha, h⟩
  · exact .inl h
  · rcases hb with hb | hb
    · exact .inl hb
    · exact .inr ⟨ha, ((h.set (p := ⟨X, 0, none⟩) hb _).set (p := ⟨X, 1, none⟩) hb _).set (p := ⟨X, 2, none⟩) hb _⟩

set_option maxRecDepth 100000 in
set_option maxHeartbeats 4000000 in
theorem drawGrey_any (hSp : Spoils) (p : Nat) (a : Option Addr) (len cap : Nat) (w : World) (h : Cur p a len cap w) (hp : p < w.heap.size) (hab : len = 0 ∨ ∀ b off, a = some ⟨b, off, none⟩ → b < w.heap.size) :
    Calls Try.prog 16 #[.pointer (some ⟨p, 0, none⟩)] w (DrawnY p a len cap 65 (fun b => w.heap.size ≤ b) w) := by
  have hb := bnew w (.cells #[.int .i64 0, .int .i64 0, .slice none 0 0] 26)
  have HX0 := hide (Bx.new [.int .i64 0, .int .i64 0, .slice none 0 0] 26 w)
  have hc1 := below_any p a len cap _ (h.below hb) 8 (by omega) (by omega)
  have HK0 := hide (Kept.of_below (p := p) hb)
  have hz : (w.alloc (.cells #[.int .i64 0, .int .i64 0, .slice none 0 0] 26)).heap.size = w.heap.size + 1 := by simp
  have HZ := hide hz
  have HAB := hide hab
  clear h hb hab hz
  go_enter Try.func16, Try.ntmps16
  go_wp2_with fail
  refine hc1.mono ?_
  rintro e w1 ⟨y1, rfl, l1, u1, hc, hk⟩
  have HX1 := hide (HX0.out.kept hk (by omega))
  have HK1 := hide (HK0.out.trans hk)
  have hs1 : w.heap.size + 1 ≤ w1.heap.size := by have := hk.size; rw [HZ.out] at this; exact this
  have hc2 := below_any p a len cap _ hc 8 (by omega) (by omega)
  have e1 : IntKind.i64.wrap (1 + y1) = 1 + y1 := by rw [IntKind.wrap_i64]; omega
  clear hc1 hc hk HX0 HK0 HZ
  go_wp2_with fail
  refine hc2.mono ?_
  rintro e w2 ⟨y2, rfl, l2, u2, hc, hk⟩
  have HX2 := hide (HX1.out.kept hk (by omega))
  have HK2 := hide (HK1.out.trans hk)
  have hs2 : w.heap.size + 1 ≤ w2.heap.size := Nat.le_trans hs1 hk.size
  have e2 : IntKind.i64.wrap (1 + y2) = 1 + y2 := by rw [IntKind.wrap_i64]; omega
  obtain ⟨n, hn, hn1, hn2⟩ : ∃ n : Nat, (1 + y1) * (1 + y2) = (n : Int) ∧ 0 < n ∧ n ≤ 64 := by
    have h1 : 0 < (1 + y1) * (1 + y2) := Int.mul_pos (by omega) (by omega)
    have h2 : (1 + y1) * (1 + y2) ≤ 8 * 8 := Int.mul_le_mul (by omega) (by omega) (by omega) (by omega)
    exact ⟨((1 + y1) * (1 + y2)).toNat, by omega, by omega, by omega⟩
  have HT : Hid (TabC 3 w2.heap.size (w2.alloc (.cells #[.int .i64 3, .int .i64 9, .int .i64 255] 2))) := tab_lit [3, 9, 255]
  have hbt := bnew w2 (.cells #[.int .i64 3, .int .i64 9, .int .i64 255] 2)
  have HCt := hide (hc.below hbt)
  have HKt : Hid (Kept p w (w2.alloc (.cells #[.int .i64 3, .int .i64 9, .int .i64 255] 2))) := HK2.out.trans (Kept.of_below hbt)
  have HXt := hide (HX2.out.below hbt (by omega))
  have hc3 := below_any p a len cap _ HCt.out 3 (by omega) (by omega)
  have hst : w2.heap.size < (w2.alloc (.cells #[.int .i64 3, .int .i64 9, .int .i64 255] 2)).heap.size := by simp
  have HPT : Hid (w2.heap.size ≠ p) := by show _ ≠ _; omega
  clear hc2 hc hk HX1 HK1 hbt
  go_wp2_with fail
  refine hc3.mono ?_
  rintro e w3 ⟨m, rfl, hm0, hm1, hc, hk⟩
  have hs3 : w2.heap.size < w3.heap.size := Nat.lt_of_lt_of_le hst hk.size
  have HX3 := hide (HXt.out.kept hk (by omega))
  have HK3 := hide (HKt.out.trans hk)
  obtain ⟨M, rfl⟩ : ∃ M : Nat, m = (M : Int) := ⟨m.toNat, by omega⟩
  have hMi : (M : Int) < 3 := by omega
  obtain ⟨Z, hz⟩ := (HT.out.kept hk HPT.out) M (by omega)
  have hcI := drawImage_any p a len cap (1 + y1) (1 + y2) 0 Z n hn (by omega) w3 hc (by omega) (HAB.out.imp id fun h b off e => by have := h b off e; omega)
  clear hc3 hc hk HCt HKt HXt HT hn hm1 hst
  generalize w2.heap.size = Tq at *
  go_wp2_with fail
  refine hcI.mono ?_
  clear hcI hz
  generalize 1 + y1 = W at *
  generalize 1 + y2 = H at *
  rintro e w4 ⟨o, f, rfl, hr, ho, hc, hk⟩
  have hs4 := hk.size
  have hol : o < w4.heap.size := World.block_lt_of_cell? w4 _ (hr 0 hn1).1
  have hb4 := bnew w4 (.cells #[.int .i64 W, .int .i64 H, .slice (some ⟨o, 0, none⟩) n n] 26)
  have HD : Hid (DM p a len cap w w4.heap.size [.int .i64 W, .int .i64 H, .slice (some ⟨o, 0, none⟩) n n] (w4.alloc (.cells #[.int .i64 W, .int .i64 H, .slice (some ⟨o, 0, none⟩) n n] 26))) :=
    ⟨hc.below hb4, (HK3.out.trans hk).trans (Kept.of_below hb4), (HX3.out.kept hk (by omega)).below hb4 (by omega), Bx.new [.int .i64 W, .int .i64 H, .slice (some ⟨o, 0, none⟩) n n] _ w4, by omega, by simp⟩
  have HRo := hide (hr.below hb4 hol)
  have HO : Hid (w.heap.size < o ∧ o < w4.heap.size) := ⟨by omega, hol⟩
  clear hr hc hk HX3 HK3 hb4 e1 e2
  go_upto_region 2 with fail
  generalize hw5 : w4.alloc (.cells #[.int .i64 W, .int .i64 H, .slice (some ⟨o, 0, none⟩) n n] 26) = w5 at *
  clear hw5
  have hc5 := once_any p a len cap _ HD.out.cur 16 (by omega) (by omega)
  generalize hX : w4.heap.size = X at *
  clear hX
  go_wp2_with fail
  refine hc5.mono ?_
  rintro e w5' ⟨q, rfl, hc, hk⟩
  have HD5 := hide (HD.out.step hp hc hk)
  have HR5 := hide (HRo.out.kept hk (by have := HO.out; omega))
  clear hc5 hc hk HD HRo
  have hX5 := HD5.out.lt
  go_upto_if 18 with fail
  go_cut [] (fun wc => ∃ (W' H' : Int) (x' : Option Addr) (b' m' c' : Nat) (f' : Nat → Int), m' ≤ 65 ∧ DM p a len cap w X [.int .i64 W', .int .i64 H', .slice x' m' c'] wc ∧ Ow x' b' m' f' wc ∧ (m' = 0 ∨ (w.heap.size < b' ∧ b' ≠ p ∧ b' ≠ X)))
  case first =>
    cases q
    · go_wp2_with fail
      go_meet
      exact ⟨W, H, _, o, n, n, f, by omega, HD5.out, .inr ⟨rfl, HR5.out⟩, .inr ⟨HO.out.1, by have := HO.out; omega, by have := HO.out; omega⟩⟩
    · have cS := hSp p a len cap W H o n n f (by omega) hn1 w5' HD5.out.cur (by omega) (HAB.out.imp id fun h b off e => by have := h b off e; omega) HR5.out (by have := HO.out; omega)
      obtain ⟨b0, p0⟩ := HD5.out.box 0 _ rfl
      obtain ⟨b1, p1⟩ := HD5.out.box 1 _ rfl
      obtain ⟨b2, p2⟩ := HD5.out.box 2 _ rfl
      go_wp2_with fail
      refine cS.mono ?_
      rintro e w6 ⟨W', H', x', b', m', c', f', rfl, hm', ho', hb', hc, hk⟩
      have HD6 := hide (HD5.out.step hp hc hk)
      have hX6 : m' = 0 ∨ (w.heap.size < b' ∧ b' ≠ p ∧ b' ≠ X) := by
        rcases hb' with h | ⟨h | h, h2⟩
        · exact .inl h
        · exact .inr ⟨by have := HO.out; omega, h2, by have := HO.out; omega⟩
        · exact .inr ⟨by omega, h2, by omega⟩
      have HD7 := hide (HD6.out.set3 hp HAB.out (.int .i64 W') (.int .i64 H') (.slice x' m' c'))
      have HO7 := hide (ho'.set3 (X := X) (hX6.imp id fun h => Ne.symm h.2.2) (.int .i64 W') (.int .i64 H') (.slice x' m' c'))
      have HX7 := hide hX6
      clear cS hc hk b0 p0 b1 p1 b2 p2 HD5 hX6 ho'
      obtain ⟨b0, p0⟩ := HD6.out.box 0 _ rfl
      obtain ⟨b1, p1⟩ := HD6.out.box 1 _ rfl
      obtain ⟨b2, p2⟩ := HD6.out.box 2 _ rfl
      go_wp2_with fail
      go_meet
      exact ⟨W', H', x', b', m', c', f', by omega, HD7.out, HO7.out, HX7.out⟩
  case rest =>
  obtain ⟨W', H', x', b', m', c', f', hm', hD', hP', hX'⟩ := hcut
  have HD7 := hide hD'
  have HO7 := hide hP'
  have HX7 := hide hX'
  have Hm7 := hide hm'
  clear hD' hP' hX' HD5 HR5 hm' hX5
  go_upto_region 4 with fail
  go_cut [29] (fun s wc => ∃ bq : Bool, s = .bool bq ∧ (bq = true → 0 < m') ∧ DM p a len cap w X [.int .i64 W', .int .i64 H', .slice x' m' c'] wc ∧ Ow x' b' m' f' wc)
  case first =>
    have hd := once_any p a len cap _ HD7.out.cur 20 (by omega) (by omega)
    go_wp2_with fail
    refine hd.mono ?_
    rintro e w8 ⟨q8, rfl, hc, hk⟩
    have HD8 := hide (HD7.out.step hp hc hk)
    have HO8 := hide (OwV.keptO (x := (x', b', m', fun k => .int .i64 (f' k))) HO7.out.v hk (fun h0 => (HX7.out.resolve_left h0).2.1))
    clear hd hc hk HD7 HO7
    obtain ⟨i2, f2⟩ := HD8.out.box 2 _ rfl
    cases q8
    · go_wp2_with fail
      go_meet
      exact ⟨_, rfl, fun h => by simp at h, HD8.out, HO8.out⟩
    · by_cases h0 : 0 < m'
      · have hni : (0 : Int) < (m' : Int) := by omega
        go_wp2_with fail
        go_meet
        exact ⟨_, rfl, fun _ => h0, HD8.out, HO8.out⟩
      · obtain rfl : m' = 0 := by omega
        go_wp2_with fail
        go_meet
        exact ⟨_, rfl, fun h => by simp at h, HD8.out, HO8.out⟩
  case rest =>
  obtain ⟨bq, rfl, hq0, hD', hO'⟩ := hcut
  have HD8 := hide hD'
  have HO8 := hide hO'
  clear hD' hO' HD7 HO7
  have HFIN : Hid (∀ f'' wz, DM p a len cap w X [.int .i64 W', .int .i64 H', .slice x' m' c'] wz → Ow x' b' m' f'' wz → DrawnY p a len cap 65 (fun b => w.heap.size ≤ b) w (.returned (im W' H' x' m' c')) (((wz.setCell ⟨w.heap.size, 0, none⟩ (.int .i64 W')).setCell ⟨w.heap.size, 1, none⟩ (.int .i64 H')).setCell ⟨w.heap.size, 2, none⟩ (.slice x' m' c'))) := fun f'' wz hD hO => by
    have hb3 := below_set3 (B := w.heap.size) wz w.heap.size (.int .i64 W') (.int .i64 H') (.slice x' m' c') (Nat.le_refl _)
    exact ⟨W', H', x', b', m', c', f'', rfl, Hm7.out, hO.set3 (HX7.out.imp id fun h => by omega) _ _ _, HX7.out.imp id fun h => ⟨Nat.le_of_lt h.1, h.2.1⟩, hD.cur.belowB hb3 hp HAB.out, hD.kept.belowB hb3 (Nat.le_refl _)⟩
  go_upto_if 29 with fail
  go_cut [] (fun wc => ∃ f'' : Nat → Int, DM p a len cap w X [.int .i64 W', .int .i64 H', .slice x' m' c'] wc ∧ Ow x' b' m' f'' wc)
  case first =>
    cases bq
    · go_wp2_with fail
      go_meet
      exact ⟨f', HD8.out, HO8.out⟩
    · have h0 := hq0 rfl
      rcases HO8.out with h00 | ⟨hxa, hro⟩
      · omega
      subst hxa
      have hbX := HX7.out.resolve_left (by omega)
      have hD8 := HD8.out
      have HBel : Hid (∀ w', Cur p a len cap w' → Calls Try.prog 17 #[.pointer (some ⟨p, 0, none⟩), .int .i64 3] w' (Drawn p a len cap w' 0 (3 - 1))) := fun w' h => below_any p a len cap w' h 3 (by omega) (by omega)
      have HPw : Hid (p < wc.heap.size) := Nat.lt_of_lt_of_le hp hD8.kept.size
      have HY0 : Hid (∀ w', Kept p wc w' → w'.cell? ⟨X, 2, none⟩ = some (.slice (some ⟨b', 0, none⟩) m' c')) := fun w' hk => hk.cell (a := ⟨X, 2, none⟩) (by show X ≠ p; have := hD8.lt; omega) (hD8.box 2 _ rfl).1
      have HYc : Hid (∀ w', Kept p wc w' → w'.cell? ⟨b', 0, none⟩ = some (.int .i64 (f' 0))) := fun w' hk => hk.cell (a := ⟨b', 0, none⟩) hbX.2.1 (hro 0 h0).1
      have HYf : Hid (∀ w', Kept p wc w' → w'.frozen? ⟨b', 0, none⟩ = false) := fun w' hk => (hk.frozen (a := ⟨b', 0, none⟩) hbX.2.1 (hro 0 h0).1).trans (hro 0 h0).2
      have HS : Hid (∀ (w1 : World) (z : Int), Cur p a len cap w1 → Kept p wc w1 → DM p a len cap w X [.int .i64 W', .int .i64 H', .slice (some ⟨b', 0, none⟩) m' c'] (w1.setCell ⟨b', 0, none⟩ (.int .i64 z)) ∧ Ow (some ⟨b', 0, none⟩) b' m' (fun q => if q = 0 then z else f' q) (w1.setCell ⟨b', 0, none⟩ (.int .i64 z))) := fun w1 z hc hk => by
        have hD1 := hD8.step hp hc hk
        have hb1 : Below w.heap.size w1 (w1.setCell ⟨b', 0, none⟩ (.int .i64 z)) := (Below.refl _ _).setCell (by show w.heap.size ≤ b'; omega) _
        refine ⟨⟨hc.belowB hb1 hp HAB.out, hD1.kept.belowB hb1 (Nat.le_refl _), hD1.res.far (q := ⟨b', 0, none⟩) (by show b' ≠ _; omega) _, hD1.box.far (q := ⟨b', 0, none⟩) (by show b' ≠ X; exact hbX.2.2) _, hD1.lt.1, by simpa using hD1.lt.2⟩, .inr ⟨rfl, (hro.kept hk hbX.2.1).put 0 z⟩⟩
      have h0n : 0 < m' := h0
      clear hD8 hro hbX
      go_upto_region 5 with fail
      obtain ⟨G, hG⟩ : ∃ G : Nat → Value → Prop, G = (fun j v => match j with | 0 => v = .pointer (some ⟨X, 2, none⟩) | 1 => v = .slice (some ⟨b', 0, none⟩) m' c' | 3 => v = .pointer (some ⟨p, 0, none⟩) | 4 => ∃ z : Nat, z < 3 ∧ v = .int .i64 ((z : Nat) : Int) | 6 => ∃ z : Int, v = .int .i64 z | 7 => v = .pointer (some ⟨b', 0, none⟩) | _ => True) := ⟨_, rfl⟩
      have G0 : Hid (∀ v, G 0 v ↔ v = .pointer (some ⟨X, 2, none⟩)) := fun v => by rw [hG]; exact Iff.rfl
      have G1 : Hid (∀ v, G 1 v ↔ v = .slice (some ⟨b', 0, none⟩) m' c') := fun v => by rw [hG]; exact Iff.rfl
      have G2 : Hid (∀ v, G 2 v) := fun v => by rw [hG]; trivial
      have G3 : Hid (∀ v, G 3 v ↔ v = .pointer (some ⟨p, 0, none⟩)) := fun v => by rw [hG]; exact Iff.rfl
      have G4 : Hid (∀ v, G 4 v ↔ ∃ z : Nat, z < 3 ∧ v = .int .i64 ((z : Nat) : Int)) := fun v => by rw [hG]; exact Iff.rfl
      have G5 : Hid (∀ v, G 5 v) := fun v => by rw [hG]; trivial
      have G6 : Hid (∀ v, G 6 v ↔ ∃ z : Int, v = .int .i64 z) := fun v => by rw [hG]; exact Iff.rfl
      have G7 : Hid (∀ v, G 7 v ↔ v = .pointer (some ⟨b', 0, none⟩)) := fun v => by rw [hG]; exact Iff.rfl
      have G8 : Hid (∀ v, G 8 v) := fun v => by rw [hG]; trivial
      clear hG
      obtain ⟨PP, hPP⟩ : ∃ P : World → Prop, P = (fun w => ∃ (w1 : World) (z : Int), w = w1.setCell ⟨b', 0, none⟩ (.int .i64 z) ∧ Cur p a len cap w1 ∧ Kept p wc w1) := ⟨_, rfl⟩
      have HPP := hide hPP
      clear hPP
      refine region_opsV (tR p a len cap 8 wc) (tF 2 5 8 3 wc G PP) (by kernel_rfl) (by kernel_rfl) (by kernel_rfl) (by kernel_rfl) (fun _ => ⟨HD8.out.cur.drewN 1, (Kept.refl _ _).drewN 1⟩) ?_ ?_
      · refine ⟨?_, ?_, ?_, ?_, ?_, ?_, ?_, ?_, ?_, trivial⟩
        ·
          intro u w21 au hsl hel hu hF hp' K hK
          have hU : u 8 = undef := (hu.out 8 (by decide) (.inr (by kernel_rfl))).trans (by kernel_rfl)
          obtain ⟨hC, hKp⟩ := hF hU
          have HU := hide hU
          have t3 : au.tmps[3]?.getD undef = .pointer (some ⟨X, 0, none⟩) := (hel.out 3 (by kernel_rfl)).trans (by kernel_rfl)
          clear hU
          refine step_plain rfl ?_
          go_simp
          exact hK.out (.pointer (some ⟨X, 2, none⟩)) _ (tR_up hF id (Kept.refl _ _) 0 (by omega) _) (tF_val 0 (by omega) (by omega) (by omega) ((G0.out _).2 rfl)) (fun j hj hf h => tF_up HPw.out (Kept.refl _ _) 0 (by omega) _ j hj (fun e => by subst e; exact absurd (Eq.trans (Eq.symm (by kernel_rfl)) hf) Bool.false_ne_true) h)
        ·
          intro u w21 au hsl hel hu hF hp' K hK
          have hU : u 8 = undef := (hu.out 8 (by decide) (.inr (by kernel_rfl))).trans (by kernel_rfl)
          obtain ⟨hC, hKp⟩ := hF hU
          have HU := hide hU
          have h0 : u 0 = .pointer (some ⟨X, 2, none⟩) := (G0.out _).1 (PreF.get hp' 0 (by kernel_rfl)).1
          have t30 : au.tmps[30]?.getD undef = u 0 := hsl.out 0 30 (by kernel_rfl)
          rw [h0] at t30
          clear hU
          have xc := HY0.out _ hKp
          refine step_plain rfl ?_
          go_simp
          exact hK.out (.slice (some ⟨b', 0, none⟩) m' c') _ (tR_up hF id (Kept.refl _ _) 1 (by omega) _) (tF_val 1 (by omega) (by omega) (by omega) ((G1.out _).2 rfl)) (fun j hj hf h => tF_up HPw.out (Kept.refl _ _) 1 (by omega) _ j hj (fun e => by subst e; exact absurd (Eq.trans (Eq.symm (by kernel_rfl)) hf) Bool.false_ne_true) h)
        ·
          intro u w21 au hsl hel hu hF hp' K hK
          have hU : u 8 = undef := (hu.out 8 (by decide) (.inr (by kernel_rfl))).trans (by kernel_rfl)
          obtain ⟨hC, hKp⟩ := hF hU
          have HU := hide hU
          clear hU
          have hb := bnew w21 (.cells #[.int .i64 (-1), .int .i64 255, .int .i64 256] 2)
          have HT : Hid (TabC 3 w21.heap.size (w21.alloc (.cells #[.int .i64 (-1), .int .i64 255, .int .i64 256] 2))) := tab_lit [(-1 : Int), (255 : Int), (256 : Int)]
          have HS := hide hKp.size
          refine step_plain rfl ?_
          go_simp
          exact hK.out (.slice (some ⟨w21.heap.size, 0, none⟩) 3 3) _ (tR_up hF (fun h => h.below hb) (Kept.of_below hb) 2 (by omega) _) (tF_tab (by omega) (by omega) G2.out HS.out HT.out) (fun j hj hf h => tF_up HPw.out (Kept.of_below hb) 2 (by omega) _ j hj (fun e => by subst e; exact absurd (Eq.trans (Eq.symm (by kernel_rfl)) hf) Bool.false_ne_true) h)
        ·
          intro u w21 au hsl hel hu hF hp' K hK
          have hU : u 8 = undef := (hu.out 8 (by decide) (.inr (by kernel_rfl))).trans (by kernel_rfl)
          obtain ⟨hC, hKp⟩ := hF hU
          have HU := hide hU
          have t0 : au.tmps[0]?.getD undef = .pointer (some ⟨p, 0, none⟩) := (hel.out 0 (by kernel_rfl)).trans (by kernel_rfl)
          clear hU
          refine step_plain rfl ?_
          go_simp
          exact hK.out (.pointer (some ⟨p, 0, none⟩)) _ (tR_up hF id (Kept.refl _ _) 3 (by omega) _) (tF_val 3 (by omega) (by omega) (by omega) ((G3.out _).2 rfl)) (fun j hj hf h => tF_up HPw.out (Kept.refl _ _) 3 (by omega) _ j hj (fun e => by subst e; exact absurd (Eq.trans (Eq.symm (by kernel_rfl)) hf) Bool.false_ne_true) h)
        ·
          intro u w21 au hsl hel hu hF hp' K hK
          have hU : u 8 = undef := (hu.out 8 (by decide) (.inr (by kernel_rfl))).trans (by kernel_rfl)
          obtain ⟨hC, hKp⟩ := hF hU
          have HU := hide hU
          have h3 : u 3 = .pointer (some ⟨p, 0, none⟩) := (G3.out _).1 (PreF.get hp' 3 (by kernel_rfl)).1
          have t33 : au.tmps[33]?.getD undef = u 3 := hsl.out 3 33 (by kernel_rfl)
          rw [h3] at t33
          clear hU
          have hd := HBel.out w21 hC
          refine step_plain rfl ?_
          go_simp
          refine hd.mono ?_
          rintro e w22 ⟨y, rfl, hy0, hy1, hc22, hk22⟩
          obtain ⟨Y, rfl⟩ : ∃ Y : Nat, y = (Y : Int) := ⟨y.toNat, by omega⟩
          have hYN : Y < 3 := by omega
          exact hK.out (.int .i64 (Y : Int)) _ (tR_up hF (fun _ => hc22) hk22 4 (by omega) _) (tF_val 4 (by omega) (by omega) (by omega) ((G4.out _).2 ⟨Y, hYN, rfl⟩)) (fun j hj hf h => tF_up HPw.out hk22 4 (by omega) _ j hj (fun e => by subst e; exact absurd (Eq.trans (Eq.symm (by kernel_rfl)) hf) Bool.false_ne_true) h)
        ·
          intro u w21 au hsl hel hu hF hp' K hK
          have hU : u 8 = undef := (hu.out 8 (by decide) (.inr (by kernel_rfl))).trans (by kernel_rfl)
          obtain ⟨hC, hKp⟩ := hF hU
          have HU := hide hU
          obtain ⟨b2, h2, hb2, ht2⟩ := (PreF.get hp' 2 (by kernel_rfl)).2.1 rfl
          have ht2 := ht2 hU
          have t32 : au.tmps[32]?.getD undef = u 2 := hsl.out 2 32 (by kernel_rfl)
          rw [h2] at t32
          obtain ⟨z4, hy4, h4⟩ := (G4.out _).1 (PreF.get hp' 4 (by kernel_rfl)).1
          have t34 : au.tmps[34]?.getD undef = u 4 := hsl.out 4 34 (by kernel_rfl)
          rw [h4] at t34
          clear hU
          have hz := ht2 z4 hy4
          have hyi : (z4 : Int) < 3 := by omega
          refine step_plain rfl ?_
          go_simp
          exact hK.out (.pointer (some ⟨b2, z4, none⟩)) _ (tR_up hF id (Kept.refl _ _) 5 (by omega) _) (tF_ix (by omega) (by omega) G5.out hb2 hz) (fun j hj hf h => tF_up HPw.out (Kept.refl _ _) 5 (by omega) _ j hj (fun e => by subst e; exact absurd (Eq.trans (Eq.symm (by kernel_rfl)) hf) Bool.false_ne_true) h)
        ·
          intro u w21 au hsl hel hu hF hp' K hK
          have hU : u 8 = undef := (hu.out 8 (by decide) (.inr (by kernel_rfl))).trans (by kernel_rfl)
          obtain ⟨hC, hKp⟩ := hF hU
          have HU := hide hU
          obtain ⟨b5, y5, h5, hb5, ht5⟩ := (PreF.get hp' 5 (by kernel_rfl)).2.2.1 rfl
          obtain ⟨z5, hz5⟩ := ht5 hU
          have t35 : au.tmps[35]?.getD undef = u 5 := hsl.out 5 35 (by kernel_rfl)
          rw [h5] at t35
          clear hU
          refine step_plain rfl ?_
          go_simp
          exact hK.out _ _ (tR_up hF id (Kept.refl _ _) 6 (by omega) _) (tF_val 6 (by omega) (by omega) (by omega) ((G6.out _).2 ⟨_, rfl⟩)) (fun j hj hf h => tF_up HPw.out (Kept.refl _ _) 6 (by omega) _ j hj (fun e => by subst e; exact absurd (Eq.trans (Eq.symm (by kernel_rfl)) hf) Bool.false_ne_true) h)
        ·
          intro u w21 au hsl hel hu hF hp' K hK
          have hU : u 8 = undef := (hu.out 8 (by decide) (.inr (by kernel_rfl))).trans (by kernel_rfl)
          obtain ⟨hC, hKp⟩ := hF hU
          have HU := hide hU
          have h1 : u 1 = .slice (some ⟨b', 0, none⟩) m' c' := (G1.out _).1 (PreF.get hp' 1 (by kernel_rfl)).1
          have t31 : au.tmps[31]?.getD undef = u 1 := hsl.out 1 31 (by kernel_rfl)
          rw [h1] at t31
          clear hU
          refine step_plain rfl ?_
          go_simp
          exact hK.out (.pointer (some ⟨b', 0, none⟩)) _ (tR_up hF id (Kept.refl _ _) 7 (by omega) _) (tF_val 7 (by omega) (by omega) (by omega) ((G7.out _).2 rfl)) (fun j hj hf h => tF_up HPw.out (Kept.refl _ _) 7 (by omega) _ j hj (fun e => by subst e; exact absurd (Eq.trans (Eq.symm (by kernel_rfl)) hf) Bool.false_ne_true) h)
        ·
          intro u w21 au hsl hel hu hF hp' K hK
          have hU : u 8 = undef := (hu.out 8 (by decide) (.inl rfl)).trans (by kernel_rfl)
          obtain ⟨hC, hKp⟩ := hF hU
          have HU := hide hU
          have h7 : u 7 = .pointer (some ⟨b', 0, none⟩) := (G7.out _).1 (PreF.get hp' 7 (by kernel_rfl)).1
          have t37 : au.tmps[37]?.getD undef = u 7 := hsl.out 7 37 (by kernel_rfl)
          rw [h7] at t37
          obtain ⟨z6, h6⟩ := (G6.out _).1 (PreF.get hp' 6 (by kernel_rfl)).1
          have t36 : au.tmps[36]?.getD undef = u 6 := hsl.out 6 36 (by kernel_rfl)
          rw [h6] at t36
          clear hU
          refine step_plain rfl ?_
          have xc := HYc.out _ hKp
          have xf := HYf.out _ hKp
          have HP : Hid (∃ (w1 : World) (z : Int), w21.setCell ⟨b', 0, none⟩ (.int .i64 z6) = w1.setCell ⟨b', 0, none⟩ (.int .i64 z) ∧ Cur p a len cap w1 ∧ Kept p wc w1) := ⟨w21, z6, rfl, hC, hKp⟩
          clear hC hKp
          go_simp
          exact hK.out (.bool true) _ (tR_st (by simp [undef])) (tF_done (by omega) (by omega) G8.out (by rw [HPP.out]; exact HP.out)) (fun j hj _ h => tF_st (by simp [undef]) j hj (by omega) (by omega) h)
      · intro u w30 hF hall
        have hP := (hall 8 (by decide)).2.2.2 rfl
        rw [HPP.out] at hP
        obtain ⟨w1, z', rfl, hC, hKp⟩ := hP
        have HE := hide (HS.out w1 z' hC hKp)
        clear hall hF hC hKp HD8 HO8
        simp only [rgPut, Act.put]
        go_simp
        go_wp2_with fail
        go_meet
        exact ⟨_, HE.out⟩
  case rest =>
    obtain ⟨f'', hD', hP'⟩ := hcut
    have HF := hide (HFIN.out f'' wc hD' hP')
    obtain ⟨b0, p0⟩ := hD'.box 0 _ rfl
    obtain ⟨b1, p1⟩ := hD'.box 1 _ rfl
    obtain ⟨b2, p2⟩ := hD'.box 2 _ rfl
    obtain ⟨q0, e0⟩ := hD'.res 0 _ rfl
    obtain ⟨q1, e1⟩ := hD'.res 1 _ rfl
    obtain ⟨q2, e2⟩ := hD'.res 2 _ rfl
    clear hD' hP' HD8 HO8 HX7 Hm7 HFIN
    go_wp2_with fail
    exact bodyPost_ret (v := im W' H' x' m' c') (by simp [results, Try.results16, go_sem, q0, q1, q2]) rfl HF.out

end Go.Proofs.Ytekoioggamhlaaa

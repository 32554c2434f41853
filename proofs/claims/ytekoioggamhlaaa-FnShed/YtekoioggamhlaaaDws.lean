/- An image and its seeds are drawn. -/
import Derived.Test.YtekoioggamhlaaaDsd
import Derived.Test.YtekoioggamhlaaaDgy
import Derived.Deep.CutBlock
namespace Go.Proofs.Ytekoioggamhlaaa
open Go.RowKit

theorem own_is0 {w : World} {B n m : Nat} {e : TypeId} {v : Value} {xs : List Value} (h : w.ownsRow B e m v n xs) : ∃ a cap, v = .slice a n cap := by
  obtain ⟨_, ⟨rfl, rfl⟩ | ⟨g, cap, cur, hv, _⟩⟩ := h
  · exact ⟨none, 0, rfl⟩
  · exact ⟨_, cap, hv⟩

set_option maxRecDepth 100000 in
set_option maxHeartbeats 4000000 in
theorem spoil0_any (p : Nat) (a : Option Addr) (len cap : Nat) (W H : Int) (o c : Nat) (w : World) (h : Cur p a len cap w) (hp : p < w.heap.size) (hab : len = 0 ∨ ∀ b off, a = some ⟨b, off, none⟩ → b < w.heap.size) :
    Calls Try.prog 19 #[.pointer (some ⟨p, 0, none⟩), im W H (some ⟨o, 0, none⟩) 0 c] w (DrawnY p a len cap 1 (fun b => w.heap.size ≤ b) w) := by
  have hb2 := bnext (bnew w (.cells #[.int .i64 W, .int .i64 H, .slice (some ⟨o, 0, none⟩) 0 c] 26)) (Nat.le_refl _) (bnew _ (.cells #[.int .i64 0, .int .i64 0, .slice none 0 0] 26))
  have HS0 : Hid (SP p a len cap w [.int .i64 W, .int .i64 H, .slice (some ⟨o, 0, none⟩) 0 c] ((w.alloc (.cells #[.int .i64 W, .int .i64 H, .slice (some ⟨o, 0, none⟩) 0 c] 26)).alloc (.cells #[.int .i64 0, .int .i64 0, .slice none 0 0] 26))) := by
    refine ⟨h.below hb2, Kept.of_below hb2, (Bx.new [.int .i64 W, .int .i64 H, .slice (some ⟨o, 0, none⟩) 0 c] 26 w).below (bnew _ _) (by simp), ?_, by simp⟩
    have := Bx.new [.int .i64 0, .int .i64 0, .slice none 0 0] 26 (w.alloc (.cells #[.int .i64 W, .int .i64 H, .slice (some ⟨o, 0, none⟩) 0 c] 26))
    simpa using this
  have c5 := below_any p a len cap _ HS0.out.cur 5 (by omega) (by omega)
  have HAB := hide hab
  clear h hb2 hab
  go_enter Try.func19, Try.ntmps19
  go_wp2_with fail
  refine c5.mono ?_
  rintro e w2 ⟨x, rfl, x0, x1, hc, hk⟩
  have HS := hide (HS0.out.step hp hc hk)
  clear c5 hc hk HS0
  go_upto_block 0 with fail
  go_cut [] (fun wc => ∃ (W' H' : Int) (x' : Option Addr) (b' m' c' : Nat) (f' : Nat → Int), m' ≤ 1 ∧ SP p a len cap w [.int .i64 W', .int .i64 H', .slice x' m' c'] wc ∧ Ow x' b' m' f' wc ∧ (m' = 0 ∨ (w.heap.size ≤ b' ∧ b' ≠ p ∧ b' ≠ w.heap.size + 1)))
  case first =>
    have hx : x = 0 ∨ x = 1 ∨ x = 2 ∨ x = 3 ∨ x = 4 := by omega
    clear x0 x1
    rcases hx with rfl | rfl | rfl | rfl | rfl
    · have HSe := hide (HS.out.set hp HAB.out 0 (.int .i64 (wrap64 (W + 1))))
      obtain ⟨b0, p0⟩ := HS.out.box 0 _ rfl
      obtain ⟨b1, p1⟩ := HS.out.box 1 _ rfl
      obtain ⟨b2, p2⟩ := HS.out.box 2 _ rfl
      obtain ⟨q0, e0⟩ := HS.out.res 0 _ rfl
      obtain ⟨q1, e1⟩ := HS.out.res 1 _ rfl
      obtain ⟨q2, e2⟩ := HS.out.res 2 _ rfl
      go_wp2_with fail
      go_meet
      exact ⟨_, _, _, 0, 0, _, fun _ => 0, by omega, HSe.out, .inl rfl, .inl rfl⟩
    · have cO := odd_any p a len cap _ HS.out.cur
      go_wp2_with fail
      refine cO.mono ?_
      rintro e w3 ⟨y, rfl, hc, hk⟩
      have HS3 := hide (HS.out.step hp hc hk)
      clear cO hc hk HS
      have HSe := hide (HS3.out.set hp HAB.out 1 (.int .i64 y))
      obtain ⟨b0, p0⟩ := HS3.out.box 0 _ rfl
      obtain ⟨b1, p1⟩ := HS3.out.box 1 _ rfl
      obtain ⟨b2, p2⟩ := HS3.out.box 2 _ rfl
      obtain ⟨q0, e0⟩ := HS3.out.res 0 _ rfl
      obtain ⟨q1, e1⟩ := HS3.out.res 1 _ rfl
      obtain ⟨q2, e2⟩ := HS3.out.res 2 _ rfl
      go_wp2_with fail
      go_meet
      exact ⟨_, _, _, 0, 0, _, fun _ => 0, by omega, HSe.out, .inl rfl, .inl rfl⟩
    · obtain ⟨ti, hi1, hi2, hi3, hi4⟩ := info2
      have HI1 := hide hi1
      have HE := hide (World.ownsRow_lit (e := 2) (size := 1) w2 #[] 0 (Nat.le_refl _) (by unfold maxLen; omega) rfl)
      have HBe := hide (bnew w2 (.cells #[] 2))
      have sB : w.heap.size < w2.heap.size := by have := HS.out.sz; omega
      have sR : w.heap.size + 1 < w2.heap.size := by have := HS.out.sz; omega
      have HCe : Hid (∀ j, j < 0 * 1 → (w2.alloc (.cells #[] 2)).cell? ⟨o, j, none⟩ = some (.int .i64 (([] : List Int).getD j 0))) := fun j hj => by omega
      have M1 : Hid (([] : List Int).length = 0 * 1) := by show _ = _; rfl
      have M2 : Hid (0 + 0 ≤ maxLen) := by show _ ≤ _; unfold maxLen; omega
      have M3 : Hid ((0 + 0) * 8 ≤ 140737488355328) := by show _ ≤ _; omega
      have M4 : Hid (w2.heap.size ≤ (w2.alloc (.cells #[] 2)).heap.size) := HBe.out.size
      obtain ⟨b0, p0⟩ := HS.out.box 0 _ rfl
      obtain ⟨b1, p1⟩ := HS.out.box 1 _ rfl
      obtain ⟨b2, p2⟩ := HS.out.box 2 _ rfl
      obtain ⟨q0, e0⟩ := HS.out.res 0 _ rfl
      obtain ⟨q1, e1⟩ := HS.out.res 1 _ rfl
      obtain ⟨q2, e2⟩ := HS.out.res 2 _ rfl
      clear hi1
      go_wp2_with (refine growFrom _ rfl _ _ 24 rfl w2.heap.size 2 ti (.int .i64 0) 1 8 Try.underlying24 HI1.out hi2 hi3 hi4 rfl (by omega) _ 0 [] rfl w2 HE.out HBe.out M4.out ([] : List Int) o 0 c rfl M1.out HCe.out M2.out M3.out ?_)
      intro v' w' ho' hb' hb''
      have ho2 : w'.ownsRow w2.heap.size 2 1 v' 0 (ints ([] : List Int)) := by
        simpa using ho'
      obtain ⟨a1, cap1, rfl⟩ := own_is0 ho2
      have hsz := hb'.size
      have HS3 := hide (HS.out.grown hp HAB.out (hb'.mono HS.out.sz))
      have HO2 := hide ho2
      clear ho' ho2 hb' hb'' HE HBe HCe M1 M2 M3 M4 HS b0 p0 b1 p1 b2 p2 q0 e0 q1 e1 q2 e2
      have HS4 := hide (HS3.out.set hp HAB.out 2 (.slice a1 0 cap1))
      have HO4 := hide (owns_kept HO2.out (Kept.setCell (a := ⟨w.heap.size, 2, none⟩) (Kept.refl w.heap.size w') rfl (.slice a1 0 cap1)) sB)
      have G1 : Hid (w2.heap.size ≤ (w'.setCell ⟨w.heap.size, 2, none⟩ (.slice a1 0 cap1)).heap.size) := by
        show _ ≤ _
        simp
        omega
      have G2 : Hid (0 + 1 ≤ maxLen) := by show _ ≤ _; unfold maxLen; omega
      have G3 : Hid ((0 + 1) * 8 ≤ 140737488355328) := by show _ ≤ _; omega
      obtain ⟨b0, p0⟩ := HS3.out.box 0 _ rfl
      obtain ⟨b1, p1⟩ := HS3.out.box 1 _ rfl
      obtain ⟨b2, p2⟩ := HS3.out.box 2 _ rfl
      obtain ⟨q0, e0⟩ := HS3.out.res 0 _ rfl
      obtain ⟨q1, e1⟩ := HS3.out.res 1 _ rfl
      obtain ⟨q2, e2⟩ := HS3.out.res 2 _ rfl
      clear HO2
      go_upto_region 8 with fail
      clear HS3 b0 p0 b1 p1 b2 p2 q0 e0 q1 e1 q2 e2
      generalize w'.setCell ⟨w.heap.size, 2, none⟩ (.slice a1 0 cap1) = w4 at *
      have HS4' : Hid (SP p a len cap w [.int .i64 W, .int .i64 H, .slice a1 0 cap1] w4) := HS4.out
      clear HS4
      generalize hv4 : Value.slice a1 0 cap1 = v4 at *
      have HV4 := hide hv4
      clear hv4
      have HBr := hide (Below.refl w2.heap.size w4)
      have sB' : w.heap.size < w4.heap.size := by have := G1.out; omega
      obtain ⟨b0, p0⟩ := HS4'.out.box 0 _ rfl
      obtain ⟨b1, p1⟩ := HS4'.out.box 1 _ rfl
      obtain ⟨b2, p2⟩ := HS4'.out.box 2 _ rfl
      obtain ⟨q0, e0⟩ := HS4'.out.res 0 _ rfl
      obtain ⟨q1, e1⟩ := HS4'.out.res 1 _ rfl
      obtain ⟨q2, e2⟩ := HS4'.out.res 2 _ rfl
      go_wp2_with (at_builtin; refine grow w4 rfl (.tmp 26) (.tmp 27) 24 rfl w2.heap.size 2 ti (.int .i64 0) 1 8 Try.underlying24 HI1.out hi2 hi3 hi4 rfl (by omega) v4 0 ([] : List Int) rfl _ HO4.out HBr.out G1.out [0] 1 1 rfl rfl G2.out G3.out ?_)
      intro v5 w5 ho5 hb5 hs5
      obtain ⟨a2, cap2, b5, rfl, ow5, hB5, hlt5⟩ := ow_of_some ho5 (by omega)
      rw [Nat.mul_one] at ow5
      have HS5 : Hid (SP p a len cap w [.int .i64 W, .int .i64 H, v4] w5) := HS4'.out.grown hp HAB.out (hb5.mono (by omega))
      have HSe := hide (HS5.out.set hp HAB.out 2 (.slice a2 (0 + 1) cap2))
      have hxe : ∀ b off, a2 = some ⟨b, off, none⟩ → b ≠ w.heap.size + 1 ∧ b ≠ w.heap.size := fun b off e => by
        rcases ow5 with h | ⟨e2, -⟩
        · omega
        · rw [e2] at e; cases e; omega
      have hpe : Ow a2 b5 (0 + 1) (fun q => ([0] : List Int).getD q 0) (w5.setCell ⟨w.heap.size, 2, none⟩ (.slice a2 (0 + 1) cap2)) := by
        refine ow5.kept (Kept.setCell (a := ⟨w.heap.size, 2, none⟩) (Kept.refl w.heap.size w5) rfl (.slice a2 (0 + 1) cap2)) (by omega)
      have HB5 : Hid (w.heap.size ≤ b5 ∧ b5 ≠ p ∧ b5 ≠ w.heap.size + 1) := ⟨by omega, by omega, by omega⟩
      have HPe := hide hpe
      have HXe := hide hxe
      clear b0 p0 b1 p1 b2 p2 q0 e0 q1 e1 q2 e2
      obtain ⟨b0, p0⟩ := HS5.out.box 0 _ rfl
      obtain ⟨b1, p1⟩ := HS5.out.box 1 _ rfl
      obtain ⟨b2, p2⟩ := HS5.out.box 2 _ rfl
      obtain ⟨q0, e0⟩ := HS5.out.res 0 _ rfl
      obtain ⟨q1, e1⟩ := HS5.out.res 1 _ rfl
      obtain ⟨q2, e2⟩ := HS5.out.res 2 _ rfl
      clear HS4' HO4 G1 G2 G3 HBr ho5 hb5 hs5 ow5 hpe hxe HS5
      go_wp2_with fail
      go_meet
      exact ⟨_, _, _, b5, _, _, _, by omega, HSe.out, HPe.out, .inr HB5.out⟩
    · obtain ⟨b0, p0⟩ := HS.out.box 0 _ rfl
      obtain ⟨b1, p1⟩ := HS.out.box 1 _ rfl
      obtain ⟨b2, p2⟩ := HS.out.box 2 _ rfl
      go_wp2_with fail
      go_meet
      exact ⟨_, _, _, 0, 0, _, fun _ => 0, by omega, HS.out, .inl rfl, .inl rfl⟩
    · have HSe := hide (((HS.out.set hp HAB.out 0 (.int .i64 0)).set hp HAB.out 1 (.int .i64 0)).set hp HAB.out 2 (.slice none 0 0))
      obtain ⟨b0, p0⟩ := HS.out.box 0 _ rfl
      obtain ⟨b1, p1⟩ := HS.out.box 1 _ rfl
      obtain ⟨b2, p2⟩ := HS.out.box 2 _ rfl
      obtain ⟨q0, e0⟩ := HS.out.res 0 _ rfl
      obtain ⟨q1, e1⟩ := HS.out.res 1 _ rfl
      obtain ⟨q2, e2⟩ := HS.out.res 2 _ rfl
      go_wp2_with fail
      go_meet
      exact ⟨0, 0, none, 0, 0, 0, fun _ => 0, by omega, HSe.out, .inl rfl, .inl rfl⟩
  case rest => as_aux_lemma =>
    obtain ⟨W', H', x', b', m', c', f', hm', hS', hP', hX'⟩ := hcut
    obtain ⟨b0, p0⟩ := hS'.box 0 _ rfl
    obtain ⟨b1, p1⟩ := hS'.box 1 _ rfl
    obtain ⟨b2, p2⟩ := hS'.box 2 _ rfl
    obtain ⟨q0, e0⟩ := hS'.res 0 _ rfl
    obtain ⟨q1, e1⟩ := hS'.res 1 _ rfl
    obtain ⟨q2, e2⟩ := hS'.res 2 _ rfl
    have HE := hide (SP.ends (Q := fun b => w.heap.size ≤ b) hS' hp HAB.out hm' hP' hX')
    clear hS' hP' hX' HS
    go_wp2_with fail
    exact bodyPost_ret (v := im W' H' x' m' c') (by simp [results, Try.results19, go_sem, q0, q1, q2]) rfl HE.out

end Go.Proofs.Ytekoioggamhlaaa

namespace Go.Proofs.Ytekoioggamhlaaa
open Go.RowKit

theorem Ow.keptY {x : Option Addr} {b m p : Nat} {f : Nat → Int} {w w' : World} (h : Ow x b m f w) (hk : Kept p w w') (hb : m = 0 ∨ b ≠ p) : Ow x b m f w' := by
  rcases h with h | ⟨ha, h⟩
  · exact .inl h
  · rcases hb with hb | hb
    · exact .inl hb
    · exact .inr ⟨ha, h.kept hk hb⟩
theorem Ow.farY {x : Option Addr} {b m : Nat} {f : Nat → Int} {w : World} (h : Ow x b m f w) {q : Addr} (hb : m = 0 ∨ q.block ≠ b) (v : Value) : Ow x b m f (w.setCell q v) := by
  rcases h with h | ⟨ha, h⟩
  · exact .inl h
  · rcases hb with hb | hb
    · exact .inl hb
    · exact .inr ⟨ha, h.set hb v⟩
theorem Ow.belowY {x : Option Addr} {b m : Nat} {f : Nat → Int} {w w' : World} (h : Ow x b m f w) (hb : Below w.heap.size w w') : Ow x b m f w' := h.below' hb
theorem bytes_ltW {a : Option Addr} {len : Nat} {w : World} (h : Bytes a len w) {B : Nat} (hB : w.heap.size ≤ B) : len = 0 ∨ ∀ b off, a = some ⟨b, off, none⟩ → b < B := by
  by_cases h0 : len = 0
  · exact .inl h0
  · refine .inr fun b off e => ?_
    rcases h.2 with h1 | ⟨b', off', ha, hb⟩
    · exact absurd h1 h0
    · obtain ⟨z, _, _, hz⟩ := hb 0 (by omega)
      rw [e] at ha
      cases ha
      exact Nat.lt_of_lt_of_le (World.block_lt_of_cell? w _ hz) hB
/-- an image in box X, its seeds in box Y, the cursor at p; wp: the world once the cursor is there -/
structure DW (p : Nat) (a : Option Addr) (len cap : Nat) (wp : World) (X : Nat) (v5 : List Value) (x : Option Addr) (b m : Nat) (f : Nat → Int) (Y : Nat) (v6 : List Value) (x' : Option Addr) (b' m' : Nat) (f' : Nat → Int) (wr : World) : Prop where
  cur : Cur p a len cap wr
  kept : Kept p wp wr
  bx : Bx X v5 wr
  by' : Bx Y v6 wr
  img : Ow x b m f wr
  sd : Ow x' b' m' f' wr
  lt : wp.heap.size ≤ X ∧ wp.heap.size ≤ Y ∧ X ≠ Y ∧ X < wr.heap.size ∧ Y < wr.heap.size
  ib : m = 0 ∨ (wp.heap.size ≤ b ∧ b ≠ X ∧ b ≠ Y)
  sb : m' = 0 ∨ (wp.heap.size ≤ b' ∧ b' ≠ X ∧ b' ≠ Y ∧ (m = 0 ∨ b' ≠ b))
section
variable {p : Nat} {a : Option Addr} {len cap : Nat} {wp : World} {X : Nat} {v5 : List Value} {x : Option Addr} {b m : Nat} {f : Nat → Int} {Y : Nat} {v6 : List Value} {x' : Option Addr} {b' m' : Nat} {f' : Nat → Int} {wr w' : World}
theorem DW.step (h : DW p a len cap wp X v5 x b m f Y v6 x' b' m' f' wr) (hp : p < wp.heap.size) (hc : Cur p a len cap w') (hk : Kept p wr w') : DW p a len cap wp X v5 x b m f Y v6 x' b' m' f' w' := by
  have hl := h.lt
  have hs := hk.size
  exact ⟨hc, h.kept.trans hk, h.bx.kept hk (by omega), h.by'.kept hk (by omega), h.img.keptY hk (h.ib.imp id fun h => by omega), h.sd.keptY hk (h.sb.imp id fun h => by omega), ⟨hl.1, hl.2.1, hl.2.2.1, by omega, by omega⟩, h.ib, h.sb⟩
theorem DW.store (h : DW p a len cap wp X v5 x b m f Y v6 x' b' m' f' wr) (hp : p < wp.heap.size) (hab : len = 0 ∨ ∀ b off, a = some ⟨b, off, none⟩ → b < wp.heap.size) {k : Nat} (hk : k < m') (z : Int) :
    ∃ f'', DW p a len cap wp X v5 x b m f Y v6 x' b' m' f'' (wr.setCell ⟨b', k, none⟩ (.int .i64 z)) := by
  have hl := h.lt
  obtain ⟨s1, s2, s3, s4⟩ := h.sb.resolve_left (by omega)
  have hb1 : Below wp.heap.size wr (wr.setCell ⟨b', k, none⟩ (.int .i64 z)) := (Below.refl _ _).setCell (by show wp.heap.size ≤ b'; omega) _
  refine ⟨fun q => if q = k then z else f' q, h.cur.belowB hb1 hp hab, h.kept.belowB hb1 (Nat.le_refl _), h.bx.far (q := ⟨b', k, none⟩) s2 _, h.by'.far (q := ⟨b', k, none⟩) s3 _, h.img.farY (q := ⟨b', k, none⟩) s4 _, ?_, ⟨hl.1, hl.2.1, hl.2.2.1, by simpa using hl.2.2.2.1, by simpa using hl.2.2.2.2⟩, h.ib, h.sb⟩
  rcases h.sd with h0 | ⟨ha, hr⟩
  · omega
  · exact .inr ⟨ha, hr.put k z⟩
/-- other seeds are put into the box -/
theorem DW.put (h : DW p a len cap wp X v5 x b m f Y v6 x' b' m' f' wr) (hp : p < wp.heap.size) (hab : len = 0 ∨ ∀ b off, a = some ⟨b, off, none⟩ → b < wp.heap.size) (h6 : v6.length = 3) {b2 m2 : Nat} {x2 : Option Addr} {f2 : Nat → Int} (ho : Ow x2 b2 m2 f2 wr) (hb : m2 = 0 ∨ (wp.heap.size ≤ b2 ∧ b2 ≠ X ∧ b2 ≠ Y ∧ (m = 0 ∨ b2 ≠ b))) (u0 u1 u2 : Value) :
    DW p a len cap wp X v5 x b m f Y [u0, u1, u2] x2 b2 m2 f2 (((wr.setCell ⟨Y, 0, none⟩ u0).setCell ⟨Y, 1, none⟩ u1).setCell ⟨Y, 2, none⟩ u2) := by
  have hl := h.lt
  have hb1 := below_set3 (B := wp.heap.size) wr Y u0 u1 u2 hl.2.1
  obtain ⟨q0, q1, q2, rfl⟩ : ∃ q0 q1 q2, v6 = [q0, q1, q2] := by
    match v6, h6 with
    | [q0, q1, q2], _ => exact ⟨q0, q1, q2, rfl⟩
  have hY : X ≠ Y := hl.2.2.1
  refine ⟨h.cur.belowB hb1 hp hab, h.kept.belowB hb1 (Nat.le_refl _), ?_, ((h.by'.set 0 u0).set 1 u1).set 2 u2, ?_, ?_, ⟨hl.1, hl.2.1, hl.2.2.1, by simpa using hl.2.2.2.1, by simpa using hl.2.2.2.2⟩, h.ib, hb⟩
  · exact ((h.bx.far (q := ⟨Y, 0, none⟩) (Ne.symm hY) _).far (q := ⟨Y, 1, none⟩) (Ne.symm hY) _).far (q := ⟨Y, 2, none⟩) (Ne.symm hY) _
  · exact Ow.set3 h.img (h.ib.imp id fun h => Ne.symm h.2.2) _ _ _
  · exact Ow.set3 ho (hb.imp id fun h => Ne.symm h.2.2.1) _ _ _
end
/-- an image and its seeds are drawn -/
def DWR (w : World) (e : Ending) (w' : World) : Prop := ∃ (W H : Int) (x : Option Addr) (m c : Nat) (f : Nat → Int) (W' H' : Int) (x' : Option Addr) (m' c' : Nat) (f' : Nat → Int), e = .returned (.tuple #[im W H x m c, im W' H' x' m' c']) ∧ m ≤ 65 ∧ m' ≤ 66 ∧ Px x m f w' ∧ Px x' m' f' w' ∧ Below w.heap.size w w'
/-- until the store the cursor turns and what was there stays; what each operation leaves: a value -/
def dF (S : Nat) (G : Nat → Value → Prop) (P : World → Prop) (j : Nat) (u : Nat → Value) (w : World) : Prop := G j (u j) ∧ (j = S → P w)
section
variable {S : Nat} {G : Nat → Value → Prop} {P : World → Prop} {u : Nat → Value} {w w' : World}
theorem dF_val (j : Nat) (hS : j ≠ S) {v : Value} (h : G j v) : dF S G P j (upU u j v) w := ⟨by rw [upU_same]; exact h, fun e => absurd e hS⟩
theorem dF_up (i : Nat) (v : Value) (j : Nat) (hj : j ≠ i) (hjS : j ≠ S) (h : dF S G P j u w) : dF S G P j (upU u i v) w' := ⟨by rw [upU_other u v hj]; exact h.1, fun e => absurd e hjS⟩
theorem dF_done {v : Value} (hG : ∀ v, G S v) (hP : P w) : dF S G P S (upU u S v) w := ⟨hG _, fun _ => hP⟩
theorem dF_st {v : Value} (j : Nat) (hj : j ≠ S) (h : dF S G P j u w) : dF S G P j (upU u S v) w' := ⟨by rw [upU_other u v hj]; exact h.1, fun e => absurd e hj⟩
end

/-- two images are put into the boxes of the results, in either order: what stays -/
def eR (w0 : World) (R1 : Nat) (v5 v6 : List Value) (X Y : Nat) (x : Option Addr) (m : Nat) (f : Nat → Int) (x' : Option Addr) (m' : Nat) (f' : Nat → Int) (_ : Nat → Value) (w : World) : Prop :=
  Below w0.heap.size w0 w ∧ Px x m f w ∧ Px x' m' f' w ∧ Bx X v5 w ∧ Bx Y v6 w ∧ (∃ q0 q1 q2, Bx w0.heap.size [q0, q1, q2] w) ∧ (∃ q0 q1 q2, Bx R1 [q0, q1, q2] w)
/-- what each operation leaves -/
def eF (w0 : World) (R1 : Nat) (v5 v6 : List Value) (V5 V6 : Value) (j : Nat) (u : Nat → Value) (w : World) : Prop :=
  (j = 0 → u 0 = V5) ∧ (j = 1 → u 1 = V6) ∧ (j = 2 → Bx w0.heap.size v5 w) ∧ (j = 3 → Bx R1 v6 w)
theorem Px.far3 {x : Option Addr} {m : Nat} {f : Nat → Int} {w : World} {R : Nat} (h : Px x m f w) (hR : m = 0 ∨ ∀ b off, x = some ⟨b, off, none⟩ → b ≠ R) (u0 u1 u2 : Value) : Px x m f (((w.setCell ⟨R, 0, none⟩ u0).setCell ⟨R, 1, none⟩ u1).setCell ⟨R, 2, none⟩ u2) := by
  rcases h with h | ⟨b, off, ha, h⟩
  · exact .inl h
  · by_cases h0 : m = 0
    · exact .inl h0
    have hne := hR.resolve_left h0 b off ha
    refine .inr ⟨b, off, ha, fun k hk => ?_⟩
    have e : ∀ (w : World) (i : Nat) (u : Value), (w.setCell ⟨R, i, none⟩ u).cell? ⟨b, off + k, none⟩ = w.cell? ⟨b, off + k, none⟩ := fun w i u => World.cell?_of_block (w := w) (a := ⟨b, off + k, none⟩) (heap_setCell_other w ⟨R, i, none⟩ b _ hne)
    rw [e, e, e, h k hk]
theorem Bx.far3 {X : Nat} {vs : List Value} {w : World} {R : Nat} (h : Bx X vs w) (hR : X ≠ R) (u0 u1 u2 : Value) : Bx X vs (((w.setCell ⟨R, 0, none⟩ u0).setCell ⟨R, 1, none⟩ u1).setCell ⟨R, 2, none⟩ u2) :=
  ((h.far (q := ⟨R, 0, none⟩) (Ne.symm hR) _).far (q := ⟨R, 1, none⟩) (Ne.symm hR) _).far (q := ⟨R, 2, none⟩) (Ne.symm hR) _
theorem eF_up {w0 : World} {R1 : Nat} {v5 v6 : List Value} {V5 V6 : Value} {u : Nat → Value} {w : World} (i : Nat) (v : Value) (j : Nat) (hj : j ≠ i) (h : eF w0 R1 v5 v6 V5 V6 j u w) : eF w0 R1 v5 v6 V5 V6 j (upU u i v) w := by
  obtain ⟨h1, h2, h3, h4⟩ := h
  refine ⟨fun e => ?_, fun e => ?_, h3, h4⟩
  · rw [upU_other u v (by omega)]; exact h1 e
  · rw [upU_other u v (by omega)]; exact h2 e
/-- after a store into box R -/
theorem eF_st {w0 : World} {R1 : Nat} {v5 v6 : List Value} {V5 V6 : Value} {u : Nat → Value} {w : World} {R : Nat} (i : Nat) (v : Value) (j : Nat) (hj : j ≠ i) (h2 : j = 2 → w0.heap.size ≠ R) (h3 : j = 3 → R1 ≠ R) (u0 u1 u2 : Value) (h : eF w0 R1 v5 v6 V5 V6 j u w) : eF w0 R1 v5 v6 V5 V6 j (upU u i v) (((w.setCell ⟨R, 0, none⟩ u0).setCell ⟨R, 1, none⟩ u1).setCell ⟨R, 2, none⟩ u2) := by
  obtain ⟨g1, g2, g3, g4⟩ := h
  refine ⟨fun e => ?_, fun e => ?_, fun e => (g3 e).far3 (h2 e) _ _ _, fun e => (g4 e).far3 (h3 e) _ _ _⟩
  · rw [upU_other u v (by omega)]; exact g1 e
  · rw [upU_other u v (by omega)]; exact g2 e

end Go.Proofs.Ytekoioggamhlaaa

namespace Go.Proofs.Ytekoioggamhlaaa
open Go.RowKit

theorem cell_far3 {w : World} {X R j : Nat} {v : Value} (h : w.cell? ⟨X, j, none⟩ = some v) (hn : X ≠ R) (u0 u1 u2 : Value) : (((w.setCell ⟨R, 0, none⟩ u0).setCell ⟨R, 1, none⟩ u1).setCell ⟨R, 2, none⟩ u2).cell? ⟨X, j, none⟩ = some v := by
  have e : ∀ (w : World) (i : Nat) (u : Value), (w.setCell ⟨R, i, none⟩ u).cell? ⟨X, j, none⟩ = w.cell? ⟨X, j, none⟩ := fun w i u => World.cell?_of_block (w := w) (a := ⟨X, j, none⟩) (heap_setCell_other w ⟨R, i, none⟩ X _ hn)
  rw [e, e, e, h]

theorem cell_far3d {w : World} {X R j : Nat} {v : Value} (h : w.cell? ⟨X, j, none⟩ = some v) (hn : X ≠ R) (u0 u1 u2 : Value) : (((w.setCell ⟨R, 0, none⟩ u0).setCell ⟨R, 1, none⟩ u1).setCell ⟨R, 2, none⟩ u2).drew.cell? ⟨X, j, none⟩ = some v := cell_far3 h hn u0 u1 u2

theorem spoilA_any (p : Nat) (a : Option Addr) (len cap : Nat) (W H : Int) (o n c : Nat) (f : Nat → Int) (hn : n ≤ 1000) (w : World) (h : Cur p a len cap w) (hp : p < w.heap.size) (hab : len = 0 ∨ ∀ b off, a = some ⟨b, off, none⟩ → b < w.heap.size) (ho : Ow (some ⟨o, 0, none⟩) o n f w) (hop : n = 0 ∨ o ≠ p) :
    Calls Try.prog 19 #[.pointer (some ⟨p, 0, none⟩), im W H (some ⟨o, 0, none⟩) n c] w (DrawnY p a len cap (n + 1) (fun b => (0 < n ∧ b = o) ∨ w.heap.size ≤ b) w) := by
  by_cases h0 : n = 0
  · subst h0
    refine (spoil0_any p a len cap W H o c w h hp hab).mono ?_
    rintro e w' ⟨W', H', x', b', m', c', f', rfl, hm, ho', hb, hc, hk⟩
    exact ⟨W', H', x', b', m', c', f', rfl, by omega, ho', hb.imp id fun h => ⟨.inr h.1, h.2⟩, hc, hk⟩
  · rcases ho with h1 | ⟨-, hr⟩
    · exact absurd h1 h0
    · refine (spoil_any p a len cap W H o n c f hn (by omega) w h hp hab hr (hop.resolve_left h0)).mono ?_
      rintro e w' ⟨W', H', x', b', m', c', f', rfl, hm, ho', hb, hc, hk⟩
      exact ⟨W', H', x', b', m', c', f', rfl, hm, ho', hb.imp id fun h => ⟨h.1.imp (fun e => ⟨by omega, e⟩) id, h.2⟩, hc, hk⟩

set_option maxRecDepth 100000 in
set_option maxHeartbeats 8000000 in
theorem drawWatershed_any (a : Option Addr) (len cap : Nat) (w : World) (h : Bytes a len w) :
    Calls Try.prog 6 #[.slice a len cap] w (DWR w) := by
  have HX : Hid (Bx w.heap.size [.int .i64 0, .int .i64 0, .slice none 0 0] ((w.alloc (.cells #[.int .i64 0, .int .i64 0, .slice none 0 0] 26)).alloc (.cells #[.int .i64 0, .int .i64 0, .slice none 0 0] 26))) := (Bx.new [.int .i64 0, .int .i64 0, .slice none 0 0] 26 w).below (bnew _ _) (by simp)
  have HX' : Hid (Bx (w.heap.size + 1) [.int .i64 0, .int .i64 0, .slice none 0 0] ((w.alloc (.cells #[.int .i64 0, .int .i64 0, .slice none 0 0] 26)).alloc (.cells #[.int .i64 0, .int .i64 0, .slice none 0 0] 26))) := by
    have h := Bx.new [.int .i64 0, .int .i64 0, .slice none 0 0] 26 (w.alloc (.cells #[.int .i64 0, .int .i64 0, .slice none 0 0] 26))
    rw [show (w.alloc (.cells #[.int .i64 0, .int .i64 0, .slice none 0 0] 26)).heap.size = w.heap.size + 1 by simp] at h
    exact h
  have hb := bnext (bnew w (.cells #[.int .i64 0, .int .i64 0, .slice none 0 0] 26)) (Nat.le_refl _) (bnew _ (.cells #[.int .i64 0, .int .i64 0, .slice none 0 0] 26))
  have HB := hide hb
  have hz : ((w.alloc (.cells #[.int .i64 0, .int .i64 0, .slice none 0 0] 26)).alloc (.cells #[.int .i64 0, .int .i64 0, .slice none 0 0] 26)).heap.size = w.heap.size + 2 := by simp
  have HBY := hide (h.below hb)
  clear h hb
  have hn := new_any a len cap _ HBY.out
  go_enter Try.func6, Try.ntmps6
  go_upto_region 1 with fail
  generalize hw1 : (w.alloc (.cells #[.int .i64 0, .int .i64 0, .slice none 0 0] 26)).alloc (.cells #[.int .i64 0, .int .i64 0, .slice none 0 0] 26) = w1 at *
  clear hw1
  go_wp2_with fail
  refine hn.mono ?_
  rintro e w2 ⟨xx, rfl, rfl⟩
  have hc := cur_new a len cap w1 HBY.out xx
  have HB2 := hide (bnew w1 (.cells #[.slice a len cap, .int .i64 0, .int .i64 xx] 64))
  have hz2 : (w1.alloc (.cells #[.slice a len cap, .int .i64 0, .int .i64 xx] 64)).heap.size = w1.heap.size + 1 := by simp
  have HAB1 : Hid (len = 0 ∨ ∀ b off, a = some ⟨b, off, none⟩ → b < (w1.alloc (.cells #[.slice a len cap, .int .i64 0, .int .i64 xx] 64)).heap.size) := bytes_ltW HBY.out (by omega)
  have HX2 := hide (HX.out.below HB2.out (by omega))
  have HX2' := hide (HX'.out.below HB2.out (by omega))
  have HP1 : Hid (w1.heap.size < (w1.alloc (.cells #[.slice a len cap, .int .i64 0, .int .i64 xx] 64)).heap.size) := by show _ < _; omega
  have HBW : Hid (Below w.heap.size w (w1.alloc (.cells #[.slice a len cap, .int .i64 0, .int .i64 xx] 64))) := HB.out.trans (HB2.out.mono (by omega))
  have HR : Hid (w.heap.size + 2 = w1.heap.size) := hz.symm
  have HC := hide hc
  clear hn hc HX HX' HBY HB HB2 hz2 hz
  go_upto_region 2 with fail
  generalize w1.alloc (.cells #[.slice a len cap, .int .i64 0, .int .i64 xx] 64) = wp at *
  generalize w1.heap.size = p at *
  have hG := drawGrey_any spoil_any p a len cap wp HC.out HP1.out HAB1.out
  go_wp2_with fail
  refine hG.mono ?_
  rintro e w3 ⟨W, H, x, b, m, c, f, rfl, hm, ho, hb, hc, hk⟩
  have HC3 := hide hc
  have HK3 := hide hk
  have HO3 := hide ho
  have HB3 := hide hb
  have HM := hide hm
  clear hG ho hb hc hk HC hm
  have HBx := hide (Bx.new [.int .i64 W, .int .i64 H, .slice x m c] 26 w3)
  have HBn := hide (bnew w3 (.cells #[.int .i64 W, .int .i64 H, .slice x m c] 26))
  have hz4 : (w3.alloc (.cells #[.int .i64 W, .int .i64 H, .slice x m c] 26)).heap.size = w3.heap.size + 1 := by simp
  have HZ4 := hide hz4
  clear hz4
  go_upto_region 3 with fail
  go_cut [6] (fun s wc => ∃ Y B, s = .pointer (some ⟨Y, 0, none⟩) ∧ DW p a len cap wp w3.heap.size [.int .i64 W, .int .i64 H, .slice x m c] x b m f Y [.int .i64 W, .int .i64 H, .slice (some ⟨B, 0, none⟩) m m] (some ⟨B, 0, none⟩) B m (fun _ => 0) wc)
  case first =>
    have HO4 := hide (HO3.out.belowY HBn.out)
    have HC4 := hide (HC3.out.below HBn.out)
    have HK4 := hide (HK3.out.trans (Kept.of_below HBn.out))
    have HZ : Hid (wp.heap.size ≤ w3.heap.size ∧ w3.heap.size < (w3.alloc (.cells #[.int .i64 W, .int .i64 H, .slice x m c] 26)).heap.size) := ⟨HK3.out.size, by rw [HZ4.out]; omega⟩
    have HBL : Hid (m = 0 ∨ b < w3.heap.size) := by
      by_cases h0 : m = 0
      · exact .inl h0
      · exact .inr (HO3.out.v.lt h0)
    generalize w3.alloc (.cells #[.int .i64 W, .int .i64 H, .slice x m c] 26) = w4 at *
    generalize w3.heap.size = X at *
    have HX4 : Hid (Bx X [.int .i64 W, .int .i64 H, .slice x m c] w4) := HBx.out
    clear HBx HC3 HK3 HO3 HBn HZ4
    have hmn : m ≤ 65 := HM.out
    have hmk := fun w' => make_px m (by omega) w'
    have hnm : ¬ (m : Int) < 0 := by omega
    obtain ⟨b0, p0⟩ := HX4.out 0 _ rfl
    obtain ⟨b1, p1⟩ := HX4.out 1 _ rfl
    obtain ⟨b2, p2⟩ := HX4.out 2 _ rfl
    have hX := HZ.out.2
    have HF : Hid (∀ wz B Y, Below w4.heap.size w4 wz → (B = w4.heap.size ∧ Y = w4.heap.size + 1 ∨ B = w4.heap.size + 1 ∧ Y = w4.heap.size) → wz.heap.size = w4.heap.size + 2 → Row B m (fun _ => 0) wz → Bx Y [.int .i64 W, .int .i64 H, .slice (some ⟨B, 0, none⟩) m m] wz → DW p a len cap wp X [.int .i64 W, .int .i64 H, .slice x m c] x b m f Y [.int .i64 W, .int .i64 H, .slice (some ⟨B, 0, none⟩) m m] (some ⟨B, 0, none⟩) B m (fun _ => 0) wz) := fun wz B Y hb hBY hs hr hbx => by
      have h1 := HZ.out
      have h2 := HBL.out
      exact ⟨HC4.out.below hb, HK4.out.trans (Kept.of_below hb), HX4.out.below hb hX, hbx, HO4.out.belowY hb, .inr ⟨rfl, hr⟩, ⟨h1.1, by omega, by omega, by omega, by omega⟩, (by rcases h2 with h | h; exact .inl h; exact HB3.out.imp id fun h' => ⟨h'.1, by omega, by omega⟩), .inr ⟨by omega, by omega, by omega, h2.imp id fun h => by omega⟩⟩
    clear HO4 HC4 HK4 HX4 HZ HBL HB3
    go_region_held3 (fun (w' : World) => w'.cell? ⟨X, 0, none⟩ = some (.int .i64 W) ∧ w'.cell? ⟨X, 1, none⟩ = some (.int .i64 H) ∧ w'.cell? ⟨X, 2, none⟩ = some (.slice x m c))
      (first
        | exact ⟨b0, b1, b2⟩
        | go_keep)
      (fail)
    all_goals (go_wp2_with fail)
    all_goals go_meet
    · have hsz : (w4.alloc (.cells (madeCells #[.int .i64 0] m) 2)).heap.size = w4.heap.size + 1 := by simp
      have hbx := Bx.new [.int .i64 W, .int .i64 H, .slice (some ⟨w4.heap.size, 0, none⟩) m m] 26 (w4.alloc (.cells (madeCells #[.int .i64 0] m) 2))
      rw [hsz] at hbx
      have hD := HF.out _ w4.heap.size (w4.heap.size + 1) ((bnew w4 (.cells (madeCells #[.int .i64 0] m) 2)).alloc (by rw [hsz]; omega) (.cells #[.int .i64 W, .int .i64 H, .slice (some ⟨w4.heap.size, 0, none⟩) m m] 26)) (.inl ⟨rfl, rfl⟩) (by simp) ((row_new m w4).below (bnew _ _) (by rw [hsz]; omega)) hbx
      exact ⟨_, _, rfl, hD.step HP1.out (hD.cur.drewN 1) (Kept.refl p _).drew⟩
    · have hsz : (w4.alloc (.cells #[.int .i64 W, .int .i64 H, .slice (some ⟨w4.heap.size + 1, 0, none⟩) m m] 26)).heap.size = w4.heap.size + 1 := by simp
      have hbx := (Bx.new [.int .i64 W, .int .i64 H, .slice (some ⟨w4.heap.size + 1, 0, none⟩) m m] 26 w4).below (bnew (w4.alloc (.cells #[.int .i64 W, .int .i64 H, .slice (some ⟨w4.heap.size + 1, 0, none⟩) m m] 26)) (.cells (madeCells #[.int .i64 0] m) 2)) (by rw [hsz]; omega)
      have hr := row_new m (w4.alloc (.cells #[.int .i64 W, .int .i64 H, .slice (some ⟨w4.heap.size + 1, 0, none⟩) m m] 26))
      rw [hsz] at hr
      have hD := HF.out _ (w4.heap.size + 1) w4.heap.size ((bnew w4 (.cells #[.int .i64 W, .int .i64 H, .slice (some ⟨w4.heap.size + 1, 0, none⟩) m m] 26)).alloc (by rw [hsz]; omega) (.cells (madeCells #[.int .i64 0] m) 2)) (.inr ⟨rfl, rfl⟩) (by simp) hr hbx
      exact ⟨_, _, rfl, hD.step HP1.out (hD.cur.drewN 1) (Kept.refl p _).drew⟩
  case rest =>
  obtain ⟨Y, B, rfl, hD⟩ := hcut
  have HD4 := hide hD
  clear hD HO3 HC3 HK3 HBx HBn HZ4 HB3
  generalize w3.heap.size = X at *
  have hd := below_any p a len cap _ HD4.out.cur 5 (by omega) (by omega)
  go_wp2_with fail
  refine hd.mono ?_
  rintro e w5 ⟨y, rfl, y0, y1, hc, hk⟩
  have HD5 := hide (HD4.out.step HP1.out hc hk)
  obtain ⟨M, rfl⟩ : ∃ M : Nat, y = (M : Int) := ⟨y.toNat, by omega⟩
  have HM5 : Hid (M ≤ 5) := by show _ ≤ _; omega
  clear hd hc hk HD4 y0 y1
  go_upto_block 0 with fail
  go_cut [] (fun wc => ∃ f', DW p a len cap wp X [.int .i64 W, .int .i64 H, .slice x m c] x b m f Y [.int .i64 W, .int .i64 H, .slice (some ⟨B, 0, none⟩) m m] (some ⟨B, 0, none⟩) B m f' wc)
  case first =>
    go_wp2_with fail
    go_loopw [7] (fun i wr => ∃ (j : Nat) (f' : Nat → Int), i = .int .i64 j ∧ j ≤ M ∧ DW p a len cap wp X [.int .i64 W, .int .i64 H, .slice x m c] x b m f Y [.int .i64 W, .int .i64 H, .slice (some ⟨B, 0, none⟩) m m] (some ⟨B, 0, none⟩) B m f' wr) (fun i _ => (intOf i).toNat)
    case atStart => exact ⟨M, _, rfl, Nat.le_refl _, HD5.out⟩
    case round =>
      obtain ⟨j, f', rfl, hjM, hD⟩ := hrel
      have HD8 := hide hD
      clear hD HD5
      obtain ⟨q2, e2⟩ := HD8.out.by' 2 _ rfl
      by_cases hj : 0 < j
      · by_cases hm0 : 0 < m
        · have hjI : (0 : Int) < (j : Int) := by omega
          have hmI : (0 : Int) < (m : Int) := by omega
          have HmM : Hid (0 < m ∧ m ≤ 65) := ⟨hm0, HM.out⟩
          have HjM : Hid (0 < j ∧ j ≤ M) := ⟨hj, hjM⟩
          go_upto_region 7 with fail
          clear q2 e2 hjI hmI hj hm0 hjM
          have hD8 := HD8.out
          obtain ⟨wc, hwc⟩ : ∃ wc, wc = wr := ⟨_, rfl⟩
          subst hwc
          have HBn : Hid (∀ w', Cur p a len cap w' → Calls Try.prog 17 #[.pointer (some ⟨p, 0, none⟩), .int .i64 (m : Int)] w' (Drawn p a len cap w' 0 ((m : Int) - 1))) := fun w' h => below_any p a len cap w' h m (by have := HmM.out; omega) (by have := HmM.out; omega)
          have HBc : Hid (∀ w', Cur p a len cap w' → Calls Try.prog 17 #[.pointer (some ⟨p, 0, none⟩), .int .i64 5] w' (Drawn p a len cap w' 0 (5 - 1))) := fun w' h => below_any p a len cap w' h 5 (by omega) (by omega)
          have HPw : Hid (p < wc.heap.size) := Nat.lt_of_lt_of_le HP1.out hD8.kept.size
          have HY0 : Hid (∀ w', Kept p wc w' → w'.cell? ⟨Y, 2, none⟩ = some (.slice (some ⟨B, 0, none⟩) m m)) := fun w' hk => hk.cell (a := ⟨Y, 2, none⟩) (by show Y ≠ p; have := hD8.lt; have := HP1.out; omega) (hD8.by' 2 _ rfl).1
          have HYc : Hid (∀ w' k, k < m → Kept p wc w' → w'.cell? ⟨B, k, none⟩ = some (.int .i64 (f' k)) ∧ w'.frozen? ⟨B, k, none⟩ = false) := fun w' k hkm hk => by
            have hb := hD8.sb.resolve_left (by omega)
            have hr : Row B m f' wc := by
              rcases hD8.sd with h0 | ⟨-, h0⟩
              · omega
              · exact h0
            have hne : B ≠ p := by have := HP1.out; omega
            exact ⟨hk.cell (a := ⟨B, k, none⟩) hne (hr k hkm).1, (hk.frozen (a := ⟨B, k, none⟩) hne (hr k hkm).1).trans (hr k hkm).2⟩
          clear hD8
          obtain ⟨G, hG⟩ : ∃ G : Nat → Value → Prop, G = (fun j v => match j with | 0 => v = .pointer (some ⟨Y, 2, none⟩) | 1 => v = .slice (some ⟨B, 0, none⟩) m m | 2 => v = .pointer (some ⟨p, 0, none⟩) | 3 => v = .pointer (some ⟨Y, 2, none⟩) | 4 => v = .slice (some ⟨B, 0, none⟩) m m | 5 => v = .int .i64 (m : Int) | 6 => ∃ z : Nat, z < m ∧ v = .int .i64 ((z : Nat) : Int) | 7 => v = .pointer (some ⟨p, 0, none⟩) | 8 => ∃ z : Int, v = .int .i64 z | 9 => ∃ k : Nat, k < m ∧ v = .pointer (some ⟨B, k, none⟩) | _ => True) := ⟨_, rfl⟩
          have G0 : Hid (∀ v, G 0 v ↔ v = .pointer (some ⟨Y, 2, none⟩)) := fun v => by rw [hG]; exact Iff.rfl
          have G1 : Hid (∀ v, G 1 v ↔ v = .slice (some ⟨B, 0, none⟩) m m) := fun v => by rw [hG]; exact Iff.rfl
          have G2 : Hid (∀ v, G 2 v ↔ v = .pointer (some ⟨p, 0, none⟩)) := fun v => by rw [hG]; exact Iff.rfl
          have G3 : Hid (∀ v, G 3 v ↔ v = .pointer (some ⟨Y, 2, none⟩)) := fun v => by rw [hG]; exact Iff.rfl
          have G4 : Hid (∀ v, G 4 v ↔ v = .slice (some ⟨B, 0, none⟩) m m) := fun v => by rw [hG]; exact Iff.rfl
          have G5 : Hid (∀ v, G 5 v ↔ v = .int .i64 (m : Int)) := fun v => by rw [hG]; exact Iff.rfl
          have G6 : Hid (∀ v, G 6 v ↔ ∃ z : Nat, z < m ∧ v = .int .i64 ((z : Nat) : Int)) := fun v => by rw [hG]; exact Iff.rfl
          have G7 : Hid (∀ v, G 7 v ↔ v = .pointer (some ⟨p, 0, none⟩)) := fun v => by rw [hG]; exact Iff.rfl
          have G8 : Hid (∀ v, G 8 v ↔ ∃ z : Int, v = .int .i64 z) := fun v => by rw [hG]; exact Iff.rfl
          have G9 : Hid (∀ v, G 9 v ↔ ∃ k : Nat, k < m ∧ v = .pointer (some ⟨B, k, none⟩)) := fun v => by rw [hG]; exact Iff.rfl
          have G10 : Hid (∀ v, G 10 v) := fun v => by rw [hG]; trivial
          clear hG
          obtain ⟨PP, hPP⟩ : ∃ P : World → Prop, P = (fun w => ∃ (w1 : World) (k : Nat) (z : Int), k < m ∧ w = w1.setCell ⟨B, k, none⟩ (.int .i64 z) ∧ Cur p a len cap w1 ∧ Kept p wc w1) := ⟨_, rfl⟩
          have HPP := hide hPP
          clear hPP
          refine region_opsV (tR p a len cap 10 wc) (dF 10 G PP) (by kernel_rfl) (by kernel_rfl) (by kernel_rfl) (by kernel_rfl) (fun _ => ⟨HD8.out.cur.drewN 1, (Kept.refl _ _).drewN 1⟩) ?_ ?_
          · refine ⟨?_, ?_, ?_, ?_, ?_, ?_, ?_, ?_, ?_, ?_, ?_, trivial⟩
            ·
              intro u w21 au hsl hel hu hF hp' K hK
              have hU : u 10 = undef := (hu.out 10 (by decide) (.inr (by kernel_rfl))).trans (by kernel_rfl)
              obtain ⟨hC, hKp⟩ := hF hU
              have HU := hide hU
              have tq : au.tmps[6]?.getD undef = .pointer (some ⟨Y, 0, none⟩) := (hel.out 6 (by kernel_rfl)).trans (by kernel_rfl)
              clear hU
              refine step_plain rfl ?_
              go_simp
              exact hK.out (.pointer (some ⟨Y, 2, none⟩)) _ (tR_up hF id (Kept.refl _ _) 0 (by omega) _) (dF_val 0 (by omega) ((G0.out _).2 rfl)) (fun j hj hf h => dF_up 0 _ j hj (fun e => by subst e; exact absurd (Eq.trans (Eq.symm (by kernel_rfl)) hf) Bool.false_ne_true) h)
            ·
              intro u w21 au hsl hel hu hF hp' K hK
              have hU : u 10 = undef := (hu.out 10 (by decide) (.inr (by kernel_rfl))).trans (by kernel_rfl)
              obtain ⟨hC, hKp⟩ := hF hU
              have HU := hide hU
              have h0 : u 0 = .pointer (some ⟨Y, 2, none⟩) := (G0.out _).1 (PreF.get hp' 0 (by kernel_rfl)).1
              have tq : au.tmps[33]?.getD undef = u 0 := hsl.out 0 33 (by kernel_rfl)
              rw [h0] at tq
              clear hU
              have xc := HY0.out _ hKp
              refine step_plain rfl ?_
              go_simp
              exact hK.out (Value.slice (some ⟨B, 0, none⟩) m m) _ (tR_up hF id (Kept.refl _ _) 1 (by omega) _) (dF_val 1 (by omega) ((G1.out _).2 rfl)) (fun j hj hf h => dF_up 1 _ j hj (fun e => by subst e; exact absurd (Eq.trans (Eq.symm (by kernel_rfl)) hf) Bool.false_ne_true) h)
            ·
              intro u w21 au hsl hel hu hF hp' K hK
              have hU : u 10 = undef := (hu.out 10 (by decide) (.inr (by kernel_rfl))).trans (by kernel_rfl)
              obtain ⟨hC, hKp⟩ := hF hU
              have HU := hide hU
              have tq : au.tmps[4]?.getD undef = .pointer (some ⟨p, 0, none⟩) := (hel.out 4 (by kernel_rfl)).trans (by kernel_rfl)
              clear hU
              refine step_plain rfl ?_
              go_simp
              exact hK.out (.pointer (some ⟨p, 0, none⟩)) _ (tR_up hF id (Kept.refl _ _) 2 (by omega) _) (dF_val 2 (by omega) ((G2.out _).2 rfl)) (fun j hj hf h => dF_up 2 _ j hj (fun e => by subst e; exact absurd (Eq.trans (Eq.symm (by kernel_rfl)) hf) Bool.false_ne_true) h)
            ·
              intro u w21 au hsl hel hu hF hp' K hK
              have hU : u 10 = undef := (hu.out 10 (by decide) (.inr (by kernel_rfl))).trans (by kernel_rfl)
              obtain ⟨hC, hKp⟩ := hF hU
              have HU := hide hU
              have tq : au.tmps[6]?.getD undef = .pointer (some ⟨Y, 0, none⟩) := (hel.out 6 (by kernel_rfl)).trans (by kernel_rfl)
              clear hU
              refine step_plain rfl ?_
              go_simp
              exact hK.out (.pointer (some ⟨Y, 2, none⟩)) _ (tR_up hF id (Kept.refl _ _) 3 (by omega) _) (dF_val 3 (by omega) ((G3.out _).2 rfl)) (fun j hj hf h => dF_up 3 _ j hj (fun e => by subst e; exact absurd (Eq.trans (Eq.symm (by kernel_rfl)) hf) Bool.false_ne_true) h)
            ·
              intro u w21 au hsl hel hu hF hp' K hK
              have hU : u 10 = undef := (hu.out 10 (by decide) (.inr (by kernel_rfl))).trans (by kernel_rfl)
              obtain ⟨hC, hKp⟩ := hF hU
              have HU := hide hU
              have h0 : u 3 = .pointer (some ⟨Y, 2, none⟩) := (G3.out _).1 (PreF.get hp' 3 (by kernel_rfl)).1
              have tq : au.tmps[36]?.getD undef = u 3 := hsl.out 3 36 (by kernel_rfl)
              rw [h0] at tq
              clear hU
              have xc := HY0.out _ hKp
              refine step_plain rfl ?_
              go_simp
              exact hK.out (Value.slice (some ⟨B, 0, none⟩) m m) _ (tR_up hF id (Kept.refl _ _) 4 (by omega) _) (dF_val 4 (by omega) ((G4.out _).2 rfl)) (fun j hj hf h => dF_up 4 _ j hj (fun e => by subst e; exact absurd (Eq.trans (Eq.symm (by kernel_rfl)) hf) Bool.false_ne_true) h)
            ·
              intro u w21 au hsl hel hu hF hp' K hK
              have hU : u 10 = undef := (hu.out 10 (by decide) (.inr (by kernel_rfl))).trans (by kernel_rfl)
              obtain ⟨hC, hKp⟩ := hF hU
              have HU := hide hU
              have h0 : u 4 = Value.slice (some ⟨B, 0, none⟩) m m := (G4.out _).1 (PreF.get hp' 4 (by kernel_rfl)).1
              have tq : au.tmps[37]?.getD undef = u 4 := hsl.out 4 37 (by kernel_rfl)
              rw [h0] at tq
              clear hU
              refine step_plain rfl ?_
              go_simp
              exact hK.out (.int .i64 (m : Int)) _ (tR_up hF id (Kept.refl _ _) 5 (by omega) _) (dF_val 5 (by omega) ((G5.out _).2 rfl)) (fun j hj hf h => dF_up 5 _ j hj (fun e => by subst e; exact absurd (Eq.trans (Eq.symm (by kernel_rfl)) hf) Bool.false_ne_true) h)
            ·
              intro u w21 au hsl hel hu hF hp' K hK
              have hU : u 10 = undef := (hu.out 10 (by decide) (.inr (by kernel_rfl))).trans (by kernel_rfl)
              obtain ⟨hC, hKp⟩ := hF hU
              have HU := hide hU
              have h3 : u 2 = .pointer (some ⟨p, 0, none⟩) := (G2.out _).1 (PreF.get hp' 2 (by kernel_rfl)).1
              have tq : au.tmps[35]?.getD undef = u 2 := hsl.out 2 35 (by kernel_rfl)
              rw [h3] at tq
              have h4 : u 5 = .int .i64 (m : Int) := (G5.out _).1 (PreF.get hp' 5 (by kernel_rfl)).1
              have tq4 : au.tmps[38]?.getD undef = u 5 := hsl.out 5 38 (by kernel_rfl)
              rw [h4] at tq4
              clear hU
              have hd := HBn.out w21 hC
              refine step_plain rfl ?_
              go_simp
              refine hd.mono ?_
              rintro e w22 ⟨y, rfl, hy0, hy1, hc22, hk22⟩
              obtain ⟨Y9, rfl⟩ : ∃ Y9 : Nat, y = (Y9 : Int) := ⟨y.toNat, by omega⟩
              have hYN : Y9 < m := by omega
              exact hK.out (.int .i64 (Y9 : Int)) _ (tR_up hF (fun _ => hc22) hk22 6 (by omega) _) (dF_val 6 (by omega) ((G6.out _).2 ⟨Y9, hYN, rfl⟩)) (fun j hj hf h => dF_up 6 _ j hj (fun e => by subst e; exact absurd (Eq.trans (Eq.symm (by kernel_rfl)) hf) Bool.false_ne_true) h)
            ·
              intro u w21 au hsl hel hu hF hp' K hK
              have hU : u 10 = undef := (hu.out 10 (by decide) (.inr (by kernel_rfl))).trans (by kernel_rfl)
              obtain ⟨hC, hKp⟩ := hF hU
              have HU := hide hU
              have tq : au.tmps[4]?.getD undef = .pointer (some ⟨p, 0, none⟩) := (hel.out 4 (by kernel_rfl)).trans (by kernel_rfl)
              clear hU
              refine step_plain rfl ?_
              go_simp
              exact hK.out (.pointer (some ⟨p, 0, none⟩)) _ (tR_up hF id (Kept.refl _ _) 7 (by omega) _) (dF_val 7 (by omega) ((G7.out _).2 rfl)) (fun j hj hf h => dF_up 7 _ j hj (fun e => by subst e; exact absurd (Eq.trans (Eq.symm (by kernel_rfl)) hf) Bool.false_ne_true) h)
            ·
              intro u w21 au hsl hel hu hF hp' K hK
              have hU : u 10 = undef := (hu.out 10 (by decide) (.inr (by kernel_rfl))).trans (by kernel_rfl)
              obtain ⟨hC, hKp⟩ := hF hU
              have HU := hide hU
              have h3 : u 7 = .pointer (some ⟨p, 0, none⟩) := (G7.out _).1 (PreF.get hp' 7 (by kernel_rfl)).1
              have tq : au.tmps[40]?.getD undef = u 7 := hsl.out 7 40 (by kernel_rfl)
              rw [h3] at tq
              clear hU
              have hd := HBc.out w21 hC
              refine step_plain rfl ?_
              go_simp
              refine hd.mono ?_
              rintro e w22 ⟨y, rfl, hy0, hy1, hc22, hk22⟩
              exact hK.out (.int .i64 y) _ (tR_up hF (fun _ => hc22) hk22 8 (by omega) _) (dF_val 8 (by omega) ((G8.out _).2 ⟨_, rfl⟩)) (fun j hj hf h => dF_up 8 _ j hj (fun e => by subst e; exact absurd (Eq.trans (Eq.symm (by kernel_rfl)) hf) Bool.false_ne_true) h)
            ·
              intro u w21 au hsl hel hu hF hp' K hK
              have hU : u 10 = undef := (hu.out 10 (by decide) (.inr (by kernel_rfl))).trans (by kernel_rfl)
              obtain ⟨hC, hKp⟩ := hF hU
              have HU := hide hU
              have h1 : u 1 = Value.slice (some ⟨B, 0, none⟩) m m := (G1.out _).1 (PreF.get hp' 1 (by kernel_rfl)).1
              have tq : au.tmps[34]?.getD undef = u 1 := hsl.out 1 34 (by kernel_rfl)
              rw [h1] at tq
              obtain ⟨z6, hz6, h6⟩ := (G6.out _).1 (PreF.get hp' 6 (by kernel_rfl)).1
              have tq6 : au.tmps[39]?.getD undef = u 6 := hsl.out 6 39 (by kernel_rfl)
              rw [h6] at tq6
              clear hU
              have hyi : (z6 : Int) < (m : Int) := by omega
              refine step_plain rfl ?_
              go_simp
              exact hK.out (.pointer (some ⟨B, z6, none⟩)) _ (tR_up hF id (Kept.refl _ _) 9 (by omega) _) (dF_val 9 (by omega) ((G9.out _).2 ⟨z6, hz6, rfl⟩)) (fun j hj hf h => dF_up 9 _ j hj (fun e => by subst e; exact absurd (Eq.trans (Eq.symm (by kernel_rfl)) hf) Bool.false_ne_true) h)
            ·
              intro u w21 au hsl hel hu hF hp' K hK
              have hU : u 10 = undef := (hu.out 10 (by decide) (.inl rfl)).trans (by kernel_rfl)
              obtain ⟨hC, hKp⟩ := hF hU
              have HU := hide hU
              obtain ⟨k9, hk9, h9⟩ := (G9.out _).1 (PreF.get hp' 9 (by kernel_rfl)).1
              have tq : au.tmps[42]?.getD undef = u 9 := hsl.out 9 42 (by kernel_rfl)
              rw [h9] at tq
              obtain ⟨z8, h8⟩ := (G8.out _).1 (PreF.get hp' 8 (by kernel_rfl)).1
              have tq8 : au.tmps[41]?.getD undef = u 8 := hsl.out 8 41 (by kernel_rfl)
              rw [h8] at tq8
              clear hU
              obtain ⟨xc, xf⟩ := HYc.out _ k9 hk9 hKp
              have HP : Hid (∃ (w1 : World) (k : Nat) (z : Int), k < m ∧ w21.setCell ⟨B, k9, none⟩ (.int .i64 z8) = w1.setCell ⟨B, k, none⟩ (.int .i64 z) ∧ Cur p a len cap w1 ∧ Kept p wc w1) := ⟨w21, k9, z8, hk9, rfl, hC, hKp⟩
              clear hC hKp
              refine step_plain rfl ?_
              go_simp
              exact hK.out (.bool true) _ (tR_st (by simp [undef])) (dF_done G10.out (by rw [HPP.out]; exact HP.out)) (fun j hj _ h => dF_st j hj h)
          · intro u w30 hF hall
            have hP := (hall 10 (by decide)).2 rfl
            rw [HPP.out] at hP
            obtain ⟨w1, kk, z', hkk, rfl, hC, hKp⟩ := hP
            have HE := hide ((HD8.out.step HP1.out hC hKp).store HP1.out HAB1.out hkk z')
            clear hall hF hC hKp HD8
            simp only [rgPut, Act.put]
            go_simp
            obtain ⟨f'', hE⟩ := HE.out
            have HE2 := hide hE
            have hjw : IntKind.i64.wrap ((j : Int) - 1) = ((j - 1 : Nat) : Int) := by have := HjM.out; have := HM5.out; rw [IntKind.wrap_i64]; omega
            have HJ1 : Hid (j - 1 ≤ M) := by have := HjM.out; show _ ≤ _; omega
            have HMe : Hid ((((j - 1 : Nat) : Int)).toNat < ((j : Nat) : Int).toNat) := by have := HjM.out; show _ < _; rw [Int.toNat_natCast, Int.toNat_natCast]; omega
            clear hE HE
            obtain ⟨J, hJ⟩ : ∃ J, J = j - 1 := ⟨_, rfl⟩
            rw [← hJ] at hjw HJ1 HMe
            clear hJ
            go_wp2_with fail
            go_roundw
            case rel => exact ⟨J, _, rfl, HJ1.out, HE2.out⟩
            case measure => exact HMe.out
        · obtain rfl : m = 0 := by omega
          have hjI : (0 : Int) < (j : Int) := by omega
          go_wp2_with fail
          go_meet
          exact ⟨_, HD8.out⟩
      · obtain rfl : j = 0 := by omega
        go_wp2_with fail
        go_meet
        exact ⟨_, HD8.out⟩
  case rest =>
  obtain ⟨f', hD⟩ := hcut
  have HD6 := hide hD
  clear hD HD5 HM5
  have hd := once_any p a len cap _ HD6.out.cur 16 (by omega) (by omega)
  go_upto_if 44 with (first | (refine hd.mono ?_; rintro e w6 ⟨q, rfl, hc, hk⟩; have HD7 := hide (HD6.out.step HP1.out hc hk); clear hd hc hk HD6))
  go_cut [] (fun wc => ∃ (W' H' : Int) (x' : Option Addr) (b' m' c' : Nat) (f' : Nat → Int), m' ≤ 66 ∧ DW p a len cap wp X [.int .i64 W, .int .i64 H, .slice x m c] x b m f Y [.int .i64 W', .int .i64 H', .slice x' m' c'] x' b' m' f' wc)
  case first =>
    cases q
    · go_wp2_with fail
      go_meet
      exact ⟨W, H, _, B, m, m, _, by have := HM.out; omega, HD7.out⟩
    · have hl := HD7.out.lt
      have hsz := HD7.out.kept.size
      have cS := spoilA_any p a len cap W H B m m f' (by have := HM.out; omega) w6 HD7.out.cur (Nat.lt_of_lt_of_le HP1.out hsz) (HAB1.out.imp id fun h b off e => Nat.lt_of_lt_of_le (h b off e) hsz) HD7.out.sd (HD7.out.sb.imp id fun h => by have := HP1.out; omega)
      obtain ⟨i0, j0⟩ := HD7.out.by' 0 _ rfl
      obtain ⟨i1, j1⟩ := HD7.out.by' 1 _ rfl
      obtain ⟨i2, j2⟩ := HD7.out.by' 2 _ rfl
      clear hl hsz
      go_wp2_with fail
      refine cS.mono ?_
      rintro e w7 ⟨W', H', x', b', m', c', f2, rfl, hm', ho', hb', hc, hk⟩
      have HD8 := hide (HD7.out.step HP1.out hc hk)
      have HB8 : Hid (m' = 0 ∨ (wp.heap.size ≤ b' ∧ b' ≠ X ∧ b' ≠ Y ∧ (m = 0 ∨ b' ≠ b))) := by
        rcases hb' with h | ⟨⟨h0, rfl⟩ | h, h2⟩
        · exact .inl h
        · exact .inr (HD7.out.sb.resolve_left (by omega))
        · have h3 := HD7.out.lt
          refine .inr ⟨by omega, by omega, by omega, ?_⟩
          by_cases hm0 : m = 0
          · exact .inl hm0
          · have := HD7.out.img.v.lt hm0
            exact .inr (by omega)
      have HD9 := hide (HD8.out.put HP1.out HAB1.out rfl ho' HB8.out (.int .i64 W') (.int .i64 H') (.slice x' m' c'))
      have HM9 : Hid (m' ≤ 66) := by have := HM.out; show _ ≤ _; omega
      clear cS hc hk i0 j0 i1 j1 i2 j2 HD7 ho' hb' HB8 hm'
      obtain ⟨i0, j0⟩ := HD8.out.by' 0 _ rfl
      obtain ⟨i1, j1⟩ := HD8.out.by' 1 _ rfl
      obtain ⟨i2, j2⟩ := HD8.out.by' 2 _ rfl
      clear HD8
      go_wp2_with fail
      go_meet
      exact ⟨W', H', x', b', m', c', f2, HM9.out, HD9.out⟩
  case rest =>
  obtain ⟨W', H', x', b', m', c', f2, hm', hD⟩ := hcut
  have HD8 := hide hD
  have HM8 := hide hm'
  clear hD HD7 hm'
  go_upto_region 10 with fail
  go_cut [55] (fun s wc => ∃ bq : Bool, s = .bool bq ∧ (bq = true → 0 < m') ∧ DW p a len cap wp X [.int .i64 W, .int .i64 H, .slice x m c] x b m f Y [.int .i64 W', .int .i64 H', .slice x' m' c'] x' b' m' f2 wc)
  case first =>
    have hd := once_any p a len cap _ HD8.out.cur 20 (by omega) (by omega)
    go_wp2_with fail
    refine hd.mono ?_
    rintro e w8 ⟨q8, rfl, hc, hk⟩
    have HD9 := hide (HD8.out.step HP1.out hc hk)
    clear hd hc hk HD8
    obtain ⟨i2, j2⟩ := HD9.out.by' 2 _ rfl
    cases q8
    · go_wp2_with fail
      go_meet
      exact ⟨_, rfl, fun h => by simp at h, HD9.out⟩
    · by_cases h0 : 0 < m'
      · have hni : (0 : Int) < (m' : Int) := by omega
        go_wp2_with fail
        go_meet
        exact ⟨_, rfl, fun _ => h0, HD9.out⟩
      · obtain rfl : m' = 0 := by omega
        go_wp2_with fail
        go_meet
        exact ⟨_, rfl, fun h => by simp at h, HD9.out⟩
  case rest =>
  obtain ⟨bq, rfl, hq0, hD⟩ := hcut
  clear HD8
  have HD8 := hide hD
  clear hD
  go_upto_if 55 with fail
  go_cut [] (fun wc => ∃ f3, DW p a len cap wp X [.int .i64 W, .int .i64 H, .slice x m c] x b m f Y [.int .i64 W', .int .i64 H', .slice x' m' c'] x' b' m' f3 wc)
  case first =>
    cases bq
    · go_wp2_with fail
      go_meet
      exact ⟨_, HD8.out⟩
    · have HM0 : Hid (0 < m') := hq0 rfl
      have hD8 := HD8.out
      have hx' : x' = some ⟨b', 0, none⟩ := by
        rcases hD8.sd with h0 | ⟨h0, -⟩
        · have := HM0.out; omega
        · exact h0
      subst hx'
      have HBc : Hid (∀ w', Cur p a len cap w' → Calls Try.prog 17 #[.pointer (some ⟨p, 0, none⟩), .int .i64 3] w' (Drawn p a len cap w' 0 (3 - 1))) := fun w' h => below_any p a len cap w' h 3 (by omega) (by omega)
      have HPw : Hid (p < wc.heap.size) := Nat.lt_of_lt_of_le HP1.out hD8.kept.size
      have HY0 : Hid (∀ w', Kept p wc w' → w'.cell? ⟨Y, 2, none⟩ = some (.slice (some ⟨b', 0, none⟩) m' c')) := fun w' hk => hk.cell (a := ⟨Y, 2, none⟩) (by show Y ≠ p; have := hD8.lt; have := HP1.out; omega) (hD8.by' 2 _ rfl).1
      have HYc : Hid (∀ w' k, k < m' → Kept p wc w' → w'.cell? ⟨b', k, none⟩ = some (.int .i64 (f2 k)) ∧ w'.frozen? ⟨b', k, none⟩ = false) := fun w' k hkm hk => by
        have hb := hD8.sb.resolve_left (by omega)
        have hr : Row b' m' f2 wc := by
          rcases hD8.sd with h0 | ⟨-, h0⟩
          · omega
          · exact h0
        have hne : b' ≠ p := by have := HP1.out; omega
        exact ⟨hk.cell (a := ⟨b', k, none⟩) hne (hr k hkm).1, (hk.frozen (a := ⟨b', k, none⟩) hne (hr k hkm).1).trans (hr k hkm).2⟩
      have h0n : 0 < m' := HM0.out
      have h0i : (0 : Int) < (m' : Int) := by omega
      clear hD8 hq0
      go_upto_region 11 with fail
      obtain ⟨G, hG⟩ : ∃ G : Nat → Value → Prop, G = (fun j v => match j with | 0 => v = .pointer (some ⟨Y, 2, none⟩) | 1 => v = .slice (some ⟨b', 0, none⟩) m' c' | 3 => v = .pointer (some ⟨p, 0, none⟩) | 4 => ∃ z : Nat, z < 3 ∧ v = .int .i64 ((z : Nat) : Int) | 6 => ∃ z : Int, v = .int .i64 z | 7 => v = .pointer (some ⟨b', 0, none⟩) | _ => True) := ⟨_, rfl⟩
      have G0 : Hid (∀ v, G 0 v ↔ v = .pointer (some ⟨Y, 2, none⟩)) := fun v => by rw [hG]; exact Iff.rfl
      have G1 : Hid (∀ v, G 1 v ↔ v = .slice (some ⟨b', 0, none⟩) m' c') := fun v => by rw [hG]; exact Iff.rfl
      have G2 : Hid (∀ v, G 2 v) := fun v => by rw [hG]; trivial
      have G3 : Hid (∀ v, G 3 v ↔ v = .pointer (some ⟨p, 0, none⟩)) := fun v => by rw [hG]; exact Iff.rfl
      have G4 : Hid (∀ v, G 4 v ↔ ∃ z : Nat, z < 3 ∧ v = .int .i64 ((z : Nat) : Int)) := fun v => by rw [hG]; exact Iff.rfl
      have G5 : Hid (∀ v, G 5 v) := fun v => by rw [hG]; trivial
      have G6 : Hid (∀ v, G 6 v ↔ ∃ z : Int, v = .int .i64 z) := fun v => by rw [hG]; exact Iff.rfl
      have G7 : Hid (∀ v, G 7 v ↔ v = .pointer (some ⟨b', 0, none⟩)) := fun v => by rw [hG]; exact Iff.rfl
      have G8 : Hid (∀ v, G 8 v) := fun v => by rw [hG]; trivial
      clear hG
      obtain ⟨PP, hPP⟩ : ∃ P : World → Prop, P = (fun w => ∃ (w1 : World) (k : Nat) (z : Int), k < m' ∧ w = w1.setCell ⟨b', k, none⟩ (.int .i64 z) ∧ Cur p a len cap w1 ∧ Kept p wc w1) := ⟨_, rfl⟩
      have HPP := hide hPP
      clear hPP
      refine region_opsV (tR p a len cap 8 wc) (tF 2 5 8 3 wc G PP) (by kernel_rfl) (by kernel_rfl) (by kernel_rfl) (by kernel_rfl) (fun _ => ⟨HD8.out.cur.drewN 1, (Kept.refl _ _).drewN 1⟩) ?_ ?_
      · refine ⟨?_, ?_, ?_, ?_, ?_, ?_, ?_, ?_, ?_, trivial⟩
        ·
          intro u w21 au hsl hel hu hF hp' K hK
          have hU : u 8 = undef := (hu.out 8 (by decide) (.inr (by kernel_rfl))).trans (by kernel_rfl)
          obtain ⟨hC, hKp⟩ := hF hU
          have HU := hide hU
          have tq : au.tmps[6]?.getD undef = .pointer (some ⟨Y, 0, none⟩) := (hel.out 6 (by kernel_rfl)).trans (by kernel_rfl)
          clear hU
          refine step_plain rfl ?_
          go_simp
          exact hK.out (.pointer (some ⟨Y, 2, none⟩)) _ (tR_up hF id (Kept.refl _ _) 0 (by omega) _) (tF_val 0 (by omega) (by omega) (by omega) ((G0.out _).2 rfl)) (fun j hj hf h => tF_up HPw.out (Kept.refl _ _) 0 (by omega) _ j hj (fun e => by subst e; exact absurd (Eq.trans (Eq.symm (by kernel_rfl)) hf) Bool.false_ne_true) h)
        ·
          intro u w21 au hsl hel hu hF hp' K hK
          have hU : u 8 = undef := (hu.out 8 (by decide) (.inr (by kernel_rfl))).trans (by kernel_rfl)
          obtain ⟨hC, hKp⟩ := hF hU
          have HU := hide hU
          have h0 : u 0 = .pointer (some ⟨Y, 2, none⟩) := (G0.out _).1 (PreF.get hp' 0 (by kernel_rfl)).1
          have tq : au.tmps[56]?.getD undef = u 0 := hsl.out 0 56 (by kernel_rfl)
          rw [h0] at tq
          clear hU
          have xc := HY0.out _ hKp
          refine step_plain rfl ?_
          go_simp
          exact hK.out (Value.slice (some ⟨b', 0, none⟩) m' c') _ (tR_up hF id (Kept.refl _ _) 1 (by omega) _) (tF_val 1 (by omega) (by omega) (by omega) ((G1.out _).2 rfl)) (fun j hj hf h => tF_up HPw.out (Kept.refl _ _) 1 (by omega) _ j hj (fun e => by subst e; exact absurd (Eq.trans (Eq.symm (by kernel_rfl)) hf) Bool.false_ne_true) h)
        ·
          intro u w21 au hsl hel hu hF hp' K hK
          have hU : u 8 = undef := (hu.out 8 (by decide) (.inr (by kernel_rfl))).trans (by kernel_rfl)
          obtain ⟨hC, hKp⟩ := hF hU
          have HU := hide hU
          clear hU
          have hb := bnew w21 (.cells #[.int .i64 (-1), .int .i64 255, .int .i64 256] 2)
          have HT : Hid (TabC 3 w21.heap.size (w21.alloc (.cells #[.int .i64 (-1), .int .i64 255, .int .i64 256] 2))) := tab_lit [(-1 : Int), (255 : Int), (256 : Int)]
          have HS := hide hKp.size
          refine step_plain rfl ?_
          go_simp
          exact hK.out (.slice (some ⟨w21.heap.size, 0, none⟩) 3 3) _ (tR_up hF (fun h => h.below hb) (Kept.of_below hb) 2 (by omega) _) (tF_tab (by omega) (by omega) G2.out HS.out HT.out) (fun j hj hf h => tF_up HPw.out (Kept.of_below hb) 2 (by omega) _ j hj (fun e => by subst e; exact absurd (Eq.trans (Eq.symm (by kernel_rfl)) hf) Bool.false_ne_true) h)
        ·
          intro u w21 au hsl hel hu hF hp' K hK
          have hU : u 8 = undef := (hu.out 8 (by decide) (.inr (by kernel_rfl))).trans (by kernel_rfl)
          obtain ⟨hC, hKp⟩ := hF hU
          have HU := hide hU
          have tq : au.tmps[4]?.getD undef = .pointer (some ⟨p, 0, none⟩) := (hel.out 4 (by kernel_rfl)).trans (by kernel_rfl)
          clear hU
          refine step_plain rfl ?_
          go_simp
          exact hK.out (.pointer (some ⟨p, 0, none⟩)) _ (tR_up hF id (Kept.refl _ _) 3 (by omega) _) (tF_val 3 (by omega) (by omega) (by omega) ((G3.out _).2 rfl)) (fun j hj hf h => tF_up HPw.out (Kept.refl _ _) 3 (by omega) _ j hj (fun e => by subst e; exact absurd (Eq.trans (Eq.symm (by kernel_rfl)) hf) Bool.false_ne_true) h)
        ·
          intro u w21 au hsl hel hu hF hp' K hK
          have hU : u 8 = undef := (hu.out 8 (by decide) (.inr (by kernel_rfl))).trans (by kernel_rfl)
          obtain ⟨hC, hKp⟩ := hF hU
          have HU := hide hU
          have h3 : u 3 = .pointer (some ⟨p, 0, none⟩) := (G3.out _).1 (PreF.get hp' 3 (by kernel_rfl)).1
          have tq : au.tmps[59]?.getD undef = u 3 := hsl.out 3 59 (by kernel_rfl)
          rw [h3] at tq
          clear hU
          have hd := HBc.out w21 hC
          refine step_plain rfl ?_
          go_simp
          refine hd.mono ?_
          rintro e w22 ⟨y, rfl, hy0, hy1, hc22, hk22⟩
          obtain ⟨Y9, rfl⟩ : ∃ Y9 : Nat, y = (Y9 : Int) := ⟨y.toNat, by omega⟩
          exact hK.out (.int .i64 (Y9 : Int)) _ (tR_up hF (fun _ => hc22) hk22 4 (by omega) _) (tF_val 4 (by omega) (by omega) (by omega) ((G4.out _).2 ⟨Y9, by omega, rfl⟩)) (fun j hj hf h => tF_up HPw.out (hk22) 4 (by omega) _ j hj (fun e => by subst e; exact absurd (Eq.trans (Eq.symm (by kernel_rfl)) hf) Bool.false_ne_true) h)
        ·
          intro u w21 au hsl hel hu hF hp' K hK
          have hU : u 8 = undef := (hu.out 8 (by decide) (.inr (by kernel_rfl))).trans (by kernel_rfl)
          obtain ⟨hC, hKp⟩ := hF hU
          have HU := hide hU
          obtain ⟨b2, h2, hb2, ht2⟩ := (PreF.get hp' 2 (by kernel_rfl)).2.1 rfl
          have ht2 := ht2 hU
          have tq : au.tmps[58]?.getD undef = u 2 := hsl.out 2 58 (by kernel_rfl)
          rw [h2] at tq
          obtain ⟨z4, hy4, h4⟩ := (G4.out _).1 (PreF.get hp' 4 (by kernel_rfl)).1
          have tq4 : au.tmps[60]?.getD undef = u 4 := hsl.out 4 60 (by kernel_rfl)
          rw [h4] at tq4
          clear hU
          have hz := ht2 z4 hy4
          have hyi : (z4 : Int) < 3 := by omega
          refine step_plain rfl ?_
          go_simp
          exact hK.out (.pointer (some ⟨b2, z4, none⟩)) _ (tR_up hF id (Kept.refl _ _) 5 (by omega) _) (tF_ix (by omega) (by omega) G5.out hb2 hz) (fun j hj hf h => tF_up HPw.out (Kept.refl _ _) 5 (by omega) _ j hj (fun e => by subst e; exact absurd (Eq.trans (Eq.symm (by kernel_rfl)) hf) Bool.false_ne_true) h)
        ·
          intro u w21 au hsl hel hu hF hp' K hK
          have hU : u 8 = undef := (hu.out 8 (by decide) (.inr (by kernel_rfl))).trans (by kernel_rfl)
          obtain ⟨hC, hKp⟩ := hF hU
          have HU := hide hU
          obtain ⟨b5, y5, h5, hb5, ht5⟩ := (PreF.get hp' 5 (by kernel_rfl)).2.2.1 rfl
          obtain ⟨z5, hz5⟩ := ht5 hU
          have tq : au.tmps[61]?.getD undef = u 5 := hsl.out 5 61 (by kernel_rfl)
          rw [h5] at tq
          clear hU
          refine step_plain rfl ?_
          go_simp
          exact hK.out _ _ (tR_up hF id (Kept.refl _ _) 6 (by omega) _) (tF_val 6 (by omega) (by omega) (by omega) ((G6.out _).2 ⟨_, rfl⟩)) (fun j hj hf h => tF_up HPw.out (Kept.refl _ _) 6 (by omega) _ j hj (fun e => by subst e; exact absurd (Eq.trans (Eq.symm (by kernel_rfl)) hf) Bool.false_ne_true) h)
        ·
          intro u w21 au hsl hel hu hF hp' K hK
          have hU : u 8 = undef := (hu.out 8 (by decide) (.inr (by kernel_rfl))).trans (by kernel_rfl)
          obtain ⟨hC, hKp⟩ := hF hU
          have HU := hide hU
          have h1 : u 1 = Value.slice (some ⟨b', 0, none⟩) m' c' := (G1.out _).1 (PreF.get hp' 1 (by kernel_rfl)).1
          have tq : au.tmps[57]?.getD undef = u 1 := hsl.out 1 57 (by kernel_rfl)
          rw [h1] at tq
          clear hU
          refine step_plain rfl ?_
          go_simp
          exact hK.out (.pointer (some ⟨b', 0, none⟩)) _ (tR_up hF id (Kept.refl _ _) 7 (by omega) _) (tF_val 7 (by omega) (by omega) (by omega) ((G7.out _).2 rfl)) (fun j hj hf h => tF_up HPw.out (Kept.refl _ _) 7 (by omega) _ j hj (fun e => by subst e; exact absurd (Eq.trans (Eq.symm (by kernel_rfl)) hf) Bool.false_ne_true) h)
        ·
          intro u w21 au hsl hel hu hF hp' K hK
          have hU : u 8 = undef := (hu.out 8 (by decide) (.inl rfl)).trans (by kernel_rfl)
          obtain ⟨hC, hKp⟩ := hF hU
          have HU := hide hU
          have h7 : u 7 = .pointer (some ⟨b', 0, none⟩) := (G7.out _).1 (PreF.get hp' 7 (by kernel_rfl)).1
          have tq : au.tmps[63]?.getD undef = u 7 := hsl.out 7 63 (by kernel_rfl)
          rw [h7] at tq
          obtain ⟨z6, h6⟩ := (G6.out _).1 (PreF.get hp' 6 (by kernel_rfl)).1
          have tq6 : au.tmps[62]?.getD undef = u 6 := hsl.out 6 62 (by kernel_rfl)
          rw [h6] at tq6
          clear hU
          obtain ⟨xc, xf⟩ := HYc.out _ 0 HM0.out hKp
          have HP : Hid (∃ (w1 : World) (k : Nat) (z : Int), k < m' ∧ w21.setCell ⟨b', 0, none⟩ (.int .i64 z6) = w1.setCell ⟨b', k, none⟩ (.int .i64 z) ∧ Cur p a len cap w1 ∧ Kept p wc w1) := ⟨w21, 0, z6, HM0.out, rfl, hC, hKp⟩
          clear hC hKp
          refine step_plain rfl ?_
          go_simp
          exact hK.out (.bool true) _ (tR_st (by simp [undef])) (tF_done (by omega) (by omega) G8.out (by rw [HPP.out]; exact HP.out)) (fun j hj _ h => tF_st (by simp [undef]) j hj (by omega) (by omega) h)
      · intro u w30 hF hall
        have hP := (hall 8 (by decide)).2.2.2 rfl
        rw [HPP.out] at hP
        obtain ⟨w1, kk, z', hkk, rfl, hC, hKp⟩ := hP
        have HE := hide ((HD8.out.step HP1.out hC hKp).store HP1.out HAB1.out hkk z')
        clear hall hF hC hKp HD8
        simp only [rgPut, Act.put]
        go_simp
        obtain ⟨f3, hE⟩ := HE.out
        have HE2 := hide hE
        clear hE HE
        go_wp2_with fail
        go_meet
        exact ⟨f3, HE2.out⟩
  case rest =>
    obtain ⟨f3, hD⟩ := hcut
    have hR := HR.out
    have hP := HP1.out
    have hl := hD.lt
    have HQ0 := hide (HX2.out.kept hD.kept (by omega))
    have HQ1 := hide (HX2'.out.kept hD.kept (by omega))
    have HBc := hide (HBW.out.trans (hD.kept.below (B := w.heap.size) (by omega) (by omega)))
    have hI : m = 0 ∨ (w.heap.size ≠ b ∧ w.heap.size + 1 ≠ b) := hD.ib.imp id fun h => by omega
    have hS : m' = 0 ∨ (w.heap.size ≠ b' ∧ w.heap.size + 1 ≠ b') := hD.sb.imp id fun h => by omega
    have hpx : Px x m f wc := hD.img.px
    have hpx' : Px x' m' f3 wc := hD.sd.px
    have HN : Hid ((m = 0 ∨ ∀ b off, x = some ⟨b, off, none⟩ → b ≠ w.heap.size ∧ b ≠ w.heap.size + 1) ∧ (m' = 0 ∨ ∀ b off, x' = some ⟨b, off, none⟩ → b ≠ w.heap.size ∧ b ≠ w.heap.size + 1)) := by
      refine ⟨?_, ?_⟩
      · rcases hD.img with h | ⟨h, -⟩
        · exact .inl h
        · refine hI.imp id fun hh b9 off9 e => ?_
          rw [h] at e; cases e; exact ⟨Ne.symm hh.1, Ne.symm hh.2⟩
      · rcases hD.sd with h | ⟨h, -⟩
        · exact .inl h
        · refine hS.imp id fun hh b9 off9 e => ?_
          rw [h] at e; cases e; exact ⟨Ne.symm hh.1, Ne.symm hh.2⟩
    have HXY : Hid (X ≠ w.heap.size ∧ X ≠ w.heap.size + 1 ∧ Y ≠ w.heap.size ∧ Y ≠ w.heap.size + 1) := ⟨by omega, by omega, by omega, by omega⟩
    have HE0 : Hid (∀ u0, eR w (w.heap.size + 1) [.int .i64 W, .int .i64 H, .slice x m c] [.int .i64 W', .int .i64 H', .slice x' m' c'] X Y x m f x' m' f3 u0 wc.drew) := fun _ => ⟨HBc.out.drew, hpx, hpx', hD.bx, hD.by', ⟨_, _, _, HQ0.out⟩, ⟨_, _, _, HQ1.out⟩⟩
    clear HX2 HX2' hD hI hS hR hP hl HQ0 HQ1 HBc HD8 hpx hpx'
    go_upto_region 12 with fail
    refine region_opsV (eR w (w.heap.size + 1) [.int .i64 W, .int .i64 H, .slice x m c] [.int .i64 W', .int .i64 H', .slice x' m' c'] X Y x m f x' m' f3) (eF w (w.heap.size + 1) [.int .i64 W, .int .i64 H, .slice x m c] [.int .i64 W', .int .i64 H', .slice x' m' c'] (im W H x m c) (im W' H' x' m' c')) (by kernel_rfl) (by kernel_rfl) (by kernel_rfl) (by kernel_rfl) (HE0.out _) ?_ ?_
    · refine ⟨?_, ?_, ?_, ?_, trivial⟩
      ·
        intro u w21 au hsl hel hu hF hp' K hK
        have HF := hide hF
        have tq : au.tmps[5]?.getD undef = .pointer (some ⟨X, 0, none⟩) := (hel.out 5 (by kernel_rfl)).trans (by kernel_rfl)
        obtain ⟨-, -, -, hbx, -, -, -⟩ := hF
        obtain ⟨b0, p0⟩ := hbx 0 _ rfl
        obtain ⟨b1, p1⟩ := hbx 1 _ rfl
        obtain ⟨b2, p2⟩ := hbx 2 _ rfl
        clear hbx
        refine step_plain rfl ?_
        go_simp
        exact hK.out (im W H x m c) _ HF.out ⟨fun _ => upU_same _ _ _, fun e => absurd e (by omega), fun e => absurd e (by omega), fun e => absurd e (by omega)⟩ (fun j hj _ h => eF_up 0 _ j hj h)
      ·
        intro u w21 au hsl hel hu hF hp' K hK
        have HF := hide hF
        have tq : au.tmps[6]?.getD undef = .pointer (some ⟨Y, 0, none⟩) := (hel.out 6 (by kernel_rfl)).trans (by kernel_rfl)
        obtain ⟨-, -, -, -, hbx, -, -⟩ := hF
        obtain ⟨b0, p0⟩ := hbx 0 _ rfl
        obtain ⟨b1, p1⟩ := hbx 1 _ rfl
        obtain ⟨b2, p2⟩ := hbx 2 _ rfl
        clear hbx
        refine step_plain rfl ?_
        go_simp
        exact hK.out (im W' H' x' m' c') _ HF.out ⟨fun e => absurd e (by omega), fun _ => upU_same _ _ _, fun e => absurd e (by omega), fun e => absurd e (by omega)⟩ (fun j hj _ h => eF_up 1 _ j hj h)
      ·
        intro u w21 au hsl hel hu hF hp' K hK
        have h0 : u 0 = im W H x m c := (PreF.get hp' 0 (by kernel_rfl)).1 rfl
        have tq : au.tmps[64]?.getD undef = u 0 := hsl.out 0 64 (by kernel_rfl)
        rw [h0] at tq
        have t2 : au.tmps[2]?.getD undef = .pointer (some ⟨w.heap.size, 0, none⟩) := (hel.out 2 (by kernel_rfl)).trans (by kernel_rfl)
        obtain ⟨hb, hp1, hp2, hx5, hx6, ⟨y0, y1, y2, hq⟩, ⟨z0, z1, z2, hr⟩⟩ := hF
        obtain ⟨q0, e0⟩ := hq 0 _ rfl
        obtain ⟨q1, e1⟩ := hq 1 _ rfl
        obtain ⟨q2, e2⟩ := hq 2 _ rfl
        have hXY := HXY.out
        have HF : Hid (eR w (w.heap.size + 1) [.int .i64 W, .int .i64 H, .slice x m c] [.int .i64 W', .int .i64 H', .slice x' m' c'] X Y x m f x' m' f3 (fun _ => undef) (((w21.setCell ⟨w.heap.size, 0, none⟩ (.int .i64 W)).setCell ⟨w.heap.size, 1, none⟩ (.int .i64 H)).setCell ⟨w.heap.size, 2, none⟩ (.slice x m c))) :=
          ⟨below_set3' hb (Nat.le_refl _), hp1.far3 (HN.out.1.imp id fun h b off e => (h b off e).1) _ _ _, hp2.far3 (HN.out.2.imp id fun h b off e => (h b off e).1) _ _ _, hx5.far3 hXY.1 _ _ _, hx6.far3 hXY.2.2.1 _ _ _, ⟨_, _, _, ((hq.set 0 (.int .i64 W)).set 1 (.int .i64 H)).set 2 (.slice x m c)⟩, ⟨_, _, _, hr.far3 (by omega) _ _ _⟩⟩
        have HG : Hid (Bx w.heap.size [.int .i64 W, .int .i64 H, .slice x m c] (((w21.setCell ⟨w.heap.size, 0, none⟩ (.int .i64 W)).setCell ⟨w.heap.size, 1, none⟩ (.int .i64 H)).setCell ⟨w.heap.size, 2, none⟩ (.slice x m c))) := ((hq.set 0 (.int .i64 W)).set 1 (.int .i64 H)).set 2 (.slice x m c)
        clear hb hp1 hp2 hx5 hx6 hq hr hXY h0
        refine step_plain rfl ?_
        go_simp
        exact hK.out (.bool true) _ HF.out ⟨fun e => absurd e (by omega), fun e => absurd e (by omega), fun _ => HG.out, fun e => absurd e (by omega)⟩ (fun j hj _ h => eF_st 2 _ j hj (fun e => absurd e hj) (fun _ => by omega) _ _ _ h)
      ·
        intro u w21 au hsl hel hu hF hp' K hK
        have h0 : u 1 = im W' H' x' m' c' := (PreF.get hp' 1 (by kernel_rfl)).2.1 rfl
        have tq : au.tmps[65]?.getD undef = u 1 := hsl.out 1 65 (by kernel_rfl)
        rw [h0] at tq
        have t2 : au.tmps[3]?.getD undef = .pointer (some ⟨w.heap.size + 1, 0, none⟩) := (hel.out 3 (by kernel_rfl)).trans (by kernel_rfl)
        obtain ⟨hb, hp1, hp2, hx5, hx6, ⟨y0, y1, y2, hq⟩, ⟨z0, z1, z2, hr⟩⟩ := hF
        obtain ⟨q0, e0⟩ := hr 0 _ rfl
        obtain ⟨q1, e1⟩ := hr 1 _ rfl
        obtain ⟨q2, e2⟩ := hr 2 _ rfl
        have hXY := HXY.out
        have HF : Hid (eR w (w.heap.size + 1) [.int .i64 W, .int .i64 H, .slice x m c] [.int .i64 W', .int .i64 H', .slice x' m' c'] X Y x m f x' m' f3 (fun _ => undef) (((w21.setCell ⟨w.heap.size + 1, 0, none⟩ (.int .i64 W')).setCell ⟨w.heap.size + 1, 1, none⟩ (.int .i64 H')).setCell ⟨w.heap.size + 1, 2, none⟩ (.slice x' m' c'))) :=
          ⟨below_set3' hb (by omega), hp1.far3 (HN.out.1.imp id fun h b off e => (h b off e).2) _ _ _, hp2.far3 (HN.out.2.imp id fun h b off e => (h b off e).2) _ _ _, hx5.far3 hXY.2.1 _ _ _, hx6.far3 hXY.2.2.2 _ _ _, ⟨_, _, _, hq.far3 (by omega) _ _ _⟩, ⟨_, _, _, ((hr.set 0 (.int .i64 W')).set 1 (.int .i64 H')).set 2 (.slice x' m' c')⟩⟩
        have HG : Hid (Bx (w.heap.size + 1) [.int .i64 W', .int .i64 H', .slice x' m' c'] (((w21.setCell ⟨w.heap.size + 1, 0, none⟩ (.int .i64 W')).setCell ⟨w.heap.size + 1, 1, none⟩ (.int .i64 H')).setCell ⟨w.heap.size + 1, 2, none⟩ (.slice x' m' c'))) := ((hr.set 0 (.int .i64 W')).set 1 (.int .i64 H')).set 2 (.slice x' m' c')
        clear hb hp1 hp2 hx5 hx6 hq hr hXY h0
        refine step_plain rfl ?_
        go_simp
        exact hK.out (.bool true) _ HF.out ⟨fun e => absurd e (by omega), fun e => absurd e (by omega), fun e => absurd e (by omega), fun _ => HG.out⟩ (fun j hj _ h => eF_st 3 _ j hj (fun _ => by omega) (fun e => absurd e hj) _ _ _ h)
    · intro u w30 hF hall
      have hq := (hall 2 (by decide)).2.2.1 rfl
      have hr := (hall 3 (by decide)).2.2.2 rfl
      have HF : Hid (DWR w (.returned (.tuple #[im W H x m c, im W' H' x' m' c'])) w30) := ⟨W, H, x, m, c, f, W', H', x', m', c', f3, rfl, HM.out, HM8.out, hF.2.1, hF.2.2.1, hF.1⟩
      obtain ⟨q0, e0⟩ := hq 0 _ rfl
      obtain ⟨q1, e1⟩ := hq 1 _ rfl
      obtain ⟨q2, e2⟩ := hq 2 _ rfl
      obtain ⟨r0, s0⟩ := hr 0 _ rfl
      obtain ⟨r1, s1⟩ := hr 1 _ rfl
      obtain ⟨r2, s2⟩ := hr 2 _ rfl
      clear hall hF hq hr HE0 HN HXY
      simp only [rgPut, Act.put]
      go_simp
      go_wp2_with fail
      exact bodyPost_ret (v := .tuple #[im W H x m c, im W' H' x' m' c']) (by simp [results, Try.results6, go_sem, q0, q1, q2, r0, r1, r2]) rfl HF.out

end Go.Proofs.Ytekoioggamhlaaa

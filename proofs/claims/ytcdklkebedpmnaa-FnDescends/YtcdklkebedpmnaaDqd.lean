/- The draws of a descent. -/
import Derived.Test.YtcdklkebedpmnaaDqs
namespace Go.Proofs.Ytcdklkebedpmnaa
open Go.RowKit

/-- an image and a list are drawn, both new -/
def IsD (x : Option Addr) (b n : Nat) (f : Nat → Int) (y : Option Addr) (d m : Nat) (g : Nat → Int) (w w' : World) : Prop :=
  n ≤ 962 ∧ m ≤ 993 ∧ Ow x b n f w' ∧ Ow y d m g w' ∧ (n = 0 ∨ w.heap.size ≤ b) ∧ (m = 0 ∨ w.heap.size ≤ d) ∧ (n = 0 ∨ m = 0 ∨ b ≠ d) ∧ Below w.heap.size w w'
theorem Bx.keptX {b p : Nat} {vs : List Value} {w w' : World} (h : Bx b vs w) (hk : Kept p w w') (hp : b ≠ p) : Bx b vs w' := h.kept hk hp
theorem Ow.keptX {x : Option Addr} {b n p : Nat} {f : Nat → Int} {w w' : World} (h : Ow x b n f w) (hk : Kept p w w') (hp : n = 0 ∨ b ≠ p) : Ow x b n f w' := by
  rcases hp with h0 | h0
  · exact .inl h0
  · exact h.kept hk h0

theorem Cur.keptQ {p q : Nat} {a : Option Addr} {len cap : Nat} {w w' : World} (h : Cur p a len cap w) (hk : Kept q w w') (hp : p ≠ q) (hab : len = 0 ∨ ∀ b off, a = some ⟨b, off, none⟩ → b ≠ q) : Cur p a len cap w' := by
  obtain ⟨h0, ⟨i, hi, h1⟩, ⟨y, h2⟩, f1, f2, hs, hby⟩ := h
  refine ⟨hk.cell (a := ⟨p, 0, none⟩) hp h0, ⟨i, hi, hk.cell (a := ⟨p, 1, none⟩) hp h1⟩, ⟨y, hk.cell (a := ⟨p, 2, none⟩) hp h2⟩, (hk.frozen (a := ⟨p, 1, none⟩) hp h1).trans f1, (hk.frozen (a := ⟨p, 2, none⟩) hp h2).trans f2, hs, ?_⟩
  rcases hab with h0 | hab
  · exact .inl h0
  rcases hby with hby | ⟨b, off, ha, hne, hby⟩
  · exact .inl hby
  · exact .inr ⟨b, off, ha, hne, fun k hk' => by
      obtain ⟨z, z0, z1, hz⟩ := hby k hk'
      exact ⟨z, z0, z1, hk.cell (a := ⟨b, off + k, none⟩) (hab b off ha) hz⟩⟩

set_option maxRecDepth 100000 in
set_option maxHeartbeats 4000000 in
theorem drawMisfit_any (a : Option Addr) (len cap : Nat) (w : World) (h : Bytes a len w) :
    Calls Try.prog 20 #[.slice a len cap] w fun e w' => ∃ W H x b n c f y d m k g, e = .returned (.tuple #[im W H x n c, .slice y m k]) ∧ IsD x b n f y d m g w w' := by
  have hb := bnew w (.cells #[.int .i64 0, .int .i64 0, .slice none 0 0] 26)
  have HX := hide (Bx.new [.int .i64 0, .int .i64 0, .slice none 0 0] 26 w)
  have HB := hide hb
  have h1 := h.below hb
  have HAB := hide (bytes_lt h (Nat.le_refl _))
  have hz : (w.alloc (.cells #[.int .i64 0, .int .i64 0, .slice none 0 0] 26)).heap.size = w.heap.size + 1 := by simp
  have HBY := hide h1
  clear h hb h1
  have hn := new_any a len cap _ HBY.out
  go_enter Try.func20, Try.ntmps20
  go_upto_region 1 with fail
  generalize hw1 : w.alloc (.cells #[.int .i64 0, .int .i64 0, .slice none 0 0] 26) = w1 at *
  clear hw1
  go_wp2_with fail
  refine hn.mono ?_
  rintro e w2 ⟨x0, rfl, rfl⟩
  have hc := cur_new a len cap w1 HBY.out x0
  have hz2 : (w1.alloc (.cells #[.slice a len cap, .int .i64 0, .int .i64 x0] 63)).heap.size = w1.heap.size + 1 := by simp
  have cM := l6DrawAny_any w1.heap.size a len cap _ hc (by omega) (bytes_lt HBY.out (by omega))
  have HB2 := hide (bnew w1 (.cells #[.slice a len cap, .int .i64 0, .int .i64 x0] 63))
  have HX2 := hide (HX.out.below HB2.out (by omega))
  clear hn hc HX HBY
  go_upto_region 2 with fail
  generalize hw2 : w1.alloc (.cells #[.slice a len cap, .int .i64 0, .int .i64 x0] 63) = w2 at *
  clear hw2
  rw [hz] at *
  go_wp2_with fail
  refine cM.mono ?_
  rintro e w3 ⟨W, H, x, b, n, c, f, rfl, hm, ho, hb3, hc3, hk3⟩
  have hs3 := hk3.size
  have hX3 := HX2.out.kept hk3 (by omega)
  have hbl : Below w.heap.size w w3 := (HB.out.trans (HB2.out.mono (by omega))).trans (hk3.below (by omega) (by omega))
  have hb4 := bnew w3 (.cells #[.int .i64 W, .int .i64 H, .slice x n c] 26)
  have HX4 := hide (hX3.below hb4 (by omega))
  have HI4 : Hid (Bx w3.heap.size [.int .i64 W, .int .i64 H, .slice x n c] (w3.alloc (.cells #[.int .i64 W, .int .i64 H, .slice x n c] 26))) := Bx.new [.int .i64 W, .int .i64 H, .slice x n c] _ w3
  have HC4 := hide (hc3.below hb4)
  have HO4 : Hid (Ow x b n f (w3.alloc (.cells #[.int .i64 W, .int .i64 H, .slice x n c] 26))) := OwV.below ho hb4
  have HBL := hide (hbl.trans (hb4.mono (by omega)))
  have hz4 : (w3.alloc (.cells #[.int .i64 W, .int .i64 H, .slice x n c] 26)).heap.size = w3.heap.size + 1 := by simp
  have HBb : Hid (n = 0 ∨ (w.heap.size + 2 ≤ b ∧ b < w3.heap.size)) := by
    by_cases h0 : n = 0
    · exact .inl h0
    · exact .inr ⟨by have := hb3.resolve_left h0; omega, OwV.lt ho h0⟩
  clear cM ho hb3 hc3 hk3 hX3 HX2 HB HB2 hbl hb4
  go_upto_region 3 with fail
  generalize hw4 : w3.alloc (.cells #[.int .i64 W, .int .i64 H, .slice x n c] 26) = w4 at *
  clear hw4
  generalize hX5 : w3.heap.size = X5 at *
  clear hX5
  have cP := l6Prime_any W
  obtain ⟨q0, e0⟩ := HI4.out 0 _ rfl
  obtain ⟨q1, e1⟩ := HI4.out 1 _ rfl
  obtain ⟨q2, e2⟩ := HI4.out 2 _ rfl
  go_wp2_with fail
  refine (cP _).mono ?_
  rintro e w5 ⟨rfl, h5⟩
  obtain rfl := h5.symm
  clear cP
  go_upto_if 15 with fail
  go_cut [6] (fun s wc => ∃ P : Nat, (1 ≤ P ∧ P ≤ 31) ∧ s = .int .i64 (P : Int) ∧ wc = w4)
  case first =>
    cases hpr : priB W
    · go_wp2_with fail
      go_meet
      exact ⟨3, by omega, rfl, rfl⟩
    · obtain ⟨m, rfl, m1, m2, -⟩ := priB_nat hpr
      go_wp2_with fail
      go_meet
      exact ⟨m, by omega, rfl, rfl⟩
  case rest =>
  obtain ⟨P, hP, rfl, hwc⟩ := hcut
  have hwc' := hwc.symm
  subst hwc'
  clear hwc
  have cS := fun wX (hc : Cur (w.heap.size + 1) a len cap wX) (hl : w4.heap.size ≤ wX.heap.size) => drawSums_any (w.heap.size + 1) a len cap P hP wX hc (by omega) (HAB.out.imp id fun h b off e => by have := h b off e; omega)
  have HS0 : Hid (Bx w.heap.size [.int .i64 W, .int .i64 H, .slice x n c] (((w4.drew.setCell ⟨w.heap.size, 0, none⟩ (.int .i64 W)).setCell ⟨w.heap.size, 1, none⟩ (.int .i64 H)).setCell ⟨w.heap.size, 2, none⟩ (.slice x n c))) := (((show Bx w.heap.size [.int .i64 0, .int .i64 0, .slice none 0 0] w4.drew from HX4.out).set 0 (.int .i64 W)).set 1 (.int .i64 H)).set 2 (.slice x n c)
  have hkS : Kept w.heap.size w4 (((w4.drew.setCell ⟨w.heap.size, 0, none⟩ (.int .i64 W)).setCell ⟨w.heap.size, 1, none⟩ (.int .i64 H)).setCell ⟨w.heap.size, 2, none⟩ (.slice x n c)) := ((((Kept.refl w.heap.size w4).drew).setCell (a := ⟨w.heap.size, 0, none⟩) rfl (.int .i64 W)).setCell (a := ⟨w.heap.size, 1, none⟩) rfl (.int .i64 H)).setCell (a := ⟨w.heap.size, 2, none⟩) rfl (.slice x n c)
  have HCS := hide (HC4.out.keptQ hkS (by omega) (HAB.out.imp id fun h b off e => by have := h b off e; omega))
  have HOS := hide (HO4.out.keptX hkS (HBb.out.imp id fun h => by omega))
  have HKS := hide hkS
  have HCd : Hid (Cur (w.heap.size + 1) a len cap w4.drew) := HC4.out.keptQ ((Kept.refl w.heap.size w4).drew) (by omega) (HAB.out.imp id fun h b off e => by have := h b off e; omega)
  have HOd : Hid (Ow x b n f w4.drew) := HO4.out.keptX ((Kept.refl (w.heap.size + 1) w4).drew) (HBb.out.imp id fun h => by omega)
  have HFIN1 : Hid (∀ wq y d m g, Kept (w.heap.size + 1) w4.drew wq → Ow y d m g wq → (m = 0 ∨ w4.drew.heap.size ≤ d) → Bx w.heap.size [.int .i64 W, .int .i64 H, .slice x n c] (((wq.setCell ⟨w.heap.size, 0, none⟩ (.int .i64 W)).setCell ⟨w.heap.size, 1, none⟩ (.int .i64 H)).setCell ⟨w.heap.size, 2, none⟩ (.slice x n c)) ∧ Ow x b n f (((wq.setCell ⟨w.heap.size, 0, none⟩ (.int .i64 W)).setCell ⟨w.heap.size, 1, none⟩ (.int .i64 H)).setCell ⟨w.heap.size, 2, none⟩ (.slice x n c)) ∧ Ow y d m g (((wq.setCell ⟨w.heap.size, 0, none⟩ (.int .i64 W)).setCell ⟨w.heap.size, 1, none⟩ (.int .i64 H)).setCell ⟨w.heap.size, 2, none⟩ (.slice x n c)) ∧ (m = 0 ∨ w4.heap.size ≤ d) ∧ Below w.heap.size w (((wq.setCell ⟨w.heap.size, 0, none⟩ (.int .i64 W)).setCell ⟨w.heap.size, 1, none⟩ (.int .i64 H)).setCell ⟨w.heap.size, 2, none⟩ (.slice x n c))) := fun wq y d m g hk hoy hd =>
    ⟨((((show Bx w.heap.size [.int .i64 0, .int .i64 0, .slice none 0 0] w4.drew from HX4.out).kept hk (by omega)).set 0 (.int .i64 W)).set 1 (.int .i64 H)).set 2 (.slice x n c),
     (HOd.out.keptX hk (HBb.out.imp id fun h => by omega)).set36 (HBb.out.imp id fun h => by omega) _ _ _, hoy.set36 (hd.imp id fun h => by have h' : w4.heap.size ≤ d := h; omega) _ _ _, hd,
     below_set3' (HBL.out.drew.trans (hk.below (by omega) (by show _ ≤ w4.heap.size; omega))) (Nat.le_refl _)⟩
  have HFIN2 : Hid (∀ wq y d m g, Kept (w.heap.size + 1) (((w4.drew.setCell ⟨w.heap.size, 0, none⟩ (.int .i64 W)).setCell ⟨w.heap.size, 1, none⟩ (.int .i64 H)).setCell ⟨w.heap.size, 2, none⟩ (.slice x n c)) wq → Ow y d m g wq → (m = 0 ∨ w4.heap.size ≤ d) → Bx w.heap.size [.int .i64 W, .int .i64 H, .slice x n c] wq ∧ Ow x b n f wq ∧ Ow y d m g wq ∧ (m = 0 ∨ w4.heap.size ≤ d) ∧ Below w.heap.size w wq) := fun wq y d m g hk hoy hd =>
    ⟨HS0.out.kept hk (by omega), HOS.out.keptX hk (HBb.out.imp id fun h => by omega), hoy, hd, (below_set3' HBL.out.drew (Nat.le_refl _)).trans (hk.below (by omega) (by simp; omega))⟩
  have hX5 : w.heap.size + 2 ≤ X5 := by omega
  clear hkS e0 e1 e2 HS0 HOS HC4 HO4
  go_upto_region 6 with fail
  go_cut [3] (fun s wc => ∃ y d m k g, s = .slice y m k ∧ m ≤ 993 ∧ Bx w.heap.size [.int .i64 W, .int .i64 H, .slice x n c] wc ∧ Ow x b n f wc ∧ Ow y d m g wc ∧ (m = 0 ∨ w4.heap.size ≤ d) ∧ Below w.heap.size w wc)
  case first =>
    obtain ⟨r0, s0⟩ := HX4.out 0 _ rfl
    obtain ⟨r1, s1⟩ := HX4.out 1 _ rfl
    obtain ⟨r2, s2⟩ := HX4.out 2 _ rfl
    go_region_with (first
      | (go_at_call 43; (with_reducible refine (cS w4.drew HCd.out (Nat.le_refl _)).mono ?_); rintro e wq ⟨y, d, m, k, g, rfl, hm, hoy, hd, hc, hk⟩; have HF := hide (And.intro hm (HFIN1.out wq y d m g hk hoy hd)); have hq0 := HX4.out; have hrq : Bx w.heap.size [.int .i64 0, .int .i64 0, .slice none 0 0] wq := (show Bx w.heap.size [.int .i64 0, .int .i64 0, .slice none 0 0] w4.drew from HX4.out).kept hk (by omega); have hiq : Bx X5 [.int .i64 W, .int .i64 H, .slice x n c] wq := (show Bx X5 [.int .i64 W, .int .i64 H, .slice x n c] w4.drew from HI4.out).kept hk (by omega); obtain ⟨t0, v0⟩ := hrq 0 _ rfl; obtain ⟨t1, v1⟩ := hrq 1 _ rfl; obtain ⟨t2, v2⟩ := hrq 2 _ rfl; obtain ⟨j0, -⟩ := hiq 0 _ rfl; obtain ⟨j1, -⟩ := hiq 1 _ rfl; obtain ⟨j2, -⟩ := hiq 2 _ rfl; clear hrq hiq hq0 hc hk hoy hd hm)
      | (go_at_call 43; (with_reducible refine (cS _ HCS.out HKS.out.size).mono ?_); rintro e wq ⟨y, d, m, k, g, rfl, hm, hoy, hd, hc, hk⟩; have HF := hide (And.intro hm (HFIN2.out wq y d m g hk hoy (hd.imp id fun h => Nat.le_trans HKS.out.size h))); clear hc hk hoy hd hm))
    all_goals
      go_wp2_with fail
      go_meet
      exact ⟨_, _, _, _, _, rfl, HF.out⟩
  case rest =>
  obtain ⟨y, d, m, k, g, rfl, hm', hR, hox, hoy, hd, hbl⟩ := hcut
  obtain ⟨w6, hw6⟩ : ∃ w6, w6 = wc := ⟨_, rfl⟩
  rw [← hw6] at hR hox hoy hbl
  rw [← hw6]
  clear hw6
  obtain ⟨z0, -⟩ := hR 0 _ rfl
  obtain ⟨z1, -⟩ := hR 1 _ rfl
  obtain ⟨z2, -⟩ := hR 2 _ rfl
  have HE : Hid (n ≤ 962 ∧ m ≤ 993 ∧ Ow x b n f w6 ∧ Ow y d m g w6 ∧ (n = 0 ∨ w.heap.size ≤ b) ∧ (m = 0 ∨ w.heap.size ≤ d) ∧ (n = 0 ∨ m = 0 ∨ b ≠ d) ∧ Below w.heap.size w w6) := ⟨hm, hm', hox, hoy, HBb.out.imp id fun h => by omega, hd.imp id fun h => by omega, by
    rcases HBb.out with h0 | h0
    · exact .inl h0
    · exact .inr (hd.imp id fun h => by omega), hbl⟩
  clear hR hox hoy hd hbl HFIN1 HFIN2 HCd HOd HKS HCS HX4 HI4 HBL HBb cS HAB
  go_wp2_with fail
  exact bodyPost_ret (v := .tuple #[im W H x n c, .slice y m k]) (by simp [results, Try.results20, go_sem, z0, z1, z2]) rfl ⟨W, H, x, b, n, c, f, y, d, m, k, g, rfl, HE.out⟩

end Go.Proofs.Ytcdklkebedpmnaa

namespace Go.Proofs.Ytcdklkebedpmnaa
open Go.RowKit

/-- the table of three, behind a draw -/
theorem tab3D {p : Nat} {w w' : World} (hp : p < w.heap.size) (hk : Kept p (w.alloc (.cells #[.int .i64 (-1), .int .i64 20, .int .i64 21] 2)) w') :
    w'.cell? ⟨w.heap.size, 0, none⟩ = some (.int .i64 (-1)) ∧ w'.cell? ⟨w.heap.size, 1, none⟩ = some (.int .i64 20) ∧ w'.cell? ⟨w.heap.size, 2, none⟩ = some (.int .i64 21) := by
  have hne : w.heap.size ≠ p := by omega
  refine ⟨hk.cell (a := ⟨w.heap.size, 0, none⟩) hne ?_, hk.cell (a := ⟨w.heap.size, 1, none⟩) hne ?_, hk.cell (a := ⟨w.heap.size, 2, none⟩) hne ?_⟩ <;> rw [World.cell?_alloc_new] <;> rfl
/-- what lies while the rounds are drawn: the box of the answer, the box of the image, the two lists -/
structure DZ (p : Nat) (a : Option Addr) (len cap R X : Nat) (vs : List Value) (x : Option Addr) (b n : Nat) (f : Nat → Int) (y : Option Addr) (d m : Nat) (g : Nat → Int) (w wr : World) : Prop where
  cur : Cur p a len cap wr
  res : Bx R [.int .i64 0, .int .i64 0, .slice none 0 0] wr
  box : Bx X vs wr
  ox : Ow x b n f wr
  oy : Ow y d m g wr
  bel : Below w.heap.size w wr
  ne : R ≠ p ∧ X ≠ p ∧ (n = 0 ∨ b ≠ p) ∧ (m = 0 ∨ d ≠ p)
  lt : p < wr.heap.size
theorem DZ.step {p : Nat} {a : Option Addr} {len cap R X : Nat} {vs : List Value} {x : Option Addr} {b n : Nat} {f : Nat → Int} {y : Option Addr} {d m : Nat} {g : Nat → Int} {w wr w' : World} (h : DZ p a len cap R X vs x b n f y d m g w wr) (hp : w.heap.size ≤ p) (hc : Cur p a len cap w') (hk : Kept p wr w') : DZ p a len cap R X vs x b n f y d m g w w' :=
  ⟨hc, h.res.kept hk h.ne.1, h.box.kept hk h.ne.2.1, h.ox.keptX hk h.ne.2.2.1, h.oy.keptX hk h.ne.2.2.2, h.bel.trans (hk.below hp h.bel.size), h.ne, Nat.lt_of_lt_of_le h.lt hk.size⟩
theorem DZ.next {p : Nat} {a : Option Addr} {len cap R X : Nat} {v0 : Value} {vs : List Value} {x : Option Addr} {b n : Nat} {f : Nat → Int} {y : Option Addr} {d m : Nat} {g : Nat → Int} {w wr w' : World} (h : DZ p a len cap R X (v0 :: vs) x b n f y d m g w wr) (hb : Below wr.heap.size wr w') : DZ p a len cap R X (v0 :: vs) x b n f y d m g w w' :=
  ⟨h.cur.below hb, h.res.below hb (World.block_lt_of_cell? wr _ (h.res 0 _ rfl).1), h.box.below hb (World.block_lt_of_cell? wr _ (h.box 0 _ rfl).1), OwV.below h.ox hb, OwV.below h.oy hb, h.bel.trans (hb.mono h.bel.size), h.ne, Nat.lt_of_lt_of_le h.lt hb.size⟩

set_option maxRecDepth 100000 in
set_option maxHeartbeats 4000000 in
theorem drawDescend_any (a : Option Addr) (len cap : Nat) (w : World) (h : Bytes a len w) :
    Calls Try.prog 6 #[.slice a len cap] w fun e w' => ∃ W H x b n c f y d m k g r, e = .returned (.tuple #[im W H x n c, .slice y m k, .int .i64 r]) ∧ IsD x b n f y d m g w w' := by
  have hb := bnew w (.cells #[.int .i64 0, .int .i64 0, .slice none 0 0] 26)
  have HX := hide (Bx.new [.int .i64 0, .int .i64 0, .slice none 0 0] 26 w)
  have HB := hide hb
  have hz : (w.alloc (.cells #[.int .i64 0, .int .i64 0, .slice none 0 0] 26)).heap.size = w.heap.size + 1 := by simp
  have HBY := hide (h.below hb)
  clear h hb
  have hn := drawMisfit_any a len cap _ HBY.out
  go_enter Try.func6, Try.ntmps6
  go_upto_region 1 with fail
  generalize hw1 : w.alloc (.cells #[.int .i64 0, .int .i64 0, .slice none 0 0] 26) = w1 at *
  clear hw1
  go_wp2_with fail
  refine hn.mono ?_
  rintro e w2 ⟨W, H, x, b, n, c, f, y, d, m, k, g, rfl, hn1, hm1, hox, hoy, hbx, hdy, hne, hb2⟩
  have hs2 := hb2.size
  have hb3 := bnew w2 (.cells #[.int .i64 W, .int .i64 H, .slice x n c] 26)
  have hz3 : (w2.alloc (.cells #[.int .i64 W, .int .i64 H, .slice x n c] 26)).heap.size = w2.heap.size + 1 := by simp
  have HX3 := hide ((HX.out.below hb2 (by omega)).below hb3 (by omega))
  have HI3 : Hid (Bx w2.heap.size [.int .i64 W, .int .i64 H, .slice x n c] (w2.alloc (.cells #[.int .i64 W, .int .i64 H, .slice x n c] 26))) := Bx.new [.int .i64 W, .int .i64 H, .slice x n c] _ w2
  have HOx := hide (OwV.below hox hb3)
  have HOy := hide (OwV.below hoy hb3)
  have HBY3 := hide ((HBY.out.below hb2).below hb3)
  have HBL := hide ((HB.out.trans (hb2.mono (by omega))).trans (hb3.mono (by omega)))
  have HNN : Hid (n ≤ 962 ∧ m ≤ 993 ∧ (n = 0 ∨ (w.heap.size + 1 ≤ b ∧ b < w2.heap.size)) ∧ (m = 0 ∨ (w.heap.size + 1 ≤ d ∧ d < w2.heap.size)) ∧ (n = 0 ∨ m = 0 ∨ b ≠ d)) :=
    ⟨hn1, hm1, by
      by_cases h0 : n = 0
      · exact .inl h0
      · exact .inr ⟨by have := hbx.resolve_left h0; omega, OwV.lt hox h0⟩, by
      by_cases h0 : m = 0
      · exact .inl h0
      · exact .inr ⟨by have := hdy.resolve_left h0; omega, OwV.lt hoy h0⟩, hne⟩
  clear hn hn1 hm1 hox hoy hbx hdy hne hb2 hb3 HX HB HBY
  go_upto_region 2 with fail
  generalize hw3 : w2.alloc (.cells #[.int .i64 W, .int .i64 H, .slice x n c] 26) = w3 at *
  clear hw3
  have cN := new_any a len cap w3 HBY3.out
  go_wp2_with fail
  refine cN.mono ?_
  rintro e w4 ⟨x0, rfl, rfl⟩
  have hc := cur_new a len cap w3 HBY3.out x0
  have hb4 := bnew w3 (.cells #[.slice a len cap, .int .i64 0, .int .i64 x0] 63)
  have HD : Hid (DZ w3.heap.size a len cap w.heap.size w2.heap.size [.int .i64 W, .int .i64 H, .slice x n c] x b n f y d m g w (w3.alloc (.cells #[.slice a len cap, .int .i64 0, .int .i64 x0] 63))) :=
    ⟨hc, HX3.out.below hb4 (by omega), HI3.out.below hb4 (by omega), OwV.below HOx.out hb4, OwV.below HOy.out hb4, HBL.out.trans (hb4.mono (by omega)), ⟨by omega, by omega, HNN.out.2.2.1.imp id fun h => by omega, HNN.out.2.2.2.1.imp id fun h => by omega⟩, by simp⟩
  clear cN hc hb4 HX3 HI3 HOx HOy HBY3 HBL
  go_upto_region 3 with fail
  generalize hw4 : w3.alloc (.cells #[.slice a len cap, .int .i64 0, .int .i64 x0] 63) = w4 at *
  clear hw4
  rw [hz3] at HD
  obtain ⟨p, hpp⟩ : ∃ p, p = w2.heap.size + 1 := ⟨_, rfl⟩
  rw [← hpp] at HD ⊢
  have hpw : w.heap.size ≤ p := by omega
  have hd := below_any p a len cap _ HD.out.cur 4 (by omega) (by omega)
  clear hpp
  go_wp2_with fail
  refine hd.mono ?_
  rintro e w5 ⟨i, rfl, hi0, hi1, hc, hk⟩
  have HD5 := hide (HD.out.step hpw hc hk)
  clear hd hc hk HD
  have hd := once_any p a len cap _ HD5.out.cur 12 (by omega) (by omega)
  go_wp2_with fail
  refine hd.mono ?_
  rintro e w6 ⟨q, rfl, hc, hk⟩
  have HD6 := hide (HD5.out.step hpw hc hk)
  clear hd hc hk HD5
  go_upto_if 19 with fail
  go_cut [8] (fun s wc => ∃ r : Int, s = .int .i64 r ∧ DZ p a len cap w.heap.size w2.heap.size [.int .i64 W, .int .i64 H, .slice x n c] x b n f y d m g w wc)
  case first =>
    cases q
    · go_wp2_with fail
      go_meet
      exact ⟨i, rfl, HD6.out⟩
    · have HD7 := hide (HD6.out.next (bnew w6 (.cells #[.int .i64 (-1), .int .i64 20, .int .i64 21] 2)))
      have hp6 := HD6.out.lt
      have hd := below_any p a len cap _ HD7.out.cur 3 (by omega) (by omega)
      clear HD6
      go_wp2_with fail
      refine hd.mono ?_
      rintro e w8 ⟨j, rfl, hj0, hj1, hc, hk⟩
      have HD8 := hide (HD7.out.step hpw hc hk)
      obtain ⟨t0, t1, t2⟩ := tab3D hp6 hk
      clear hd hc hk HD7 hp6
      generalize w6.heap.size = Tq at *
      obtain rfl | rfl | rfl : j = 0 ∨ j = 1 ∨ j = 2 := by omega
      all_goals
        go_wp2_with fail
        go_meet
        exact ⟨_, rfl, HD8.out⟩
  case rest =>
  obtain ⟨r, rfl, hD⟩ := hcut
  obtain ⟨w7, hw7⟩ : ∃ w7, w7 = wc := ⟨_, rfl⟩
  rw [← hw7] at hD
  rw [← hw7]
  clear hw7 HD6
  obtain ⟨r0, s0⟩ := hD.res 0 _ rfl
  obtain ⟨r1, s1⟩ := hD.res 1 _ rfl
  obtain ⟨r2, s2⟩ := hD.res 2 _ rfl
  obtain ⟨j0, -⟩ := hD.box 0 _ rfl
  obtain ⟨j1, -⟩ := hD.box 1 _ rfl
  obtain ⟨j2, -⟩ := hD.box 2 _ rfl
  have hz8 := ((hD.res.set 0 (.int .i64 W)).set 1 (.int .i64 H)).set 2 (.slice x n c)
  have HE : Hid (IsD x b n f y d m g w (((w7.setCell ⟨w.heap.size, 0, none⟩ (.int .i64 W)).setCell ⟨w.heap.size, 1, none⟩ (.int .i64 H)).setCell ⟨w.heap.size, 2, none⟩ (.slice x n c))) :=
    ⟨HNN.out.1, HNN.out.2.1, hD.ox.set36 (HNN.out.2.2.1.imp id fun h => by omega) _ _ _, hD.oy.set36 (HNN.out.2.2.2.1.imp id fun h => by omega) _ _ _, HNN.out.2.2.1.imp id fun h => by omega, HNN.out.2.2.2.1.imp id fun h => by omega, HNN.out.2.2.2.2, below_set3' hD.bel (Nat.le_refl _)⟩
  obtain ⟨w8, hw8⟩ : ∃ w8, ((w7.setCell ⟨w.heap.size, 0, none⟩ (.int .i64 W)).setCell ⟨w.heap.size, 1, none⟩ (.int .i64 H)).setCell ⟨w.heap.size, 2, none⟩ (.slice x n c) = w8 := ⟨_, rfl⟩
  rw [hw8] at HE
  have hz8' : Bx w.heap.size [.int .i64 W, .int .i64 H, .slice x n c] w8 := by rw [← hw8]; exact hz8
  obtain ⟨z0, -⟩ := hz8' 0 _ rfl
  obtain ⟨z1, -⟩ := hz8' 1 _ rfl
  obtain ⟨z2, -⟩ := hz8' 2 _ rfl
  clear hD hz8 hz8' HNN
  go_wp2_with fail
  exact bodyPost_ret (v := .tuple #[im W H x n c, .slice y m k, .int .i64 r]) (by simp [results, Try.results6, go_sem, z0, z1, z2]) rfl ⟨W, H, x, b, n, c, f, y, d, m, k, g, r, rfl, HE.out⟩

end Go.Proofs.Ytcdklkebedpmnaa

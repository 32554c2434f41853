/- The law on frames, walked. -/
import Derived.Test.YtjdbiaoheoialaaIls
import Derived.Deep.Quiet
import Derived.BigQuiet
import Derived.Test.YtjdbiaoheoialaaFfw
import Derived.Test.YtjdbiaoheoialaaDfr
import Derived.Test.YtjdbiaoheoialaaMvj
import Derived.Test.YtjdbiaoheoialaaCpi
import Derived.Test.YtjdbiaoheoialaaCps
import Derived.Test.YtjdbiaoheoialaaIvi
import Derived.Deep.DeepCutAuto
namespace Go.Proofs.Ytjdbiaoheoialaa
open Go.RowKit

/-- a world that came out of another one by making memory -/
def Up (wb : World) : Type := { w' : World // Below wb.heap.size wb w' }
def Up.w {wb : World} (p : Up wb) : World := p.1
theorem Up.below {wb : World} (p : Up wb) : Below wb.heap.size wb p.w := p.2
theorem Up.cell {wb : World} (p : Up wb) {x : Addr} {v : Value} (h : wb.cell? x = some v) : p.w.cell? x = some v := (p.below.cell (World.block_lt_of_cell? _ _ h)).trans h
theorem up_ne (wb : World) : Nonempty (Up wb) := ⟨⟨wb, Below.refl _ _⟩⟩
theorem region_up {P : Program} {id : Nat} {Q : Exit → Act → World → Prop} {a : Act} {wb : World} {l : List Oper} (hm : P.follows .mixedOrders = true) (hB : Region.lexB .any l.toArray = true)
    (h : wpQuiet P l.toArray (fun w' => ∃ p : Up wb, w' = p.w) (fun a' => ∀ w', (∃ p : Up wb, w' = p.w) → Q .normal a' w') l a) : (Code.region id l.toArray true).wp P Q a wb :=
  wp_region_quiet (C := fun w' => ∃ p : Up wb, w' = p.w) hm hB ⟨⟨wb.drew, (Below.refl _ _).drew⟩, rfl⟩ (by simpa using h)
/-- a callee that makes memory alone -/
theorem calls_up {P : Program} {f : FuncId} {args : Array Value} {wb : World} {p : Up wb} {v : Value}
    (h : Calls P f args p.w fun e w' => e = .returned v ∧ Below p.w.heap.size p.w w') : Calls P f args p.w fun e w'' => e = .returned v ∧ ∃ q : Up wb, w'' = q.w :=
  h.mono fun _ w' ⟨he, hb⟩ => ⟨he, ⟨w', bnext p.below (Nat.le_refl _) hb⟩, rfl⟩

end Go.Proofs.Ytjdbiaoheoialaa

namespace Go.Proofs.Ytjdbiaoheoialaa
open Go.RowKit

set_option maxRecDepth 100000 in
set_option maxHeartbeats 16000000 in
theorem fnFrames_walk (a : Option Addr) (len cap : Nat) (w : World) (h : Bytes a len w) :
    Calls Try.prog 3 #[.slice a len cap] w fun e w' => e = .returned (.bool true) ∧ Below w.heap.size w w' := by
  have cB := big_any a len cap w
  have cD := drawCompose_any a len cap w h
  clear h
  by_cases hbig : 1048576 < len
  · rw [decide_eq_true hbig] at cB
    clear cD
    go_enter Try.func3, Try.ntmps3
    go_wp2_with fail
    refine cB.mono ?_
    rintro e w1 ⟨rfl, rfl⟩
    clear cB
    go_wp2_with fail
    go_ret
    exact ⟨rfl, Below.refl _ _⟩
  rw [decide_eq_false hbig] at cB
  have HLEN : Hid (len ≤ 1048576) := by show len ≤ 1048576; omega
  clear hbig
  go_enter Try.func3, Try.ntmps3
  go_wp2_with fail
  refine cB.mono ?_
  rintro e w0 ⟨rfl, rfl⟩
  clear cB
  go_wp2_with fail
  refine cD.mono ?_
  rintro e w1 ⟨D, x0, n0, c0, M, x1, n1, c1, T, E, y0, m0, d0, L, y1, m1, d1, S, rfl, ⟨hn0, hn1, hm0, hm1⟩, hp0, hp1, hq0, hq1, hb⟩
  have HP := hide (And.intro hp0 (And.intro hp1 (And.intro hq0 hq1)))
  have HBL := hide hb
  have HNN := hide (And.intro hn0 (And.intro hn1 (And.intro hm0 hm1)))
  clear cD hp0 hp1 hq0 hq1 hb hn0 hn1 hm0 hm1
  go_upto_region 4 with fail
  have HS2 : Hid (St w1 [(w1.heap.size + 1, [.slice y0 m0 d0, .slice y1 m1 d1, .int .i64 E]), (w1.heap.size, [.slice x0 n0 c0, .slice x1 n1 c1, .int .i64 D])] [] ((w1.alloc (.cells #[.slice x0 n0 c0, .slice x1 n1 c1, .int .i64 D] 26)).alloc (.cells #[.slice y0 m0 d0, .slice y1 m1 d1, .int .i64 E] 26))) := ((St.start w1).box [.slice x0 n0 c0, .slice x1 n1 c1, .int .i64 D] 26).box' [.slice y0 m0 d0, .slice y1 m1 d1, .int .i64 E] 26 (b := w1.heap.size + 1) (by simp)
  generalize (w1.alloc (.cells #[.slice x0 n0 c0, .slice x1 n1 c1, .int .i64 D] 26)).alloc (.cells #[.slice y0 m0 d0, .slice y1 m1 d1, .int .i64 E] 26) = w2 at *
  generalize hY : w1.heap.size + 1 = Y at *
  generalize hX : w1.heap.size = X at *
  clear hX hY
  have hnn := HNN.out
  have hp := HP.out
  have cA := small_any D x0 n0 c0 M (by omega) x1 n1 c1 T (by omega) w2 (hp.1.below HS2.out.below) (hp.2.1.below HS2.out.below)
  obtain ⟨i0, i1, i2⟩ := HS2.out.im3 1 rfl
  clear hnn hp
  go_wp2_with fail
  refine cA.mono ?_
  rintro e w3 ⟨q1, rfl, hs1, hb⟩
  have HS3 := hide (HS2.out.next hb)
  clear cA hb HS2 i0 i1 i2
  cases q1 with
  | false =>
    have HB := hide (HBL.out.trans (HS3.out.below.mono HBL.out.size))
    clear hs1 HS3
    go_wp2_with fail
    go_ret
    exact ⟨rfl, HB.out⟩
  | true =>
  have HS1 : Hid (SmP D n0 M n1 T) := hs1 rfl
  clear hs1
  have hnn := HNN.out
  have hp := HP.out
  have cA := small_any E y0 m0 d0 L (by omega) y1 m1 d1 S (by omega) w3 (hp.2.2.1.below HS3.out.below) (hp.2.2.2.below HS3.out.below)
  obtain ⟨i0, i1, i2⟩ := HS3.out.im3 0 rfl
  clear hnn hp
  go_wp2_with fail
  refine cA.mono ?_
  rintro e w4 ⟨q2, rfl, hs2, hb⟩
  have HS4 := hide (HS3.out.next hb)
  clear cA hb HS3 i0 i1 i2
  cases q2 with
  | false =>
    have HB := hide (HBL.out.trans (HS4.out.below.mono HBL.out.size))
    clear hs2 HS4
    go_wp2_with fail
    go_ret
    exact ⟨rfl, HB.out⟩
  | true =>
  have HS2 : Hid (SmP E m0 L m1 S) := hs2 rfl
  clear hs2
  obtain rfl : n0 = 9 := (frmB_parts HS1.out.1).1
  obtain rfl : n1 = 3 := (frmB_parts HS1.out.1).2.1
  obtain rfl : m0 = 9 := (frmB_parts HS2.out.1).1
  obtain rfl : m1 = 3 := (frmB_parts HS2.out.1).2.1
  clear HNN
  go_upto_region 7 with fail
  have HS5 : Hid (St w1 [(w4.heap.size + 1 + 1, [.slice (some ⟨w4.heap.size, 0, none⟩) 9 9, .slice (some ⟨w4.heap.size + 1, 0, none⟩) 3 3, .int .i64 1]), (w4.heap.size + 1, [.int .i64 0, .int .i64 0, .int .i64 0]), (w4.heap.size, [.int .i64 1, .int .i64 0, .int .i64 0, .int .i64 0, .int .i64 1, .int .i64 0, .int .i64 0, .int .i64 0, .int .i64 1]), (Y, [.slice y0 9 d0, .slice y1 3 d1, .int .i64 E]), (X, [.slice x0 9 c0, .slice x1 3 c1, .int .i64 D])] [] (((w4.alloc (.cells #[.int .i64 1, .int .i64 0, .int .i64 0, .int .i64 0, .int .i64 1, .int .i64 0, .int .i64 0, .int .i64 0, .int .i64 1] 2)).alloc (.cells #[.int .i64 0, .int .i64 0, .int .i64 0] 2)).alloc (.cells #[.slice (some ⟨w4.heap.size, 0, none⟩) 9 9, .slice (some ⟨w4.heap.size + 1, 0, none⟩) 3 3, .int .i64 1] 26))) := ((HS4.out.box [.int .i64 1, .int .i64 0, .int .i64 0, .int .i64 0, .int .i64 1, .int .i64 0, .int .i64 0, .int .i64 0, .int .i64 1] 2).box' [.int .i64 0, .int .i64 0, .int .i64 0] 2 (b := w4.heap.size + 1) (by simp)).box' [.slice (some ⟨w4.heap.size, 0, none⟩) 9 9, .slice (some ⟨w4.heap.size + 1, 0, none⟩) 3 3, .int .i64 1] 26 (b := w4.heap.size + 1 + 1) (by simp)
  have hp := HP.out
  have HF : Hid (FS w0 X Y (w4.heap.size + 1 + 1) D x0 c0 M x1 c1 T E y0 d0 L y1 d1 S w4.heap.size (w4.heap.size + 1) (((w4.alloc (.cells #[.int .i64 1, .int .i64 0, .int .i64 0, .int .i64 0, .int .i64 1, .int .i64 0, .int .i64 0, .int .i64 0, .int .i64 1] 2)).alloc (.cells #[.int .i64 0, .int .i64 0, .int .i64 0] 2)).alloc (.cells #[.slice (some ⟨w4.heap.size, 0, none⟩) 9 9, .slice (some ⟨w4.heap.size + 1, 0, none⟩) 3 3, .int .i64 1] 26))) := ⟨HBL.out.trans (HS5.out.below.mono HBL.out.size), HS5.out.bxAt 4 rfl, HS5.out.bxAt 3 rfl, HS5.out.bxAt 0 rfl, hp.1.below HS5.out.below, hp.2.1.below HS5.out.below, hp.2.2.1.below HS5.out.below, hp.2.2.2.below HS5.out.below, oneM_px (HS5.out.bxAt 2 rfl), zero_px (HS5.out.bxAt 1 rfl)⟩
  clear hp HP HBL HS4 HS5
  generalize ((w4.alloc (.cells #[.int .i64 1, .int .i64 0, .int .i64 0, .int .i64 0, .int .i64 1, .int .i64 0, .int .i64 0, .int .i64 0, .int .i64 1] 2)).alloc (.cells #[.int .i64 0, .int .i64 0, .int .i64 0] 2)).alloc (.cells #[.slice (some ⟨w4.heap.size, 0, none⟩) 9 9, .slice (some ⟨w4.heap.size + 1, 0, none⟩) 3 3, .int .i64 1] 26) = w5 at *
  generalize w4.heap.size + 1 + 1 = Z at *
  generalize w4.heap.size + 1 = o1 at *
  generalize w4.heap.size = o0 at *
  have cS := specCompose_any D x0 9 c0 M (by omega) x1 3 c1 T (by omega) E y0 9 d0 L (by omega) y1 3 d1 S (by omega) w5 HF.out.m HF.out.t HF.out.l HF.out.s
  have kI := fun w h0 h1 h2 h3 => implCompose_any D x0 9 c0 M (by omega) x1 3 c1 T (by omega) E y0 9 d0 L (by omega) y1 3 d1 S (by omega) w h0 h1 h2 h3
  obtain ⟨q, hq⟩ : ∃ q, q = cmQ D 9 M 3 T E 9 L 3 S := ⟨_, rfl⟩
  rw [← hq] at cS
  simp only [← hq] at kI
  have HQ := hide hq
  clear hq
  obtain ⟨a0, -⟩ := HF.out.a 0 _ rfl
  obtain ⟨a1, -⟩ := HF.out.a 1 _ rfl
  obtain ⟨a2, -⟩ := HF.out.a 2 _ rfl
  obtain ⟨b0, -⟩ := HF.out.b 0 _ rfl
  obtain ⟨b1, -⟩ := HF.out.b 1 _ rfl
  obtain ⟨b2, -⟩ := HF.out.b 2 _ rfl
  go_wp2_with fail
  refine cS.mono ?_
  rintro e w6 hfx
  obtain ⟨g06, k06, e06, g16, k16, e16, rfl, -, -, -, -, -, hb⟩ := hfx.u
  have HF6 := hide (HF.out.next (hb.trans ((bnew w6 (.cells #[.slice g06 (qn q 9) e06, .slice g16 (qn q 3) e16, .int .i64 (qD q (cmD D M T E L S))] 26)).mono hb.size)))
  clear cS hfx hb HF a0 a1 a2 b0 b1 b2
  go_upto_region 8 with fail
  generalize w6.alloc (.cells #[.slice g06 (qn q 9) e06, .slice g16 (qn q 3) e16, .int .i64 (qD q (cmD D M T E L S))] 26) = w7 at *
  have kI7 := kI w7 HF6.out.m HF6.out.t HF6.out.l HF6.out.s
  obtain ⟨a0, -⟩ := HF6.out.a 0 _ rfl
  obtain ⟨a1, -⟩ := HF6.out.a 1 _ rfl
  obtain ⟨a2, -⟩ := HF6.out.a 2 _ rfl
  obtain ⟨b0, -⟩ := HF6.out.b 0 _ rfl
  obtain ⟨b1, -⟩ := HF6.out.b 1 _ rfl
  obtain ⟨b2, -⟩ := HF6.out.b 2 _ rfl
  go_wp2_with fail
  refine kI7.mono ?_
  rintro e w8 hfx
  obtain ⟨g0, k0, e0, g1, k1, e1, rfl, hg0, hg1, -, -, -, hb⟩ := hfx.u
  have hbn := bnew w8 (.cells #[.slice g0 (qn q 9) e0, .slice g1 (qn q 3) e1, .int .i64 (qD q (cmD D M T E L S))] 26)
  have HF8 := hide (HF6.out.next (hb.trans (hbn.mono hb.size)))
  have HC := hide (Bx.new [.slice g0 (qn q 9) e0, .slice g1 (qn q 3) e1, .int .i64 (qD q (cmD D M T E L S))] 26 w8)
  have HG := hide (And.intro (hg0.px.below hbn) (hg1.px.below hbn))
  clear kI kI7 hfx hb hbn hg0 hg1 HF6 a0 a1 a2 b0 b1 b2
  go_upto_region 9 with fail
  generalize w8.alloc (.cells #[.slice g0 (qn q 9) e0, .slice g1 (qn q 3) e1, .int .i64 (qD q (cmD D M T E L S))] 26) = w9 at *
  generalize w8.heap.size = C at *
  have HC' : Hid (Bx C [.slice g0 (qn q 9) e0, .slice g1 (qn q 3) e1, .int .i64 (qD q (cmD D M T E L S))] w9) := HC.out
  clear HC
  go_upto_if 58 with fail
  go_cut [] (fun wc => FS w0 X Y Z D x0 c0 M x1 c1 T E y0 d0 L y1 d1 S o0 o1 wc)
  case first =>
    cases q with
    | false =>
      go_wp2_with fail
      go_meet
      exact HF8.out
    | true =>
      have HC : Hid (Bx C [.slice g0 9 e0, .slice g1 3 e1, .int .i64 (cmD D M T E L S)] w9) := HC'.out
      have HGP : Hid (Px g0 9 (cmM D M T E L S) w9 ∧ Px g1 3 (cmT D M T E L S) w9) := HG.out
      clear HC' HG
      obtain ⟨hA, hhA⟩ : ∃ hA, hA = hndV D 9 M 3 T := ⟨_, rfl⟩
      obtain ⟨hB, hhB⟩ : ∃ hB, hB = hndV E 9 L 3 S := ⟨_, rfl⟩
      obtain ⟨hC, hhC⟩ : ∃ hC, hC = hndV (cmD D M T E L S) 9 (cmM D M T E L S) 3 (cmT D M T E L S) := ⟨_, rfl⟩
      have wAB : IntKind.i64.wrap (hA * hB) = hC := by
        rw [hhC, hnd_mul HQ.out.symm, hhA, hhB]
        rcases hnd_of (D := D) (n0 := 9) (M := M) (n1 := 3) (T := T) with h | h | h <;> rcases hnd_of (D := E) (n0 := 9) (M := L) (n1 := 3) (T := S) with h' | h' | h' <;> rw [h, h'] <;> rfl
      have SK : Nonempty (Up w9) := up_ne w9
      have k1' : ∀ p : Up w9, Calls Try.prog 9 #[vFrame D x0 9 c0 x1 3 c1] p.w fun e w' => e = .returned (.int .i64 hA) ∧ Below p.w.heap.size p.w w' := fun p => by
        rw [hhA]; exact implHanded_any D x0 9 c0 M (by omega) x1 3 c1 T (by omega) p.w (HF8.out.m.below p.below) (HF8.out.t.below p.below)
      have k2' : ∀ p : Up w9, Calls Try.prog 9 #[vFrame E y0 9 d0 y1 3 d1] p.w fun e w' => e = .returned (.int .i64 hB) ∧ Below p.w.heap.size p.w w' := fun p => by
        rw [hhB]; exact implHanded_any E y0 9 d0 L (by omega) y1 3 d1 S (by omega) p.w (HF8.out.l.below p.below) (HF8.out.s.below p.below)
      have k3' : ∀ p : Up w9, Calls Try.prog 9 #[vFrame (cmD D M T E L S) g0 9 e0 g1 3 e1] p.w fun e w' => e = .returned (.int .i64 hC) ∧ Below p.w.heap.size p.w w' := fun p => by
        rw [hhC]; exact implHanded_any _ g0 9 e0 _ (by omega) g1 3 e1 _ (by omega) p.w (HGP.out.1.below p.below) (HGP.out.2.below p.below)
      have k4' : ∀ p : Up w9, Calls Try.prog 10 #[vFrame D x0 9 c0 x1 3 c1] p.w fun e w' => e = .returned (.int .i64 hA) ∧ Below p.w.heap.size p.w w' := fun p => by
        rw [hhA]; exact specHanded_any D x0 9 c0 M (by omega) x1 3 c1 T (by omega) p.w (HF8.out.m.below p.below) (HF8.out.t.below p.below)
      clear hhA hhB hhC
      obtain ⟨a0, -⟩ := HF8.out.a 0 _ rfl
      obtain ⟨a1, -⟩ := HF8.out.a 1 _ rfl
      obtain ⟨a2, -⟩ := HF8.out.a 2 _ rfl
      obtain ⟨b0, -⟩ := HF8.out.b 0 _ rfl
      obtain ⟨b1, -⟩ := HF8.out.b 1 _ rfl
      obtain ⟨b2, -⟩ := HF8.out.b 2 _ rfl
      obtain ⟨z0, -⟩ := HC.out 0 _ rfl
      obtain ⟨z1, -⟩ := HC.out 1 _ rfl
      obtain ⟨z2, -⟩ := HC.out 2 _ rfl
      have ua0 := fun p : Up w9 => p.cell a0
      have ua1 := fun p : Up w9 => p.cell a1
      have ua2 := fun p : Up w9 => p.cell a2
      have ub0 := fun p : Up w9 => p.cell b0
      have ub1 := fun p : Up w9 => p.cell b1
      have ub2 := fun p : Up w9 => p.cell b2
      have uz0 := fun p : Up w9 => p.cell z0
      have uz1 := fun p : Up w9 => p.cell z1
      have uz2 := fun p : Up w9 => p.cell z2
      have tC : (hC != hC) = false := by simp
      have tA : (hA != hA) = false := by simp
      clear a0 a1 a2 b0 b1 b2 z0 z1 z2
      go_upto_region 12 with fail
      refine region_up (by kernel_rfl) (by kernel_rfl) ?_
      repeat (go_big_quiet_step ((first | (go_at_call 9; first | with_reducible exact calls_up (k1' _) | with_reducible exact calls_up (k2' _) | with_reducible exact calls_up (k3' _)) | (go_at_call 10; with_reducible exact calls_up (k4' _)) | exact rfl)))
      refine wpQuiet_nil ?_
      intro _ hw2
      obtain ⟨pq, hw3⟩ := hw2
      subst hw3
      have HF9 := hide (HF8.out.next pq.below)
      have HCc := hide (HC.out.below pq.below HC.out.lt)
      have HGc := hide (And.intro (HGP.out.1.below pq.below) (HGP.out.2.below pq.below))
      clear ua0 ua1 ua2 ub0 ub1 ub2 uz0 uz1 uz2 k1' k2' k3' k4' HF8 HC HGP SK
      obtain ⟨wp, hwp⟩ : ∃ wp, wp = pq.w := ⟨_, rfl⟩
      rw [← hwp] at HF9 HCc HGc
      rw [← hwp]
      clear hwp wAB tA tC
      go_upto_region 17 with fail
      have hl := HLEN.out
      have e1' : wrap64 ((len : Int) / 41) = (len : Int) / 41 := by unfold wrap64; omega
      have e2' : ((len : Int) / 41).tmod 41 = ((len : Int) / 41) % 41 := Int.tmod_eq_emod_of_nonneg (by omega)
      rw [e1', e2']
      obtain ⟨xx, hxx⟩ : ∃ xx : Int, xx = (len : Int) % 41 - 20 := ⟨_, rfl⟩
      obtain ⟨yy, hyy⟩ : ∃ yy : Int, yy = wrap64 ((len : Int) / 41 % 41 - 20) := ⟨_, rfl⟩
      rw [← hxx, ← hyy]
      obtain ⟨zz, hzz⟩ : ∃ zz : Int, zz = wrap64 (xx + yy) := ⟨_, rfl⟩
      rw [← hzz]
      have bx : -20 ≤ xx ∧ xx ≤ 20 := by omega
      have by' : -20 ≤ yy ∧ yy ≤ 20 := by unfold wrap64 at hyy; omega
      have bz : -40 ≤ zz ∧ zz ≤ 40 := by unfold wrap64 at hzz; omega
      obtain ⟨V, pd, U, qd, hV, hU, hpd, hqd, bV, bU, hEq⟩ := movs HQ.out.symm HS2.out bx by' bz
      have HNUM := hide (And.intro bV (And.intro bU hEq))
      have HPD := hide (And.intro hpd hqd)
      have tp : ¬ pd ≤ 0 := by omega
      have tq : ¬ qd ≤ 0 := by omega
      have kM := implMove_any E y0 9 d0 L (by omega) y1 3 d1 S (by omega) xx yy zz wp HF9.out.l HF9.out.s
      rw [hV] at kM
      have kN := fun w h h' => implMove_any (cmD D M T E L S) g0 9 e0 (cmM D M T E L S) (by omega) g1 3 e1 (cmT D M T E L S) (by omega) xx yy zz w h h'
      simp only [hU] at kN
      clear hl e1' e2' hxx hyy hzz bx by' bz hV hU hpd hqd bV bU hEq
      obtain ⟨b0, -⟩ := HF9.out.b 0 _ rfl
      obtain ⟨b1, -⟩ := HF9.out.b 1 _ rfl
      obtain ⟨b2, -⟩ := HF9.out.b 2 _ rfl
      go_wp2_with fail
      refine kM.mono ?_
      rintro e wq ⟨rfl, hb⟩
      have hbn := bnew wq (.cells #[.int .i64 (V 0), .int .i64 (V 1), .int .i64 (V 2), .int .i64 pd] 34)
      have hbt := hb.trans (hbn.mono hb.size)
      have HFa := hide (HF9.out.next hbt)
      have HCa := hide (HCc.out.below hbt HCc.out.lt)
      have HGa := hide (And.intro (HGc.out.1.below hbt) (HGc.out.2.below hbt))
      have HPa := hide (Bx.new [.int .i64 (V 0), .int .i64 (V 1), .int .i64 (V 2), .int .i64 pd] 34 wq)
      clear kM hb hbn hbt HF9 HCc HGc b0 b1 b2
      go_upto_region 18 with fail
      generalize wq.alloc (.cells #[.int .i64 (V 0), .int .i64 (V 1), .int .i64 (V 2), .int .i64 pd] 34) = wr at *
      generalize wq.heap.size = P at *
      have HPa' : Hid (Bx P [.int .i64 (V 0), .int .i64 (V 1), .int .i64 (V 2), .int .i64 pd] wr) := HPa.out
      clear HPa
      have kN' := kN wr HGa.out.1 HGa.out.2
      obtain ⟨z0, -⟩ := HCa.out 0 _ rfl
      obtain ⟨z1, -⟩ := HCa.out 1 _ rfl
      obtain ⟨z2, -⟩ := HCa.out 2 _ rfl
      go_wp2_with fail
      refine kN'.mono ?_
      rintro e ws ⟨rfl, hb⟩
      have hbn := bnew ws (.cells #[.int .i64 (U 0), .int .i64 (U 1), .int .i64 (U 2), .int .i64 qd] 34)
      have hbt := hb.trans (hbn.mono hb.size)
      have HFb := hide (HFa.out.next hbt)
      have HPb := hide (HPa'.out.below hbt HPa'.out.lt)
      have HQb := hide (Bx.new [.int .i64 (U 0), .int .i64 (U 1), .int .i64 (U 2), .int .i64 qd] 34 ws)
      clear kN kN' hb hbn hbt HFa HCa HGa HPa' z0 z1 z2
      go_upto_region 19 with fail
      generalize ws.alloc (.cells #[.int .i64 (U 0), .int .i64 (U 1), .int .i64 (U 2), .int .i64 qd] 34) = wt at *
      generalize ws.heap.size = R at *
      have HQb' : Hid (Bx R [.int .i64 (U 0), .int .i64 (U 1), .int .i64 (U 2), .int .i64 qd] wt) := HQb.out
      clear HQb
      obtain ⟨p0, -⟩ := HPb.out 0 _ rfl
      obtain ⟨p1, -⟩ := HPb.out 1 _ rfl
      obtain ⟨p2, -⟩ := HPb.out 2 _ rfl
      obtain ⟨p3, -⟩ := HPb.out 3 _ rfl
      obtain ⟨q0, -⟩ := HQb'.out 0 _ rfl
      obtain ⟨q1, -⟩ := HQb'.out 1 _ rfl
      obtain ⟨q2, -⟩ := HQb'.out 2 _ rfl
      obtain ⟨q3, -⟩ := HQb'.out 3 _ rfl
      have hba := bnew wt (.cells #[.int .i64 (V 0), .int .i64 (V 1), .int .i64 (V 2)] 2)
      have hbb := bnew (wt.alloc (.cells #[.int .i64 (V 0), .int .i64 (V 1), .int .i64 (V 2)] 2)) (.cells #[.int .i64 (U 0), .int .i64 (U 1), .int .i64 (U 2)] 2)
      have hs1 : (wt.alloc (.cells #[.int .i64 (V 0), .int .i64 (V 1), .int .i64 (V 2)] 2)).heap.size = wt.heap.size + 1 := by simp
      have hs2 : wt.heap.size < (wt.alloc (.cells #[.int .i64 (V 0), .int .i64 (V 1), .int .i64 (V 2)] 2)).heap.size := by omega
      have hbt := hba.trans (hbb.mono hba.size)
      have HFl := hide (HFb.out.next hbt)
      have hqv := HQb'.out.below hba HQb'.out.lt
      obtain ⟨qa0, -⟩ := hqv 0 _ rfl
      obtain ⟨qa1, -⟩ := hqv 1 _ rfl
      obtain ⟨qa2, -⟩ := hqv 2 _ rfl
      have HPl := hide (HPb.out.below hbt HPb.out.lt)
      have HQl := hide (HQb'.out.below hbt HQb'.out.lt)
      have HVl := hide ((Bx.new [.int .i64 (V 0), .int .i64 (V 1), .int .i64 (V 2)] 2 wt).below hbb hs2)
      have HUl : Hid (Bx (wt.heap.size + 1) [.int .i64 (U 0), .int .i64 (U 1), .int .i64 (U 2)] ((wt.alloc (.cells #[.int .i64 (V 0), .int .i64 (V 1), .int .i64 (V 2)] 2)).alloc (.cells #[.int .i64 (U 0), .int .i64 (U 1), .int .i64 (U 2)] 2))) := by
        have h := Bx.new [.int .i64 (U 0), .int .i64 (U 1), .int .i64 (U 2)] 2 (wt.alloc (.cells #[.int .i64 (V 0), .int .i64 (V 1), .int .i64 (V 2)] 2))
        rw [hs1] at h
        exact h
      clear hba hbb hs1 hs2 hbt HFb HPb HQb' hqv
      go_upto_region 23 with fail
      clear p0 p1 p2 p3 q0 q1 q2 q3 qa0 qa1 qa2 tp tq
      generalize (wt.alloc (.cells #[.int .i64 (V 0), .int .i64 (V 1), .int .i64 (V 2)] 2)).alloc (.cells #[.int .i64 (U 0), .int .i64 (U 1), .int .i64 (U 2)] 2) = wl at *
      generalize wt.heap.size + 1 = bu at *
      generalize wt.heap.size = bv at *
      have HPm : Hid (Bx P [.int .i64 (V 0), .int .i64 (V 1), .int .i64 (V 2), .int .i64 pd] wl) := HPl.out
      have HQm : Hid (Bx R [.int .i64 (U 0), .int .i64 (U 1), .int .i64 (U 2), .int .i64 qd] wl) := HQl.out
      have HVm : Hid (Bx bv [.int .i64 (V 0), .int .i64 (V 1), .int .i64 (V 2)] wl) := HVl.out
      have HUm : Hid (Px (some ⟨bu, 0, none⟩) 3 (fo3 (U 0) (U 1) (U 2)) wl) := fo3_px HUl.out
      have hfo : ∀ k, k < 3 → fo3 (U 0) (U 1) (U 2) k = U k := fun k hk => by
        match k, hk with
        | 0, _ => rfl
        | 1, _ => rfl
        | 2, _ => rfl
      have HFO := hide hfo
      clear HPl HQl HVl HUl hfo
      obtain ⟨bm, om, rfl, _⟩ := HFl.out.m.lt (by omega)
      obtain ⟨bt, ot, rfl, _⟩ := HFl.out.t.lt (by omega)
      go_wp2_with fail
      go_loopw [17] (fun i wr => ∃ k t : Nat, k ≤ 3 ∧ i = .int .i64 k ∧ wr = wl.drewN t) (fun i _ => 3 - (intOf i).toNat)
      case atStart => exact ⟨0, 0, by omega, rfl, rfl⟩
      case round =>
        obtain ⟨k, t, hk, rfl, rfl⟩ := hrel
        by_cases hlt : k < 3
        · obtain ⟨-, hsD, hsM, hsT⟩ := HS1.out
          obtain ⟨-, -, hD1, -, -, -, -⟩ := frmB_parts HS1.out.1
          obtain ⟨n1, n2, n3, n4, s1, s2, n, d, l, f1, f2, f3, f4, f5, f6, f7, f8, f9, f10⟩ := rnd (hsM (3 * k) (by omega)) (hsM (3 * k + 1) (by omega)) (hsM (3 * k + 2) (by omega)) (hsT k hlt) ⟨hD1.1, hsD⟩ (HNUM.out.1 0 (by omega)) (HNUM.out.1 1 (by omega)) (HNUM.out.1 2 (by omega)) HPD.out.1 (HNUM.out.2.1 k hlt) (HNUM.out.2.2 k hlt)
          obtain ⟨_, _, g1', z0⟩ := HFl.out.m.at (show 3 * k < 9 by omega)
          cases g1'
          obtain ⟨_, _, g1', z1⟩ := HFl.out.m.at (show 3 * k + 1 < 9 by omega)
          cases g1'
          obtain ⟨_, _, g1', z2⟩ := HFl.out.m.at (show 3 * k + 2 < 9 by omega)
          cases g1'
          obtain ⟨_, _, g1', zt⟩ := HFl.out.t.at hlt
          cases g1'
          obtain ⟨_, _, g1', zu⟩ := HUm.out.at hlt
          cases g1'
          rw [HFO.out k hlt] at zu
          simp only [Nat.zero_add] at zu
          obtain ⟨a0, -⟩ := HFl.out.a 0 _ rfl
          obtain ⟨a1, -⟩ := HFl.out.a 1 _ rfl
          obtain ⟨a2, -⟩ := HFl.out.a 2 _ rfl
          obtain ⟨p3, -⟩ := HPm.out 3 _ rfl
          obtain ⟨q3, -⟩ := HQm.out 3 _ rfl
          obtain ⟨v0, -⟩ := HVm.out 0 _ rfl
          obtain ⟨v1, -⟩ := HVm.out 1 _ rfl
          obtain ⟨v2, -⟩ := HVm.out 2 _ rfl
          have k0' : IntKind.i64.wrap (3 * (k : Int)) = ((3 * k : Nat) : Int) := by rw [IntKind.wrap_i64]; omega
          have k1' : IntKind.i64.wrap (((3 * k : Nat) : Int) + 1) = ((3 * k + 1 : Nat) : Int) := by rw [IntKind.wrap_i64]; omega
          have k2' : IntKind.i64.wrap (((3 * k : Nat) : Int) + 2) = ((3 * k + 2 : Nat) : Int) := by rw [IntKind.wrap_i64]; omega
          have l0' : ((3 * k : Nat) : Int) < 9 := by omega
          have l1' : ((3 * k + 1 : Nat) : Int) < 9 := by omega
          have l2' : ((3 * k + 2 : Nat) : Int) < 9 := by omega
          have kl : (k : Int) < 3 := by omega
          have tl : (l != l) = false := by simp
          have HJ : Hid (k + 1 ≤ 3) := by show _ ≤ _; omega
          clear hsD hsM hsT hD1
          generalize M (3 * k) = A0 at *
          generalize M (3 * k + 1) = A1 at *
          generalize M (3 * k + 2) = A2 at *
          generalize T k = Tk at *
          generalize U k = Uk at *
          generalize V 0 = V0 at *
          generalize V 1 = V1 at *
          generalize V 2 = V2 at *
          generalize 3 * k + 1 = K1 at *
          generalize 3 * k + 2 = K2 at *
          generalize 3 * k = K0 at *
          clear HLEN HS1 HS2 HQ HFl HNUM HPD HPm HQm HVm HUm HFO
          go_upto_region 26 with fail
          go_quiet (fail)
          go_wp2_with fail
          go_quiet (fail)
          go_wp2_with fail
          exact ⟨⟨k + 1, _, HJ.out, rfl, rfl⟩, by simp [intOf]; omega⟩
        · obtain rfl : k = 3 := by omega
          have HFz : Hid (FS w0 X Y Z D (some ⟨bm, om, none⟩) c0 M (some ⟨bt, ot, none⟩) c1 T E y0 d0 L y1 d1 S o0 o1 (wl.drewN t)) := HFl.out.next (below_drewN (Below.refl _ wl) t)
          go_wp2_with fail
          go_meet
          exact HFz.out
  case rest =>
    clear HF8 HC' HG HQ HLEN HS1 HS2
    have HF : Hid (FS w0 X Y Z D x0 c0 M x1 c1 T E y0 d0 L y1 d1 S o0 o1 wc) := hcut
    clear hcut
    have kS := specInvert_any D x0 9 c0 M (by omega) x1 3 c1 T (by omega) wc HF.out.m HF.out.t
    have kI := fun w h0 h1 => implInvert_any D x0 9 c0 M (by omega) x1 3 c1 T (by omega) w h0 h1
    obtain ⟨q', hq⟩ : ∃ q', q' = ivQ D 9 M 3 T := ⟨_, rfl⟩
    rw [← hq] at kS
    simp only [← hq] at kI
    have HQ := hide hq
    clear hq
    obtain ⟨a0, -⟩ := HF.out.a 0 _ rfl
    obtain ⟨a1, -⟩ := HF.out.a 1 _ rfl
    obtain ⟨a2, -⟩ := HF.out.a 2 _ rfl
    go_wp2_with fail
    refine kS.mono ?_
    rintro e v1 hfx
    obtain ⟨_, _, _, _, _, _, rfl, -, -, -, -, -, hb⟩ := hfx.u
    have HF1 := hide (HF.out.next hb)
    clear kS hfx hb HF a0 a1 a2
    go_upto_region 30 with fail
    have kI1 := kI v1 HF1.out.m HF1.out.t
    obtain ⟨a0, -⟩ := HF1.out.a 0 _ rfl
    obtain ⟨a1, -⟩ := HF1.out.a 1 _ rfl
    obtain ⟨a2, -⟩ := HF1.out.a 2 _ rfl
    go_wp2_with fail
    refine kI1.mono ?_
    rintro e v2 hfx
    clear kI kI1 a0 a1 a2
    cases q' with
    | false =>
      obtain ⟨i0, k0', e0', i1, k1', e1', rfl, -, -, -, -, -, hb⟩ := hfx.u
      have HB := hide (HF1.out.next (hb.trans ((bnew v2 (.cells #[.slice i0 (qn false 9) e0', .slice i1 (qn false 3) e1', .int .i64 (qD false (ivD D M T))] 26)).mono hb.size))).below
      clear hfx hb HF1
      go_wp2_with fail
      go_ret
      exact ⟨rfl, HB.out⟩
    | true =>
    obtain ⟨i0, k0', e0', i1, k1', e1', rfl, hg0, hg1, -, -, -, hb⟩ := hfx.u
    have hbn := bnew v2 (.cells #[.slice i0 (qn true 9) e0', .slice i1 (qn true 3) e1', .int .i64 (qD true (ivD D M T))] 26)
    have HF2 := hide (HF1.out.next (hb.trans (hbn.mono hb.size)))
    have HI := hide (Bx.new [.slice i0 (qn true 9) e0', .slice i1 (qn true 3) e1', .int .i64 (qD true (ivD D M T))] 26 v2)
    have HG2 := hide (And.intro (hg0.px.below hbn) (hg1.px.below hbn))
    clear hfx hb hbn hg0 hg1 HF1
    go_upto_region 31 with fail
    generalize v2.alloc (.cells #[.slice i0 (qn true 9) e0', .slice i1 (qn true 3) e1', .int .i64 (qD true (ivD D M T))] 26) = v3 at *
    generalize v2.heap.size = I at *
    have HI3 : Hid (Bx I [.slice i0 9 e0', .slice i1 3 e1', .int .i64 (ivD D M T)] v3) := HI.out
    have HG3 : Hid (Px i0 9 (ivM D M T) v3 ∧ Px i1 3 (ivT D M T) v3) := HG2.out
    have HSM := hide (inv_sam HQ.out.symm)
    clear HI HG2
    have kC := implCompose_any (ivD D M T) i0 9 e0' (ivM D M T) (by omega) i1 3 e1' (ivT D M T) (by omega) D x0 9 c0 M (by omega) x1 3 c1 T (by omega) v3 HG3.out.1 HG3.out.2 HF2.out.m HF2.out.t
    rw [(inv_cmQ HQ.out.symm).1] at kC
    obtain ⟨a0, -⟩ := HF2.out.a 0 _ rfl
    obtain ⟨a1, -⟩ := HF2.out.a 1 _ rfl
    obtain ⟨a2, -⟩ := HF2.out.a 2 _ rfl
    obtain ⟨j0, -⟩ := HI3.out 0 _ rfl
    obtain ⟨j1, -⟩ := HI3.out 1 _ rfl
    obtain ⟨j2, -⟩ := HI3.out 2 _ rfl
    go_wp2_with fail
    refine kC.mono ?_
    rintro e v4 hfx
    obtain ⟨r01, k01, f01, r11, k11, f11, rfl, hg0, hg1, -, -, -, hb⟩ := hfx.u
    have hbn := bnew v4 (.cells #[.slice r01 (qn true 9) f01, .slice r11 (qn true 3) f11, .int .i64 (qD true (cmD (ivD D M T) (ivM D M T) (ivT D M T) D M T))] 26)
    have hbt := hb.trans (hbn.mono hb.size)
    have HF4 := hide (HF2.out.next hbt)
    have HI4 := hide (HI3.out.below hbt HI3.out.lt)
    have HG4 := hide (And.intro (HG3.out.1.below hbt) (HG3.out.2.below hbt))
    have HR := hide (Bx.new [.slice r01 (qn true 9) f01, .slice r11 (qn true 3) f11, .int .i64 (qD true (cmD (ivD D M T) (ivM D M T) (ivT D M T) D M T))] 26 v4)
    have HRG := hide (And.intro (hg0.px.below hbn) (hg1.px.below hbn))
    clear kC hfx hb hbn hbt hg0 hg1 HF2 HI3 HG3 a0 a1 a2 j0 j1 j2
    go_upto_region 35 with fail
    generalize v4.alloc (.cells #[.slice r01 (qn true 9) f01, .slice r11 (qn true 3) f11, .int .i64 (qD true (cmD (ivD D M T) (ivM D M T) (ivT D M T) D M T))] 26) = v5 at *
    generalize v4.heap.size = R1 at *
    have HR5 : Hid (Bx R1 [.slice r01 9 f01, .slice r11 3 f11, .int .i64 (cmD (ivD D M T) (ivM D M T) (ivT D M T) D M T)] v5) := HR.out
    have HRG5 : Hid (Px r01 9 (cmM (ivD D M T) (ivM D M T) (ivT D M T) D M T) v5 ∧ Px r11 3 (cmT (ivD D M T) (ivM D M T) (ivT D M T) D M T) v5) := HRG.out
    clear HR HRG
    have kC := implCompose_any D x0 9 c0 M (by omega) x1 3 c1 T (by omega) (ivD D M T) i0 9 e0' (ivM D M T) (by omega) i1 3 e1' (ivT D M T) (by omega) v5 HF4.out.m HF4.out.t HG4.out.1 HG4.out.2
    rw [(inv_cmQ HQ.out.symm).2] at kC
    obtain ⟨a0, -⟩ := HF4.out.a 0 _ rfl
    obtain ⟨a1, -⟩ := HF4.out.a 1 _ rfl
    obtain ⟨a2, -⟩ := HF4.out.a 2 _ rfl
    obtain ⟨j0, -⟩ := HI4.out 0 _ rfl
    obtain ⟨j1, -⟩ := HI4.out 1 _ rfl
    obtain ⟨j2, -⟩ := HI4.out 2 _ rfl
    go_wp2_with fail
    refine kC.mono ?_
    rintro e v6 hfx
    obtain ⟨r02, k02, f02, r12, k12, f12, rfl, hg0, hg1, -, -, -, hb⟩ := hfx.u
    have hbn := bnew v6 (.cells #[.slice r02 (qn true 9) f02, .slice r12 (qn true 3) f12, .int .i64 (qD true (cmD D M T (ivD D M T) (ivM D M T) (ivT D M T)))] 26)
    have hbt := hb.trans (hbn.mono hb.size)
    have HF6 := hide (HF4.out.next hbt)
    have HR6 := hide (HR5.out.below hbt HR5.out.lt)
    have HRG6 := hide (And.intro (HRG5.out.1.below hbt) (HRG5.out.2.below hbt))
    have HQ6 := hide (Bx.new [.slice r02 (qn true 9) f02, .slice r12 (qn true 3) f12, .int .i64 (qD true (cmD D M T (ivD D M T) (ivM D M T) (ivT D M T)))] 26 v6)
    have HQG := hide (And.intro (hg0.px.below hbn) (hg1.px.below hbn))
    clear kC hfx hb hbn hbt hg0 hg1 HF4 HI4 HG4 HR5 HRG5 HQ a0 a1 a2 j0 j1 j2
    go_upto_region 36 with fail
    generalize v6.alloc (.cells #[.slice r02 (qn true 9) f02, .slice r12 (qn true 3) f12, .int .i64 (qD true (cmD D M T (ivD D M T) (ivM D M T) (ivT D M T)))] 26) = v7 at *
    generalize v6.heap.size = R2 at *
    have HQ7 : Hid (Bx R2 [.slice r02 9 f02, .slice r12 3 f12, .int .i64 (cmD D M T (ivD D M T) (ivM D M T) (ivT D M T))] v7) := HQ6.out
    have HQG7 : Hid (Px r02 9 (cmM D M T (ivD D M T) (ivM D M T) (ivT D M T)) v7 ∧ Px r12 3 (cmT D M T (ivD D M T) (ivM D M T) (ivT D M T)) v7) := HQG.out
    clear HQ6 HQG
    have kE := implSameFrame_any (cmD (ivD D M T) (ivM D M T) (ivT D M T) D M T) r01 9 f01 (cmM (ivD D M T) (ivM D M T) (ivT D M T) D M T) (by omega) r11 3 f11 (cmT (ivD D M T) (ivM D M T) (ivT D M T) D M T) (by omega) 1 (some ⟨o0, 0, none⟩) 9 9 oneM (by omega) (some ⟨o1, 0, none⟩) 3 3 (fun _ => 0) (by omega) v7 HRG6.out.1 HRG6.out.2 HF6.out.om HF6.out.ot
    rw [HSM.out.1] at kE
    obtain ⟨z0, -⟩ := HF6.out.one 0 _ rfl
    obtain ⟨z1, -⟩ := HF6.out.one 1 _ rfl
    obtain ⟨z2, -⟩ := HF6.out.one 2 _ rfl
    obtain ⟨j0, -⟩ := HR6.out 0 _ rfl
    obtain ⟨j1, -⟩ := HR6.out 1 _ rfl
    obtain ⟨j2, -⟩ := HR6.out 2 _ rfl
    go_wp2_with fail
    refine kE.mono ?_
    rintro e v8 ⟨rfl, hb⟩
    have HF8 := hide (HF6.out.next hb)
    have HQ8 := hide (HQ7.out.below hb HQ7.out.lt)
    have kE := implSameFrame_any (cmD D M T (ivD D M T) (ivM D M T) (ivT D M T)) r02 9 f02 (cmM D M T (ivD D M T) (ivM D M T) (ivT D M T)) (by omega) r12 3 f12 (cmT D M T (ivD D M T) (ivM D M T) (ivT D M T)) (by omega) 1 (some ⟨o0, 0, none⟩) 9 9 oneM (by omega) (some ⟨o1, 0, none⟩) 3 3 (fun _ => 0) (by omega) v8 (HQG7.out.1.below hb) (HQG7.out.2.below hb) HF8.out.om HF8.out.ot
    rw [HSM.out.2] at kE
    clear hb HF6 HR6 HRG6 HQ7 HQG7 z0 z1 z2 j0 j1 j2
    obtain ⟨z0, -⟩ := HF8.out.one 0 _ rfl
    obtain ⟨z1, -⟩ := HF8.out.one 1 _ rfl
    obtain ⟨z2, -⟩ := HF8.out.one 2 _ rfl
    obtain ⟨j0, -⟩ := HQ8.out 0 _ rfl
    obtain ⟨j1, -⟩ := HQ8.out 1 _ rfl
    obtain ⟨j2, -⟩ := HQ8.out 2 _ rfl
    go_wp2_with fail
    refine kE.mono ?_
    rintro e v9 ⟨rfl, hb⟩
    have HB := hide (HF8.out.next hb).below
    clear hb HF8 HQ8 HSM kE z0 z1 z2 j0 j1 j2
    go_wp2_with fail
    go_ret
    exact ⟨rfl, HB.out⟩

end Go.Proofs.Ytjdbiaoheoialaa

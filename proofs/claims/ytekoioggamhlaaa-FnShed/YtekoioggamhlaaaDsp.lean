/- An image is spoilt, walked. -/
import Derived.Test.YtekoioggamhlaaaDsd
namespace Go.Proofs.Ytekoioggamhlaaa
open Go.RowKit

set_option maxRecDepth 100000 in
set_option maxHeartbeats 4000000 in
theorem spoil_any : Spoils := by
  intro p a len cap W H o n c f hn h1 w h hp hab hr hop
  have hol : o < w.heap.size := World.block_lt_of_cell? w _ (hr 0 h1).1
  have hb2 := bnext (bnew w (.cells #[.int .i64 W, .int .i64 H, .slice (some ⟨o, 0, none⟩) n c] 26)) (Nat.le_refl _) (bnew _ (.cells #[.int .i64 0, .int .i64 0, .slice none 0 0] 26))
  have HS0 : Hid (SP p a len cap w [.int .i64 W, .int .i64 H, .slice (some ⟨o, 0, none⟩) n c] ((w.alloc (.cells #[.int .i64 W, .int .i64 H, .slice (some ⟨o, 0, none⟩) n c] 26)).alloc (.cells #[.int .i64 0, .int .i64 0, .slice none 0 0] 26))) := by
    refine ⟨h.below hb2, Kept.of_below hb2, (Bx.new [.int .i64 W, .int .i64 H, .slice (some ⟨o, 0, none⟩) n c] 26 w).below (bnew _ _) (by simp), ?_, by simp⟩
    have := Bx.new [.int .i64 0, .int .i64 0, .slice none 0 0] 26 (w.alloc (.cells #[.int .i64 W, .int .i64 H, .slice (some ⟨o, 0, none⟩) n c] 26))
    simpa using this
  have HR0 := hide (hr.below hb2 hol)
  have c5 := below_any p a len cap _ HS0.out.cur 5 (by omega) (by omega)
  have HAB := hide hab
  clear h hb2 hab hr
  go_enter Try.func19, Try.ntmps19
  go_wp2_with fail
  refine c5.mono ?_
  rintro e w2 ⟨x, rfl, x0, x1, hc, hk⟩
  have HS := hide (HS0.out.step hp hc hk)
  have HR := hide (HR0.out.kept hk hop)
  clear c5 hc hk HS0 HR0
  go_upto_block 0 with fail
  go_cut [] (fun wc => ∃ (W' H' : Int) (x' : Option Addr) (b' m' c' : Nat) (f' : Nat → Int), m' ≤ n + 1 ∧ SP p a len cap w [.int .i64 W', .int .i64 H', .slice x' m' c'] wc ∧ Ow x' b' m' f' wc ∧ (m' = 0 ∨ ((b' = o ∨ w.heap.size ≤ b') ∧ b' ≠ p ∧ b' ≠ w.heap.size + 1)))
  case first =>
    have hx : x = 0 ∨ x = 1 ∨ x = 2 ∨ x = 3 ∨ x = 4 := by omega
    clear x0 x1
    rcases hx with rfl | rfl | rfl | rfl | rfl
    · have HSe := hide (HS.out.set hp HAB.out 0 (.int .i64 (wrap64 (W + 1))))
      have HRe := hide (HR.out.set (p := ⟨w.heap.size, 0, none⟩) (by show w.heap.size ≠ o; omega) (.int .i64 (wrap64 (W + 1))))
      obtain ⟨b0, p0⟩ := HS.out.box 0 _ rfl
      obtain ⟨b1, p1⟩ := HS.out.box 1 _ rfl
      obtain ⟨b2, p2⟩ := HS.out.box 2 _ rfl
      obtain ⟨q0, e0⟩ := HS.out.res 0 _ rfl
      obtain ⟨q1, e1⟩ := HS.out.res 1 _ rfl
      obtain ⟨q2, e2⟩ := HS.out.res 2 _ rfl
      go_wp2_with fail
      go_meet
      exact ⟨_, _, _, o, _, _, _, by omega, HSe.out, .inr ⟨rfl, HRe.out⟩, .inr ⟨.inl rfl, hop, by omega⟩⟩
    · have cO := odd_any p a len cap _ HS.out.cur
      go_wp2_with fail
      refine cO.mono ?_
      rintro e w3 ⟨y, rfl, hc, hk⟩
      have HS3 := hide (HS.out.step hp hc hk)
      have HR3 := hide (HR.out.kept hk hop)
      clear cO hc hk HS HR
      have HSe := hide (HS3.out.set hp HAB.out 1 (.int .i64 y))
      have HRe := hide (HR3.out.set (p := ⟨w.heap.size, 1, none⟩) (by show w.heap.size ≠ o; omega) (.int .i64 y))
      obtain ⟨b0, p0⟩ := HS3.out.box 0 _ rfl
      obtain ⟨b1, p1⟩ := HS3.out.box 1 _ rfl
      obtain ⟨b2, p2⟩ := HS3.out.box 2 _ rfl
      obtain ⟨q0, e0⟩ := HS3.out.res 0 _ rfl
      obtain ⟨q1, e1⟩ := HS3.out.res 1 _ rfl
      obtain ⟨q2, e2⟩ := HS3.out.res 2 _ rfl
      go_wp2_with fail
      go_meet
      exact ⟨_, _, _, o, _, _, _, by omega, HSe.out, .inr ⟨rfl, HRe.out⟩, .inr ⟨.inl rfl, hop, by omega⟩⟩
    · obtain ⟨ti, hi1, hi2, hi3, hi4⟩ := info2
      have HI1 := hide hi1
      have HE := hide (World.ownsRow_lit (e := 2) (size := 1) w2 #[] 0 (Nat.le_refl _) (by unfold maxLen; omega) rfl)
      have HBe := hide (bnew w2 (.cells #[] 2))
      have sB : w.heap.size < w2.heap.size := by have := HS.out.sz; omega
      have sR : w.heap.size + 1 < w2.heap.size := by have := HS.out.sz; omega
      have so : o < w2.heap.size := World.block_lt_of_cell? w2 _ (HR.out 0 h1).1
      have HCe : Hid (∀ j, j < n * 1 → (w2.alloc (.cells #[] 2)).cell? ⟨o, j, none⟩ = some (.int .i64 (((List.range n).map f).getD j 0))) := fun j hj => by
        rw [rng_at (by omega)]
        exact ((HR.out.below HBe.out so) j (by omega)).1
      have M1 : Hid (((List.range n).map f).length = n * 1) := by show _ = _; simp
      have M2 : Hid (0 + n ≤ maxLen) := by show _ ≤ _; unfold maxLen; omega
      have M3 : Hid ((0 + n) * 8 ≤ 140737488355328) := by show _ ≤ _; omega
      have M4 : Hid (w2.heap.size ≤ (w2.alloc (.cells #[] 2)).heap.size) := HBe.out.size
      obtain ⟨b0, p0⟩ := HS.out.box 0 _ rfl
      obtain ⟨b1, p1⟩ := HS.out.box 1 _ rfl
      obtain ⟨b2, p2⟩ := HS.out.box 2 _ rfl
      obtain ⟨q0, e0⟩ := HS.out.res 0 _ rfl
      obtain ⟨q1, e1⟩ := HS.out.res 1 _ rfl
      obtain ⟨q2, e2⟩ := HS.out.res 2 _ rfl
      clear hi1
      go_wp2_with (refine growFrom _ rfl _ _ 24 rfl w2.heap.size 2 ti (.int .i64 0) 1 8 Try.underlying24 HI1.out hi2 hi3 hi4 rfl (by omega) _ 0 [] rfl w2 HE.out HBe.out M4.out ((List.range n).map f) o n c rfl M1.out HCe.out M2.out M3.out ?_)
      intro v' w' ho' hb' hb''
      have ho2 : w'.ownsRow w2.heap.size 2 1 v' n (ints ((List.range n).map f)) := by
        simpa using ho'
      obtain ⟨a1, cap1, bb, rfl, ow, hB1, hlt1⟩ := ow_of_some ho2 h1
      rw [Nat.mul_one] at ow
      have HS3 := hide (HS.out.grown hp HAB.out (hb'.mono HS.out.sz))
      have HO2 := hide ho2
      clear ho' ho2 hb' hb'' HE HBe HCe M1 M2 M3 M4 HS HR b0 p0 b1 p1 b2 p2 q0 e0 q1 e1 q2 e2
      have HS4 := hide (HS3.out.set hp HAB.out 2 (.slice a1 n cap1))
      have HO4 := hide (owns_kept HO2.out (Kept.setCell (a := ⟨w.heap.size, 2, none⟩) (Kept.refl w.heap.size w') rfl (.slice a1 n cap1)) sB)
      have G1 : Hid (w2.heap.size ≤ (w'.setCell ⟨w.heap.size, 2, none⟩ (.slice a1 n cap1)).heap.size) := by
        show _ ≤ _
        simp
        omega
      have G2 : Hid (n + 1 ≤ maxLen) := by show _ ≤ _; unfold maxLen; omega
      have G3 : Hid ((n + 1) * 8 ≤ 140737488355328) := by show _ ≤ _; omega
      obtain ⟨b0, p0⟩ := HS3.out.box 0 _ rfl
      obtain ⟨b1, p1⟩ := HS3.out.box 1 _ rfl
      obtain ⟨b2, p2⟩ := HS3.out.box 2 _ rfl
      obtain ⟨q0, e0⟩ := HS3.out.res 0 _ rfl
      obtain ⟨q1, e1⟩ := HS3.out.res 1 _ rfl
      obtain ⟨q2, e2⟩ := HS3.out.res 2 _ rfl
      clear HO2 ow
      go_upto_region 8 with fail
      clear HS3 b0 p0 b1 p1 b2 p2 q0 e0 q1 e1 q2 e2
      generalize w'.setCell ⟨w.heap.size, 2, none⟩ (.slice a1 n cap1) = w4 at *
      have HS4' : Hid (SP p a len cap w [.int .i64 W, .int .i64 H, .slice a1 n cap1] w4) := HS4.out
      clear HS4
      generalize hv4 : Value.slice a1 n cap1 = v4 at *
      have HV4 := hide hv4
      clear hv4
      have HBr := hide (Below.refl w2.heap.size w4)
      have sB' : w.heap.size < w4.heap.size := by have := G1.out; omega
      obtain ⟨b0, p0⟩ := HS4'.out.box 0 _ rfl
      obtain ⟨b1, p1⟩ := HS4'.out.box 1 _ rfl
      obtain ⟨b2, p2⟩ := HS4'.out.box 2 _ rfl
      obtain ⟨q0, e0⟩ := HS4'.out.res 0 _ rfl
      obtain ⟨q1, e1⟩ := HS4'.out.res 1 _ rfl
      obtain ⟨q2, e2⟩ := HS4'.out.res 2 _ rfl
      go_wp2_with (at_builtin; refine grow w4 rfl (.tmp 26) (.tmp 27) 24 rfl w2.heap.size 2 ti (.int .i64 0) 1 8 Try.underlying24 HI1.out hi2 hi3 hi4 rfl (by omega) v4 n ((List.range n).map f) rfl _ HO4.out HBr.out G1.out [0] 1 1 rfl rfl G2.out G3.out ?_)
      intro v5 w5 ho5 hb5 hs5
      obtain ⟨a2, cap2, b5, rfl, ow5, hB5, hlt5⟩ := ow_of_some ho5 (by omega)
      rw [Nat.mul_one] at ow5
      have HS5 : Hid (SP p a len cap w [.int .i64 W, .int .i64 H, v4] w5) := HS4'.out.grown hp HAB.out (hb5.mono (by omega))
      have HSe := hide (HS5.out.set hp HAB.out 2 (.slice a2 (n + 1) cap2))
      have hxe : ∀ b off, a2 = some ⟨b, off, none⟩ → b ≠ w.heap.size + 1 ∧ b ≠ w.heap.size := fun b off e => by
        rcases ow5 with h | ⟨e2, -⟩
        · omega
        · rw [e2] at e; cases e; omega
      have hpe : Ow a2 b5 (n + 1) (fun q => ((List.range n).map f ++ [0]).getD q 0) (w5.setCell ⟨w.heap.size, 2, none⟩ (.slice a2 (n + 1) cap2)) := by
        refine ow5.kept (Kept.setCell (a := ⟨w.heap.size, 2, none⟩) (Kept.refl w.heap.size w5) rfl (.slice a2 (n + 1) cap2)) (by omega)
      have HB5 : Hid ((b5 = o ∨ w.heap.size ≤ b5) ∧ b5 ≠ p ∧ b5 ≠ w.heap.size + 1) := ⟨.inr (by omega), by omega, by omega⟩
      have HPe := hide hpe
      have HXe := hide hxe
      clear b0 p0 b1 p1 b2 p2 q0 e0 q1 e1 q2 e2
      obtain ⟨b0, p0⟩ := HS5.out.box 0 _ rfl
      obtain ⟨b1, p1⟩ := HS5.out.box 1 _ rfl
      obtain ⟨b2, p2⟩ := HS5.out.box 2 _ rfl
      obtain ⟨q0, e0⟩ := HS5.out.res 0 _ rfl
      obtain ⟨q1, e1⟩ := HS5.out.res 1 _ rfl
      obtain ⟨q2, e2⟩ := HS5.out.res 2 _ rfl
      clear HS4' HO4 G1 G2 G3 HBr ho5 hb5 hs5 ow5 hpe hxe HS5
      go_wp2_with fail
      go_meet
      exact ⟨_, _, _, b5, _, _, _, by omega, HSe.out, HPe.out, .inr HB5.out⟩
    · obtain ⟨ti, hi1, hi2, hi3, hi4⟩ := info2
      have HI1 := hide hi1
      have HE := hide (World.ownsRow_lit (e := 2) (size := 1) w2 #[] 0 (Nat.le_refl _) (by unfold maxLen; omega) rfl)
      have HBe := hide (bnew w2 (.cells #[] 2))
      have sB : w.heap.size < w2.heap.size := by have := HS.out.sz; omega
      have sR : w.heap.size + 1 < w2.heap.size := by have := HS.out.sz; omega
      have so : o < w2.heap.size := World.block_lt_of_cell? w2 _ (HR.out 0 h1).1
      have HCe : Hid (∀ j, j < n * 1 → (w2.alloc (.cells #[] 2)).cell? ⟨o, j, none⟩ = some (.int .i64 (((List.range n).map f).getD j 0))) := fun j hj => by
        rw [rng_at (by omega)]
        exact ((HR.out.below HBe.out so) j (by omega)).1
      have M1 : Hid (((List.range n).map f).length = n * 1) := by show _ = _; simp
      have M2 : Hid (0 + n ≤ maxLen) := by show _ ≤ _; unfold maxLen; omega
      have M3 : Hid ((0 + n) * 8 ≤ 140737488355328) := by show _ ≤ _; omega
      have M4 : Hid (w2.heap.size ≤ (w2.alloc (.cells #[] 2)).heap.size) := HBe.out.size
      obtain ⟨b0, p0⟩ := HS.out.box 0 _ rfl
      obtain ⟨b1, p1⟩ := HS.out.box 1 _ rfl
      obtain ⟨b2, p2⟩ := HS.out.box 2 _ rfl
      obtain ⟨q0, e0⟩ := HS.out.res 0 _ rfl
      obtain ⟨q1, e1⟩ := HS.out.res 1 _ rfl
      obtain ⟨q2, e2⟩ := HS.out.res 2 _ rfl
      clear hi1
      go_wp2_with (refine growFrom _ rfl _ _ 24 rfl w2.heap.size 2 ti (.int .i64 0) 1 8 Try.underlying24 HI1.out hi2 hi3 hi4 rfl (by omega) _ 0 [] rfl w2 HE.out HBe.out M4.out ((List.range n).map f) o n c rfl M1.out HCe.out M2.out M3.out ?_)
      intro v' w' ho' hb' hb''
      have ho2 : w'.ownsRow w2.heap.size 2 1 v' n (ints ((List.range n).map f)) := by
        simpa using ho'
      obtain ⟨a1, cap1, bb, rfl, ow, hB1, hlt1⟩ := ow_of_some ho2 h1
      rw [Nat.mul_one] at ow
      have HS3 := hide (HS.out.grown hp HAB.out (hb'.mono HS.out.sz))
      have HO2 := hide ho2
      clear ho' ho2 hb' hb'' HE HBe HCe M1 M2 M3 M4 HS HR b0 p0 b1 p1 b2 p2 q0 e0 q1 e1 q2 e2
      rcases ow with ow | ⟨rfl, ow⟩
      · omega
      have HR4 := hide (ow.set (p := ⟨w.heap.size, 2, none⟩) (by show w.heap.size ≠ bb; omega) (.slice (some ⟨bb, 0, none⟩) n cap1))
      have HS4 := hide (HS3.out.set hp HAB.out 2 (.slice (some ⟨bb, 0, none⟩) n cap1))
      have hbp : bb ≠ p := by omega
      have nb0 : ¬ bb = w.heap.size := by omega
      have nb1 : ¬ bb = w.heap.size + 1 := by omega
      have nb2 : ¬ w.heap.size = bb := by omega
      have nb3 : ¬ w.heap.size + 1 = bb := by omega
      obtain ⟨b0, p0⟩ := HS3.out.box 0 _ rfl
      obtain ⟨b1, p1⟩ := HS3.out.box 1 _ rfl
      obtain ⟨b2, p2⟩ := HS3.out.box 2 _ rfl
      obtain ⟨q0, e0⟩ := HS3.out.res 0 _ rfl
      obtain ⟨q1, e1⟩ := HS3.out.res 1 _ rfl
      obtain ⟨q2, e2⟩ := HS3.out.res 2 _ rfl
      clear HO2 ow
      go_upto_region 12 with fail
      clear HS3 b0 p0 b1 p1 b2 p2 q0 e0 q1 e1 q2 e2
      generalize w'.setCell ⟨w.heap.size, 2, none⟩ (.slice (some ⟨bb, 0, none⟩) n cap1) = w4 at *
      have HSd : Hid (SP p a len cap w [.int .i64 W, .int .i64 H, .slice (some ⟨bb, 0, none⟩) n cap1] w4.drew) := SP.drew HS4.out
      have lb : bb < w4.heap.size := World.block_lt_of_cell? w4 _ (HR4.out 0 h1).1
      have HSt := hide (HS4.out.grown hp HAB.out ((bnew w4 (.cells tab5 2)).mono HS4.out.sz)).drew
      have HRd : Hid (Row bb n (fun q => ((List.range n).map f).getD q 0) w4.drew) := HR4.out
      have HRt : Hid (Row bb n (fun q => ((List.range n).map f).getD q 0) (w4.alloc (.cells tab5 2)).drew) := HR4.out.below (bnew w4 (.cells tab5 2)).drew lb
      have b2 := (HSd.out.box 2 _ rfl).1
      have S0 : Hid (w4.drew.cell? ⟨w.heap.size, 2, none⟩ = some (.slice (some ⟨bb, 0, none⟩) n cap1)) := b2
      have b2w : w4.cell? ⟨w.heap.size, 2, none⟩ = some (.slice (some ⟨bb, 0, none⟩) n cap1) := S0.out
      have cB := fun w' h => belowW_any p a len cap w' h n (by omega) (by omega)
      have c4 := fun w' h => below_any p a len cap w' h 4 (by omega) (by omega)
      clear HS4 HR4
      have l4 : w.heap.size < w4.heap.size := by have := HSd.out.sz; simp at this; omega
      clear b2 b2w HSt HRt
      refine wp_region_held_drew (S := fun (w' : World) => w'.cell? ⟨w.heap.size, 2, none⟩ = some (.slice (some ⟨bb, 0, none⟩) n cap1)) (by kernel_rfl) S0.out (fun hHeld => ?_)
      generalize w4.drew = wd at *
      refine wpAnyH_take (i := 0) (oi := { dst := some 41, op := Op.fieldAddr 26 (Operand.tmp 3) 2, type := 0, pos := "l02_phantom.go:233", after := #[], guard := none }) (v := ?_) rfl (by kernel_rfl) (by kernel_rfl) (by kernel_rfl) (fun _ _ _ h => h) (Or.inl ⟨by rfl, ?hy1⟩) (by assumption) ?rest1
      case hy1 => (intro w' hSw; (try dsimp only at hSw); go_simp; try with_reducible rfl)
      (try simp only [Act.put, List.setIfInBounds_toArray, List.set_cons_zero, List.set_cons_succ])
      refine wpAnyH_take (i := 1) (oi := { dst := some 42, op := Op.load 24 (Operand.tmp 41), type := 24, pos := "l02_phantom.go:233", after := #[{ on := 0, ground := Ground.data }], guard := none }) (v := ?_) rfl (by kernel_rfl) (by kernel_rfl) (by kernel_rfl) (fun _ _ _ h => h) (Or.inl ⟨by rfl, ?hy2⟩) (by assumption) ?rest2
      case hy2 => (intro w' hSw; (try dsimp only at hSw); go_simp; try with_reducible rfl)
      (try simp only [Act.put, List.setIfInBounds_toArray, List.set_cons_zero, List.set_cons_succ])
      refine wpAnyH_take (i := 2) (oi := { dst := some 43, op := Op.move (Operand.tmp 0), type := 38, pos := "l02_phantom.go:233", after := #[], guard := none }) (v := ?_) rfl (by kernel_rfl) (by kernel_rfl) (by kernel_rfl) (fun _ _ _ h => h) (Or.inl ⟨by rfl, ?hy3⟩) (by assumption) ?rest3
      case hy3 => (intro w' hSw; (try dsimp only at hSw); go_simp; try with_reducible rfl)
      (try simp only [Act.put, List.setIfInBounds_toArray, List.set_cons_zero, List.set_cons_succ])
      refine wpAnyH_take (i := 3) (oi := { dst := some 44, op := Op.fieldAddr 26 (Operand.tmp 3) 2, type := 0, pos := "l02_phantom.go:233", after := #[], guard := none }) (v := ?_) rfl (by kernel_rfl) (by kernel_rfl) (by kernel_rfl) (fun _ _ _ h => h) (Or.inl ⟨by rfl, ?hy4⟩) (by assumption) ?rest4
      case hy4 => (intro w' hSw; (try dsimp only at hSw); go_simp; try with_reducible rfl)
      (try simp only [Act.put, List.setIfInBounds_toArray, List.set_cons_zero, List.set_cons_succ])
      refine wpAnyH_take (i := 4) (oi := { dst := some 45, op := Op.load 24 (Operand.tmp 44), type := 24, pos := "l02_phantom.go:233", after := #[{ on := 3, ground := Ground.data }], guard := none }) (v := ?_) rfl (by kernel_rfl) (by kernel_rfl) (by kernel_rfl) (fun _ _ _ h => h) (Or.inl ⟨by rfl, ?hy5⟩) (by assumption) ?rest5
      case hy5 => (intro w' hSw; (try dsimp only at hSw); go_simp; try with_reducible rfl)
      (try simp only [Act.put, List.setIfInBounds_toArray, List.set_cons_zero, List.set_cons_succ])
      refine wpAnyH_take (i := 5) (oi := { dst := some 46, op := Op.call { callee := Callee.builtin Builtin.len, args := #[Operand.tmp 45], argTypes := #[24] }, type := 3, pos := "l02_phantom.go:233", after := #[{ on := 4, ground := Ground.data }], guard := none }) (v := ?_) rfl (by kernel_rfl) (by kernel_rfl) (by kernel_rfl) (fun _ _ _ h => h) (Or.inl ⟨by rfl, ?hy6⟩) (by assumption) ?rest6
      case hy6 => (intro w' hSw; (try dsimp only at hSw); go_simp; try with_reducible rfl)
      (try simp only [Act.put, List.setIfInBounds_toArray, List.set_cons_zero, List.set_cons_succ])
      refine wpAnyH_take (i := 8) (oi := { dst := some 49, op := Op.move (Operand.tmp 0), type := 38, pos := "l02_phantom.go:233", after := #[], guard := none }) (v := ?_) rfl (by kernel_rfl) (by kernel_rfl) (by kernel_rfl) (fun _ _ _ h => h) (Or.inl ⟨by rfl, ?hy7⟩) (by assumption) ?rest7
      case hy7 => (intro w' hSw; (try dsimp only at hSw); go_simp; try with_reducible rfl)
      (try simp only [Act.put, List.setIfInBounds_toArray, List.set_cons_zero, List.set_cons_succ])
      refine wpAnyH_ready (rs := [6, 7]) (by kernel_rfl) (by simp) ?_
      refine AllReadyH.cons (o := { dst := some 47, op := Op.call { callee := Callee.value (Operand.func 17), args := #[Operand.tmp 43, Operand.tmp 46], argTypes := #[38, 2] }, type := 2, pos := "l02_phantom.go:233", after := #[{ on := 2, ground := Ground.data }, { on := 5, ground := Ground.data }], guard := none }) rfl (fun K hK => ?_) (AllReadyH.cons (o := { dst := some 48, op := Op.buildSlice 24 5 #[(0, Operand.const (Value.int IntKind.i64 1000000000)), (1, Operand.const (Value.int IntKind.i64 1000000001)), (2, Operand.const (Value.int IntKind.i64 (-1000000000))), (3, Operand.const (Value.int IntKind.i64 (-1000000001))), (4, Operand.const (Value.int IntKind.i64 4611686018427387904))], type := 24, pos := "l02_phantom.go:233", after := #[], guard := none }) rfl (fun K hK => ?_) AllReadyH.nil)
      · go_simp
        (with_reducible refine (cB _ HSd.out.cur).mono ?_)
        rintro e wA ⟨y, rfl, y0, y1, hc, hk⟩
        obtain ⟨Y, rfl⟩ : ∃ Y : Nat, y = Y := ⟨y.toNat, by omega⟩
        have hY : Y < n := by omega
        have HSA := hide (HSd.out.step hp hc hk)
        have HRA := hide (HRd.out.kept hk hbp)
        have sA := (HSA.out.box 2 _ rfl).1
        dsimp only
        refine hK.out _ wA sA (fun hHeld => ?_)
        clear hK K
        (try simp only [Act.put, List.setIfInBounds_toArray, List.set_cons_zero, List.set_cons_succ])
        refine wpAnyH_ready (rs := [7, 9]) (by kernel_rfl) (by simp) ?_
        refine AllReadyH.cons (o := { dst := some 48, op := Op.buildSlice 24 5 #[(0, Operand.const (Value.int IntKind.i64 1000000000)), (1, Operand.const (Value.int IntKind.i64 1000000001)), (2, Operand.const (Value.int IntKind.i64 (-1000000000))), (3, Operand.const (Value.int IntKind.i64 (-1000000001))), (4, Operand.const (Value.int IntKind.i64 4611686018427387904))], type := 24, pos := "l02_phantom.go:233", after := #[], guard := none }) rfl (fun K hK => ?_) (AllReadyH.cons (o := { dst := some 50, op := Op.call { callee := Callee.value (Operand.func 17), args := #[Operand.tmp 49, Operand.const (Value.int IntKind.i64 4)], argTypes := #[38, 2] }, type := 2, pos := "l02_phantom.go:233", after := #[{ on := 8, ground := Ground.data }, { on := 6, ground := Ground.chain }], guard := none }) rfl (fun K hK => ?_) AllReadyH.nil)
        · go_simp
          have HSt := hide (HSA.out.grown hp HAB.out ((bnew wA (.cells tab5 2)).mono HSA.out.sz))
          have HRt := hide (HRA.out.below (bnew wA (.cells tab5 2)) (World.block_lt_of_cell? wA _ (HRA.out 0 h1).1))
          have TA : Hid (∀ k v, tab5[k]? = some v → (wA.alloc (.cells tab5 2)).cell? ⟨wA.heap.size, k, none⟩ = some v) := fun k v hv => (World.cell?_alloc_new wA tab5 2 k).trans hv
          have hnewT : wA.heap.size ≠ p := by have := HSA.out.sz; omega
          have swT := (HSt.out.box 2 _ rfl).1
          refine hK.out _ (wA.alloc (.cells tab5 2)) swT (fun hHeld => ?_)
          clear hK K
          (try simp only [Act.put, List.setIfInBounds_toArray, List.set_cons_zero, List.set_cons_succ])
          generalize hgwT : wA.alloc (.cells tab5 2) = wT at *
          clear hgwT
          generalize hqwT : wA.heap.size = twT at *
          clear hqwT
          refine wpAnyH_ready (rs := [9]) (by kernel_rfl) (by simp) ?_
          refine AllReadyH.cons (o := { dst := some 50, op := Op.call { callee := Callee.value (Operand.func 17), args := #[Operand.tmp 49, Operand.const (Value.int IntKind.i64 4)], argTypes := #[38, 2] }, type := 2, pos := "l02_phantom.go:233", after := #[{ on := 8, ground := Ground.data }, { on := 6, ground := Ground.chain }], guard := none }) rfl (fun K hK => ?_) AllReadyH.nil
          go_simp
          (with_reducible refine (c4 _ HSt.out.cur).mono ?_)
          rintro e wB ⟨t, rfl, t0, t1, hc2, hk2⟩
          obtain ⟨T, rfl⟩ : ∃ T : Nat, t = T := ⟨t.toNat, by omega⟩
          obtain ⟨z, hz⟩ := tab5_at T (by omega)
          have hT5 : (T : Int) < 5 := by omega
          have HSB := hide (HSt.out.step hp hc2 hk2)
          have HRB := hide (HRt.out.kept hk2 hbp)
          have sB := (HSB.out.box 2 _ rfl).1
          dsimp only
          refine hK.out _ wB sB (fun hHeld => ?_)
          clear hK K
          (try simp only [Act.put, List.setIfInBounds_toArray, List.set_cons_zero, List.set_cons_succ])
          have tz : wB.cell? ⟨twT, T, none⟩ = some (.int .i64 z) := hk2.cell (a := ⟨twT, T, none⟩) hnewT (TA.out T _ hz)
          obtain ⟨r1, r2⟩ := HRB.out Y hY
          have hYn : (Y : Int) < (n : Int) := by omega
          have HSf := hide (HSB.out.grown hp HAB.out (Below.setCell (p := ⟨bb, Y, none⟩) (Below.refl (w.heap.size + 2) wB) (by show w.heap.size + 2 ≤ bb; omega) (.int .i64 z)))
          have HPf := hide (HRB.out.put Y z)
          have sF := (HSf.out.box 2 _ rfl).1
          refine wpAnyH_take (i := 10) (oi := { dst := some 51, op := Op.indexAddr 24 (Operand.tmp 48) (Operand.tmp 50), type := 0, pos := "l02_phantom.go:233", after := #[{ on := 7, ground := Ground.data }, { on := 9, ground := Ground.data }], guard := none }) (v := ?_) rfl (by kernel_rfl) (by kernel_rfl) (by kernel_rfl) (fun _ _ _ h => h) (Or.inl ⟨by rfl, ?hy8⟩) (by assumption) ?rest8
          case hy8 => (intro w' hSw; (try dsimp only at hSw); go_simp; try with_reducible rfl)
          (try simp only [Act.put, List.setIfInBounds_toArray, List.set_cons_zero, List.set_cons_succ])
          refine wpAnyH_ready (rs := [11]) (by kernel_rfl) (by simp) ?_
          refine AllReadyH.cons (o := { dst := some 52, op := Op.load 2 (Operand.tmp 51), type := 2, pos := "l02_phantom.go:233", after := #[{ on := 10, ground := Ground.data }], guard := none }) rfl (fun K hK => ?_) AllReadyH.nil
          go_simp
          refine hK.out _ wB sB (fun hHeld => ?_)
          clear hK K
          (try simp only [Act.put, List.setIfInBounds_toArray, List.set_cons_zero, List.set_cons_succ])
          refine wpAnyH_take (i := 12) (oi := { dst := some 53, op := Op.indexAddr 24 (Operand.tmp 42) (Operand.tmp 47), type := 0, pos := "l02_phantom.go:233", after := #[{ on := 1, ground := Ground.data }, { on := 6, ground := Ground.data }, { on := 0, ground := Ground.phase }, { on := 1, ground := Ground.phase }, { on := 2, ground := Ground.phase }, { on := 3, ground := Ground.phase }, { on := 4, ground := Ground.phase }, { on := 5, ground := Ground.phase }, { on := 6, ground := Ground.phase }, { on := 7, ground := Ground.phase }, { on := 8, ground := Ground.phase }, { on := 9, ground := Ground.phase }, { on := 10, ground := Ground.phase }, { on := 11, ground := Ground.phase }], guard := none }) (v := ?_) rfl (by kernel_rfl) (by kernel_rfl) (by kernel_rfl) (fun _ _ _ h => h) (Or.inl ⟨by rfl, ?hy9⟩) (by assumption) ?rest9
          case hy9 => (intro w' hSw; (try dsimp only at hSw); go_simp; try with_reducible rfl)
          (try simp only [Act.put, List.setIfInBounds_toArray, List.set_cons_zero, List.set_cons_succ])
          refine wpAnyH_ready (rs := [13]) (by kernel_rfl) (by simp) ?_
          refine AllReadyH.cons (o := { dst := none, op := Op.store 2 (Operand.tmp 53) (Operand.tmp 52), type := 0, pos := "l02_phantom.go:233", after := #[{ on := 12, ground := Ground.data }, { on := 11, ground := Ground.data }, { on := 9, ground := Ground.chain }, { on := 0, ground := Ground.phase }, { on := 1, ground := Ground.phase }, { on := 2, ground := Ground.phase }, { on := 3, ground := Ground.phase }, { on := 4, ground := Ground.phase }, { on := 5, ground := Ground.phase }, { on := 6, ground := Ground.phase }, { on := 7, ground := Ground.phase }, { on := 8, ground := Ground.phase }, { on := 9, ground := Ground.phase }, { on := 10, ground := Ground.phase }, { on := 11, ground := Ground.phase }], guard := none }) rfl (fun K hK => ?_) AllReadyH.nil
          go_simp
          refine hK.out _ (wB.setCell ⟨bb, Y, none⟩ (.int .i64 z)) sF (fun hHeld => ?_)
          clear hK K
          (try simp only [Act.put, List.setIfInBounds_toArray, List.set_cons_zero, List.set_cons_succ])
          refine wpAnyH_done (by kernel_rfl) ?_ _
          clear tz r1 r2
          go_wp2_with fail
          go_meet
          exact ⟨W, H, some ⟨bb, 0, none⟩, bb, n, cap1, _, by omega, HSf.out, .inr ⟨rfl, HPf.out⟩, .inr ⟨.inr (by omega), hbp, by omega⟩⟩
        · go_simp
          (with_reducible refine (c4 _ HSA.out.cur).mono ?_)
          rintro e wB ⟨t, rfl, t0, t1, hc2, hk2⟩
          obtain ⟨T, rfl⟩ : ∃ T : Nat, t = T := ⟨t.toNat, by omega⟩
          obtain ⟨z, hz⟩ := tab5_at T (by omega)
          have hT5 : (T : Int) < 5 := by omega
          have HSB := hide (HSA.out.step hp hc2 hk2)
          have HRB := hide (HRA.out.kept hk2 hbp)
          have sB := (HSB.out.box 2 _ rfl).1
          dsimp only
          refine hK.out _ wB sB (fun hHeld => ?_)
          clear hK K
          (try simp only [Act.put, List.setIfInBounds_toArray, List.set_cons_zero, List.set_cons_succ])
          refine wpAnyH_ready (rs := [7]) (by kernel_rfl) (by simp) ?_
          refine AllReadyH.cons (o := { dst := some 48, op := Op.buildSlice 24 5 #[(0, Operand.const (Value.int IntKind.i64 1000000000)), (1, Operand.const (Value.int IntKind.i64 1000000001)), (2, Operand.const (Value.int IntKind.i64 (-1000000000))), (3, Operand.const (Value.int IntKind.i64 (-1000000001))), (4, Operand.const (Value.int IntKind.i64 4611686018427387904))], type := 24, pos := "l02_phantom.go:233", after := #[], guard := none }) rfl (fun K hK => ?_) AllReadyH.nil
          go_simp
          have HSt := hide (HSB.out.grown hp HAB.out ((bnew wB (.cells tab5 2)).mono HSB.out.sz))
          have HRt := hide (HRB.out.below (bnew wB (.cells tab5 2)) (World.block_lt_of_cell? wB _ (HRB.out 0 h1).1))
          have TA : Hid (∀ k v, tab5[k]? = some v → (wB.alloc (.cells tab5 2)).cell? ⟨wB.heap.size, k, none⟩ = some v) := fun k v hv => (World.cell?_alloc_new wB tab5 2 k).trans hv
          have hnewT : wB.heap.size ≠ p := by have := HSB.out.sz; omega
          have swT := (HSt.out.box 2 _ rfl).1
          refine hK.out _ (wB.alloc (.cells tab5 2)) swT (fun hHeld => ?_)
          clear hK K
          (try simp only [Act.put, List.setIfInBounds_toArray, List.set_cons_zero, List.set_cons_succ])
          generalize hgwT : wB.alloc (.cells tab5 2) = wT at *
          clear hgwT
          generalize hqwT : wB.heap.size = twT at *
          clear hqwT
          have tz : wT.cell? ⟨twT, T, none⟩ = some (.int .i64 z) := TA.out T _ hz
          obtain ⟨r1, r2⟩ := HRt.out Y hY
          have hYn : (Y : Int) < (n : Int) := by omega
          have HSf := hide (HSt.out.grown hp HAB.out (Below.setCell (p := ⟨bb, Y, none⟩) (Below.refl (w.heap.size + 2) wT) (by show w.heap.size + 2 ≤ bb; omega) (.int .i64 z)))
          have HPf := hide (HRt.out.put Y z)
          have sF := (HSf.out.box 2 _ rfl).1
          refine wpAnyH_take (i := 10) (oi := { dst := some 51, op := Op.indexAddr 24 (Operand.tmp 48) (Operand.tmp 50), type := 0, pos := "l02_phantom.go:233", after := #[{ on := 7, ground := Ground.data }, { on := 9, ground := Ground.data }], guard := none }) (v := ?_) rfl (by kernel_rfl) (by kernel_rfl) (by kernel_rfl) (fun _ _ _ h => h) (Or.inl ⟨by rfl, ?hy10⟩) (by assumption) ?rest10
          case hy10 => (intro w' hSw; (try dsimp only at hSw); go_simp; try with_reducible rfl)
          (try simp only [Act.put, List.setIfInBounds_toArray, List.set_cons_zero, List.set_cons_succ])
          refine wpAnyH_ready (rs := [11]) (by kernel_rfl) (by simp) ?_
          refine AllReadyH.cons (o := { dst := some 52, op := Op.load 2 (Operand.tmp 51), type := 2, pos := "l02_phantom.go:233", after := #[{ on := 10, ground := Ground.data }], guard := none }) rfl (fun K hK => ?_) AllReadyH.nil
          go_simp
          refine hK.out _ wT swT (fun hHeld => ?_)
          clear hK K
          (try simp only [Act.put, List.setIfInBounds_toArray, List.set_cons_zero, List.set_cons_succ])
          refine wpAnyH_take (i := 12) (oi := { dst := some 53, op := Op.indexAddr 24 (Operand.tmp 42) (Operand.tmp 47), type := 0, pos := "l02_phantom.go:233", after := #[{ on := 1, ground := Ground.data }, { on := 6, ground := Ground.data }, { on := 0, ground := Ground.phase }, { on := 1, ground := Ground.phase }, { on := 2, ground := Ground.phase }, { on := 3, ground := Ground.phase }, { on := 4, ground := Ground.phase }, { on := 5, ground := Ground.phase }, { on := 6, ground := Ground.phase }, { on := 7, ground := Ground.phase }, { on := 8, ground := Ground.phase }, { on := 9, ground := Ground.phase }, { on := 10, ground := Ground.phase }, { on := 11, ground := Ground.phase }], guard := none }) (v := ?_) rfl (by kernel_rfl) (by kernel_rfl) (by kernel_rfl) (fun _ _ _ h => h) (Or.inl ⟨by rfl, ?hy11⟩) (by assumption) ?rest11
          case hy11 => (intro w' hSw; (try dsimp only at hSw); go_simp; try with_reducible rfl)
          (try simp only [Act.put, List.setIfInBounds_toArray, List.set_cons_zero, List.set_cons_succ])
          refine wpAnyH_ready (rs := [13]) (by kernel_rfl) (by simp) ?_
          refine AllReadyH.cons (o := { dst := none, op := Op.store 2 (Operand.tmp 53) (Operand.tmp 52), type := 0, pos := "l02_phantom.go:233", after := #[{ on := 12, ground := Ground.data }, { on := 11, ground := Ground.data }, { on := 9, ground := Ground.chain }, { on := 0, ground := Ground.phase }, { on := 1, ground := Ground.phase }, { on := 2, ground := Ground.phase }, { on := 3, ground := Ground.phase }, { on := 4, ground := Ground.phase }, { on := 5, ground := Ground.phase }, { on := 6, ground := Ground.phase }, { on := 7, ground := Ground.phase }, { on := 8, ground := Ground.phase }, { on := 9, ground := Ground.phase }, { on := 10, ground := Ground.phase }, { on := 11, ground := Ground.phase }], guard := none }) rfl (fun K hK => ?_) AllReadyH.nil
          go_simp
          refine hK.out _ (wT.setCell ⟨bb, Y, none⟩ (.int .i64 z)) sF (fun hHeld => ?_)
          clear hK K
          (try simp only [Act.put, List.setIfInBounds_toArray, List.set_cons_zero, List.set_cons_succ])
          refine wpAnyH_done (by kernel_rfl) ?_ _
          clear tz r1 r2
          go_wp2_with fail
          go_meet
          exact ⟨W, H, some ⟨bb, 0, none⟩, bb, n, cap1, _, by omega, HSf.out, .inr ⟨rfl, HPf.out⟩, .inr ⟨.inr (by omega), hbp, by omega⟩⟩
      · go_simp
        have HSt := hide (HSd.out.grown hp HAB.out ((bnew wd (.cells tab5 2)).mono HSd.out.sz))
        have HRt := hide (HRd.out.below (bnew wd (.cells tab5 2)) (World.block_lt_of_cell? wd _ (HRd.out 0 h1).1))
        have TA : Hid (∀ k v, tab5[k]? = some v → (wd.alloc (.cells tab5 2)).cell? ⟨wd.heap.size, k, none⟩ = some v) := fun k v hv => (World.cell?_alloc_new wd tab5 2 k).trans hv
        have hnewT : wd.heap.size ≠ p := by have := HSd.out.sz; omega
        have swT := (HSt.out.box 2 _ rfl).1
        refine hK.out _ (wd.alloc (.cells tab5 2)) swT (fun hHeld => ?_)
        clear hK K
        (try simp only [Act.put, List.setIfInBounds_toArray, List.set_cons_zero, List.set_cons_succ])
        generalize hgwT : wd.alloc (.cells tab5 2) = wT at *
        clear hgwT
        generalize hqwT : wd.heap.size = twT at *
        clear hqwT
        refine wpAnyH_ready (rs := [6]) (by kernel_rfl) (by simp) ?_
        refine AllReadyH.cons (o := { dst := some 47, op := Op.call { callee := Callee.value (Operand.func 17), args := #[Operand.tmp 43, Operand.tmp 46], argTypes := #[38, 2] }, type := 2, pos := "l02_phantom.go:233", after := #[{ on := 2, ground := Ground.data }, { on := 5, ground := Ground.data }], guard := none }) rfl (fun K hK => ?_) AllReadyH.nil
        go_simp
        (with_reducible refine (cB _ HSt.out.cur).mono ?_)
        rintro e wA ⟨y, rfl, y0, y1, hc, hk⟩
        obtain ⟨Y, rfl⟩ : ∃ Y : Nat, y = Y := ⟨y.toNat, by omega⟩
        have hY : Y < n := by omega
        have HSA := hide (HSt.out.step hp hc hk)
        have HRA := hide (HRt.out.kept hk hbp)
        have sA := (HSA.out.box 2 _ rfl).1
        dsimp only
        refine hK.out _ wA sA (fun hHeld => ?_)
        clear hK K
        (try simp only [Act.put, List.setIfInBounds_toArray, List.set_cons_zero, List.set_cons_succ])
        refine wpAnyH_ready (rs := [9]) (by kernel_rfl) (by simp) ?_
        refine AllReadyH.cons (o := { dst := some 50, op := Op.call { callee := Callee.value (Operand.func 17), args := #[Operand.tmp 49, Operand.const (Value.int IntKind.i64 4)], argTypes := #[38, 2] }, type := 2, pos := "l02_phantom.go:233", after := #[{ on := 8, ground := Ground.data }, { on := 6, ground := Ground.chain }], guard := none }) rfl (fun K hK => ?_) AllReadyH.nil
        go_simp
        (with_reducible refine (c4 _ HSA.out.cur).mono ?_)
        rintro e wB ⟨t, rfl, t0, t1, hc2, hk2⟩
        obtain ⟨T, rfl⟩ : ∃ T : Nat, t = T := ⟨t.toNat, by omega⟩
        obtain ⟨z, hz⟩ := tab5_at T (by omega)
        have hT5 : (T : Int) < 5 := by omega
        have HSB := hide (HSA.out.step hp hc2 hk2)
        have HRB := hide (HRA.out.kept hk2 hbp)
        have sB := (HSB.out.box 2 _ rfl).1
        dsimp only
        refine hK.out _ wB sB (fun hHeld => ?_)
        clear hK K
        (try simp only [Act.put, List.setIfInBounds_toArray, List.set_cons_zero, List.set_cons_succ])
        have tz : wB.cell? ⟨twT, T, none⟩ = some (.int .i64 z) := hk2.cell (a := ⟨twT, T, none⟩) hnewT (hk.cell (a := ⟨twT, T, none⟩) hnewT (TA.out T _ hz))
        obtain ⟨r1, r2⟩ := HRB.out Y hY
        have hYn : (Y : Int) < (n : Int) := by omega
        have HSf := hide (HSB.out.grown hp HAB.out (Below.setCell (p := ⟨bb, Y, none⟩) (Below.refl (w.heap.size + 2) wB) (by show w.heap.size + 2 ≤ bb; omega) (.int .i64 z)))
        have HPf := hide (HRB.out.put Y z)
        have sF := (HSf.out.box 2 _ rfl).1
        refine wpAnyH_take (i := 10) (oi := { dst := some 51, op := Op.indexAddr 24 (Operand.tmp 48) (Operand.tmp 50), type := 0, pos := "l02_phantom.go:233", after := #[{ on := 7, ground := Ground.data }, { on := 9, ground := Ground.data }], guard := none }) (v := ?_) rfl (by kernel_rfl) (by kernel_rfl) (by kernel_rfl) (fun _ _ _ h => h) (Or.inl ⟨by rfl, ?hy12⟩) (by assumption) ?rest12
        case hy12 => (intro w' hSw; (try dsimp only at hSw); go_simp; try with_reducible rfl)
        (try simp only [Act.put, List.setIfInBounds_toArray, List.set_cons_zero, List.set_cons_succ])
        refine wpAnyH_ready (rs := [11]) (by kernel_rfl) (by simp) ?_
        refine AllReadyH.cons (o := { dst := some 52, op := Op.load 2 (Operand.tmp 51), type := 2, pos := "l02_phantom.go:233", after := #[{ on := 10, ground := Ground.data }], guard := none }) rfl (fun K hK => ?_) AllReadyH.nil
        go_simp
        refine hK.out _ wB sB (fun hHeld => ?_)
        clear hK K
        (try simp only [Act.put, List.setIfInBounds_toArray, List.set_cons_zero, List.set_cons_succ])
        refine wpAnyH_take (i := 12) (oi := { dst := some 53, op := Op.indexAddr 24 (Operand.tmp 42) (Operand.tmp 47), type := 0, pos := "l02_phantom.go:233", after := #[{ on := 1, ground := Ground.data }, { on := 6, ground := Ground.data }, { on := 0, ground := Ground.phase }, { on := 1, ground := Ground.phase }, { on := 2, ground := Ground.phase }, { on := 3, ground := Ground.phase }, { on := 4, ground := Ground.phase }, { on := 5, ground := Ground.phase }, { on := 6, ground := Ground.phase }, { on := 7, ground := Ground.phase }, { on := 8, ground := Ground.phase }, { on := 9, ground := Ground.phase }, { on := 10, ground := Ground.phase }, { on := 11, ground := Ground.phase }], guard := none }) (v := ?_) rfl (by kernel_rfl) (by kernel_rfl) (by kernel_rfl) (fun _ _ _ h => h) (Or.inl ⟨by rfl, ?hy13⟩) (by assumption) ?rest13
        case hy13 => (intro w' hSw; (try dsimp only at hSw); go_simp; try with_reducible rfl)
        (try simp only [Act.put, List.setIfInBounds_toArray, List.set_cons_zero, List.set_cons_succ])
        refine wpAnyH_ready (rs := [13]) (by kernel_rfl) (by simp) ?_
        refine AllReadyH.cons (o := { dst := none, op := Op.store 2 (Operand.tmp 53) (Operand.tmp 52), type := 0, pos := "l02_phantom.go:233", after := #[{ on := 12, ground := Ground.data }, { on := 11, ground := Ground.data }, { on := 9, ground := Ground.chain }, { on := 0, ground := Ground.phase }, { on := 1, ground := Ground.phase }, { on := 2, ground := Ground.phase }, { on := 3, ground := Ground.phase }, { on := 4, ground := Ground.phase }, { on := 5, ground := Ground.phase }, { on := 6, ground := Ground.phase }, { on := 7, ground := Ground.phase }, { on := 8, ground := Ground.phase }, { on := 9, ground := Ground.phase }, { on := 10, ground := Ground.phase }, { on := 11, ground := Ground.phase }], guard := none }) rfl (fun K hK => ?_) AllReadyH.nil
        go_simp
        refine hK.out _ (wB.setCell ⟨bb, Y, none⟩ (.int .i64 z)) sF (fun hHeld => ?_)
        clear hK K
        (try simp only [Act.put, List.setIfInBounds_toArray, List.set_cons_zero, List.set_cons_succ])
        refine wpAnyH_done (by kernel_rfl) ?_ _
        clear tz r1 r2
        go_wp2_with fail
        go_meet
        exact ⟨W, H, some ⟨bb, 0, none⟩, bb, n, cap1, _, by omega, HSf.out, .inr ⟨rfl, HPf.out⟩, .inr ⟨.inr (by omega), hbp, by omega⟩⟩
    · have HSe := hide (((HS.out.set hp HAB.out 0 (.int .i64 0)).set hp HAB.out 1 (.int .i64 0)).set hp HAB.out 2 (.slice none 0 0))
      obtain ⟨b0, p0⟩ := HS.out.box 0 _ rfl
      obtain ⟨b1, p1⟩ := HS.out.box 1 _ rfl
      obtain ⟨b2, p2⟩ := HS.out.box 2 _ rfl
      obtain ⟨q0, e0⟩ := HS.out.res 0 _ rfl
      obtain ⟨q1, e1⟩ := HS.out.res 1 _ rfl
      obtain ⟨q2, e2⟩ := HS.out.res 2 _ rfl
      go_wp2_with fail
      go_meet
      exact ⟨0, 0, none, 0, 0, 0, fun _ => 0, by omega, HSe.out, .inl rfl, .inl rfl⟩
  case rest => as_aux_lemma =>
    obtain ⟨W', H', x', b', m', c', f', hm', hS', hP', hX'⟩ := hcut
    obtain ⟨b0, p0⟩ := hS'.box 0 _ rfl
    obtain ⟨b1, p1⟩ := hS'.box 1 _ rfl
    obtain ⟨b2, p2⟩ := hS'.box 2 _ rfl
    obtain ⟨q0, e0⟩ := hS'.res 0 _ rfl
    obtain ⟨q1, e1⟩ := hS'.res 1 _ rfl
    obtain ⟨q2, e2⟩ := hS'.res 2 _ rfl
    have HE := hide (SP.ends (Q := fun b => b = o ∨ w.heap.size ≤ b) hS' hp HAB.out hm' hP' hX')
    clear hS' hP' hX' HS HR
    go_wp2_with fail
    exact bodyPost_ret (v := im W' H' x' m' c') (by simp [results, Try.results19, go_sem, q0, q1, q2]) rfl HE.out

end Go.Proofs.Ytekoioggamhlaaa

/- Where a turn takes a vector: the specification. -/
import Derived.Test.YtkgkdhocmglklaaDoorTrv
import Derived.Test.YtkgkdhocmglklaaDoorTrx
import Derived.Deep.RegionHeld
import Derived.Deep.CutBlock
import Derived.Deep.DeepCutAuto
import Derived.BigQuiet
namespace Go.Proofs.YtkgkdhocmglklaaDoor
open Go.RowKit

theorem qSml {a b c d x y z : Int} (h : Sml 2 a b c d) (hx : -100 ≤ x ∧ x ≤ 100) (hy : -100 ≤ y ∧ y ≤ 100) (hz : -100 ≤ z ∧ z ≤ 100) : Sml 1000 (qW a b c d 0 x y z) (qX a b c d 0 x y z) (qY a b c d 0 x y z) (qZ a b c d 0 x y z) := by
  have max := mulB h.w0 h.w1 hx.1 hx.2
  have may := mulB h.w0 h.w1 hy.1 hy.2
  have maz := mulB h.w0 h.w1 hz.1 hz.2
  have mbx := mulB h.x0 h.x1 hx.1 hx.2
  have mby := mulB h.x0 h.x1 hy.1 hy.2
  have mbz := mulB h.x0 h.x1 hz.1 hz.2
  have mcx := mulB h.y0 h.y1 hx.1 hx.2
  have mcy := mulB h.y0 h.y1 hy.1 hy.2
  have mcz := mulB h.y0 h.y1 hz.1 hz.2
  have mdx := mulB h.z0 h.z1 hx.1 hx.2
  have mdy := mulB h.z0 h.z1 hy.1 hy.2
  have mdz := mulB h.z0 h.z1 hz.1 hz.2
  refine ⟨?_, ?_, ?_, ?_, ?_, ?_, ?_, ?_⟩
  · unfold qW; omega
  · unfold qW; omega
  · unfold qX; omega
  · unfold qX; omega
  · unfold qY; omega
  · unfold qY; omega
  · unfold qZ; omega
  · unfold qZ; omega

theorem tdiv4w {Q : Int} (h : -1000000000 ≤ Q) (h' : Q ≤ 1000000000) : IntKind.i64.wrap (Q.tdiv 4) = Q.tdiv 4 := by
  rw [IntKind.wrap_i64]
  rcases Int.le_total 0 Q with h0 | h0
  · rw [Int.tdiv_eq_ediv_of_nonneg h0]; omega
  · have e : Q = -(-Q) := by omega
    rw [e, Int.neg_tdiv, Int.tdiv_eq_ediv_of_nonneg (by omega)]; omega

theorem tif_t {p : Bool} (h : p = true) (v : Int) : tif p v = v := by unfold tif; rw [if_pos h]

set_option maxRecDepth 100000 in
set_option maxHeartbeats 4000000 in
theorem l10Take_any (a b c d x y z : Int) (ht : tkB a b c d = true) (hx : -100 ≤ x ∧ x ≤ 100) (hy : -100 ≤ y ∧ y ≤ 100) (hz : -100 ≤ z ∧ z ≤ 100) (w : World) :
    Calls Tryd.prog 22 #[tv a b c d, .int .i64 x, .int .i64 y, .int .i64 z] w fun e w' => e = .returned (.tuple #[.int .i64 ((pX a b c d x y z).tdiv 4), .int .i64 ((pY a b c d x y z).tdiv 4), .int .i64 ((pZ a b c d x y z).tdiv 4)]) ∧ Below w.heap.size w w' := by
  have hs := (tkB_sml ht).1
  have hq := qSml hs hx hy hz
  have hbk : Sml 1000 a (-b) (-c) (-d) := by obtain ⟨w0, w1, x0, x1, y0, y1, z0, z1⟩ := hs; exact ⟨by omega, by omega, by omega, by omega, by omega, by omega, by omega, by omega⟩
  have cM1 := fun w' => l10Mul_any a b c d 0 x y z hs.wide ⟨by omega, by omega, by omega, by omega, by omega, by omega, by omega, by omega⟩ w'
  have cB := fun w' => specTurnBack_any a b c d (by have := hs.w0; have := hs.w1; unfold I64; omega) (by have := hs.x0; have := hs.x1; unfold I64; omega) (by have := hs.y0; have := hs.y1; unfold I64; omega) (by have := hs.z0; have := hs.z1; unfold I64; omega) w'
  simp only [tif_t ht] at cB
  have cM2 := fun w' => l10Mul_any _ _ _ _ a (-b) (-c) (-d) hq hbk w'
  obtain ⟨r0, hr0⟩ : ∃ r, qW (qW a b c d 0 x y z) (qX a b c d 0 x y z) (qY a b c d 0 x y z) (qZ a b c d 0 x y z) a (-b) (-c) (-d) = r := ⟨_, rfl⟩
  obtain ⟨r1, hr1⟩ : ∃ r, qX (qW a b c d 0 x y z) (qX a b c d 0 x y z) (qY a b c d 0 x y z) (qZ a b c d 0 x y z) a (-b) (-c) (-d) = r := ⟨_, rfl⟩
  obtain ⟨r2, hr2⟩ : ∃ r, qY (qW a b c d 0 x y z) (qX a b c d 0 x y z) (qY a b c d 0 x y z) (qZ a b c d 0 x y z) a (-b) (-c) (-d) = r := ⟨_, rfl⟩
  obtain ⟨r3, hr3⟩ : ∃ r, qZ (qW a b c d 0 x y z) (qX a b c d 0 x y z) (qY a b c d 0 x y z) (qZ a b c d 0 x y z) a (-b) (-c) (-d) = r := ⟨_, rfl⟩
  have HR : Hid (pX a b c d x y z = r1 ∧ pY a b c d x y z = r2 ∧ pZ a b c d x y z = r3) := ⟨hr1, hr2, hr3⟩
  have hb : (-1000000000 ≤ r1 ∧ r1 ≤ 1000000000) ∧ (-1000000000 ≤ r2 ∧ r2 ≤ 1000000000) ∧ (-1000000000 ≤ r3 ∧ r3 ≤ 1000000000) := by
    rw [← hr1, ← hr2, ← hr3]
    generalize qW a b c d 0 x y z = p0 at *
    generalize qX a b c d 0 x y z = p1 at *
    generalize qY a b c d 0 x y z = p2 at *
    generalize qZ a b c d 0 x y z = p3 at *
    have m00 := mulB hq.w0 hq.w1 hbk.w0 hbk.w1
    have m01 := mulB hq.w0 hq.w1 hbk.x0 hbk.x1
    have m02 := mulB hq.w0 hq.w1 hbk.y0 hbk.y1
    have m03 := mulB hq.w0 hq.w1 hbk.z0 hbk.z1
    have m10 := mulB hq.x0 hq.x1 hbk.w0 hbk.w1
    have m11 := mulB hq.x0 hq.x1 hbk.x0 hbk.x1
    have m12 := mulB hq.x0 hq.x1 hbk.y0 hbk.y1
    have m13 := mulB hq.x0 hq.x1 hbk.z0 hbk.z1
    have m20 := mulB hq.y0 hq.y1 hbk.w0 hbk.w1
    have m21 := mulB hq.y0 hq.y1 hbk.x0 hbk.x1
    have m22 := mulB hq.y0 hq.y1 hbk.y0 hbk.y1
    have m23 := mulB hq.y0 hq.y1 hbk.z0 hbk.z1
    have m30 := mulB hq.z0 hq.z1 hbk.w0 hbk.w1
    have m31 := mulB hq.z0 hq.z1 hbk.x0 hbk.x1
    have m32 := mulB hq.z0 hq.z1 hbk.y0 hbk.y1
    have m33 := mulB hq.z0 hq.z1 hbk.z0 hbk.z1
    unfold qX qY qZ
    omega
  have d1 := tdiv4w hb.1.1 hb.1.2
  have d2 := tdiv4w hb.2.1.1 hb.2.1.2
  have d3 := tdiv4w hb.2.2.1 hb.2.2.2
  simp only [hr0, hr1, hr2, hr3] at cM2
  clear hr0 hr1 hr2 hr3 hb hq hbk hs ht hx hy hz
  generalize qW a b c d 0 x y z = p0 at *
  generalize qX a b c d 0 x y z = p1 at *
  generalize qY a b c d 0 x y z = p2 at *
  generalize qZ a b c d 0 x y z = p3 at *
  rw [HR.out.1, HR.out.2.1, HR.out.2.2]
  clear HR
  have HS0 := hide ((St.start w).box [.int .i64 a, .int .i64 b, .int .i64 c, .int .i64 d] 28)
  generalize hA : w.alloc (.cells [.int .i64 a, .int .i64 b, .int .i64 c, .int .i64 d].toArray 28) = wA at HS0
  have hA' : w.alloc (.cells #[.int .i64 a, .int .i64 b, .int .i64 c, .int .i64 d] 28) = wA := hA
  clear hA
  have SD := HS0.out.drew
  have SZ := (HS0.out.box [.int .i64 0, .int .i64 0, .int .i64 0, .int .i64 0] 28).drew
  have SY := HS0.out.drew.box [.int .i64 0, .int .i64 0, .int .i64 0, .int .i64 0] 28
  have SDs : Hid (_ ∧ _ ∧ _ ∧ _) := ⟨(SD).cell 0 rfl 0 rfl, (SD).cell 0 rfl 1 rfl, (SD).cell 0 rfl 2 rfl, (SD).cell 0 rfl 3 rfl⟩
  have SZs : Hid (_ ∧ _ ∧ _ ∧ _) := ⟨(SZ).cell 1 rfl 0 rfl, (SZ).cell 1 rfl 1 rfl, (SZ).cell 1 rfl 2 rfl, (SZ).cell 1 rfl 3 rfl⟩
  have SYs : Hid (_ ∧ _ ∧ _ ∧ _) := ⟨(SY).cell 1 rfl 0 rfl, (SY).cell 1 rfl 1 rfl, (SY).cell 1 rfl 2 rfl, (SY).cell 1 rfl 3 rfl⟩
  go_enter Tryd.func22, Tryd.ntmps22
  go_upto_region 1 with fail
  go_cut [11] (fun sl wc => ∃ c9, sl = .pointer (some ⟨c9, 0, none⟩) ∧ St w ((c9, [.int .i64 r0, .int .i64 r1, .int .i64 r2, .int .i64 r3]) :: [(w.heap.size, [.int .i64 a, .int .i64 b, .int .i64 c, .int .i64 d])]) [] wc)
  case first =>
    go_region_held (fun (w' : World) => w'.cell? ⟨w.heap.size, 0, none⟩ = some (.int .i64 a) ∧ w'.cell? ⟨w.heap.size, 1, none⟩ = some (.int .i64 b) ∧ w'.cell? ⟨w.heap.size, 2, none⟩ = some (.int .i64 c) ∧ w'.cell? ⟨w.heap.size, 3, none⟩ = some (.int .i64 d))
      ((first | (with_reducible exact SDs.out) | (with_reducible exact SZs.out) | (with_reducible exact SYs.out) | (with_reducible exact S0s.out) | (with_reducible exact S0z.out) | (with_reducible exact S1s.out) | (with_reducible exact S1z.out) | (with_reducible exact SCs.out) | (with_reducible exact SCz.out) | (with_reducible exact SCb.out) | (with_reducible exact SCf.out)))
      (first
        | (go_at_call 50; (with_reducible refine (cM1 _).mono ?_); rintro e q0 ⟨rfl, h0⟩; (first | (with_reducible have S0 := SD.next h0) | (with_reducible have S0 := SZ.next h0) | (with_reducible have S0 := SY.next h0)); clear h0; (first | have S0s : Hid (_ ∧ _ ∧ _ ∧ _) := ⟨(S0).cell 1 rfl 0 rfl, (S0).cell 1 rfl 1 rfl, (S0).cell 1 rfl 2 rfl, (S0).cell 1 rfl 3 rfl⟩ | have S0s : Hid (_ ∧ _ ∧ _ ∧ _) := ⟨(S0).cell 0 rfl 0 rfl, (S0).cell 0 rfl 1 rfl, (S0).cell 0 rfl 2 rfl, (S0).cell 0 rfl 3 rfl⟩); (first | have S0z : Hid (_ ∧ _ ∧ _ ∧ _) := ⟨(S0.box [.int .i64 0, .int .i64 0, .int .i64 0, .int .i64 0] 28).cell 2 rfl 0 rfl, (S0.box [.int .i64 0, .int .i64 0, .int .i64 0, .int .i64 0] 28).cell 2 rfl 1 rfl, (S0.box [.int .i64 0, .int .i64 0, .int .i64 0, .int .i64 0] 28).cell 2 rfl 2 rfl, (S0.box [.int .i64 0, .int .i64 0, .int .i64 0, .int .i64 0] 28).cell 2 rfl 3 rfl⟩ | have S0z : Hid (_ ∧ _ ∧ _ ∧ _) := ⟨(S0.box [.int .i64 0, .int .i64 0, .int .i64 0, .int .i64 0] 28).cell 1 rfl 0 rfl, (S0.box [.int .i64 0, .int .i64 0, .int .i64 0, .int .i64 0] 28).cell 1 rfl 1 rfl, (S0.box [.int .i64 0, .int .i64 0, .int .i64 0, .int .i64 0] 28).cell 1 rfl 2 rfl, (S0.box [.int .i64 0, .int .i64 0, .int .i64 0, .int .i64 0] 28).cell 1 rfl 3 rfl⟩))
        | (go_at_call 51; (with_reducible refine (cB _).mono ?_); rintro e q1 ⟨rfl, h1⟩; (first | (with_reducible have S1 := S0.next h1) | (with_reducible have S1 := (S0.box [.int .i64 0, .int .i64 0, .int .i64 0, .int .i64 0] 28).next h1)); clear h1; (first | have S1s : Hid (_ ∧ _ ∧ _ ∧ _) := ⟨(S1).cell 1 rfl 0 rfl, (S1).cell 1 rfl 1 rfl, (S1).cell 1 rfl 2 rfl, (S1).cell 1 rfl 3 rfl⟩ | have S1s : Hid (_ ∧ _ ∧ _ ∧ _) := ⟨(S1).cell 0 rfl 0 rfl, (S1).cell 0 rfl 1 rfl, (S1).cell 0 rfl 2 rfl, (S1).cell 0 rfl 3 rfl⟩); (first | have S1z : Hid (_ ∧ _ ∧ _ ∧ _) := ⟨(S1.box [.int .i64 0, .int .i64 0, .int .i64 0, .int .i64 0] 28).cell 2 rfl 0 rfl, (S1.box [.int .i64 0, .int .i64 0, .int .i64 0, .int .i64 0] 28).cell 2 rfl 1 rfl, (S1.box [.int .i64 0, .int .i64 0, .int .i64 0, .int .i64 0] 28).cell 2 rfl 2 rfl, (S1.box [.int .i64 0, .int .i64 0, .int .i64 0, .int .i64 0] 28).cell 2 rfl 3 rfl⟩ | have S1z : Hid (_ ∧ _ ∧ _ ∧ _) := ⟨(S1.box [.int .i64 0, .int .i64 0, .int .i64 0, .int .i64 0] 28).cell 1 rfl 0 rfl, (S1.box [.int .i64 0, .int .i64 0, .int .i64 0, .int .i64 0] 28).cell 1 rfl 1 rfl, (S1.box [.int .i64 0, .int .i64 0, .int .i64 0, .int .i64 0] 28).cell 1 rfl 2 rfl, (S1.box [.int .i64 0, .int .i64 0, .int .i64 0, .int .i64 0] 28).cell 1 rfl 3 rfl⟩))
        | (go_at_call 50; (with_reducible refine (cM2 _).mono ?_); rintro e q2 ⟨rfl, h2⟩; (first | (with_reducible have SC := S1.next h2) | (with_reducible have SC := (S1.box [.int .i64 0, .int .i64 0, .int .i64 0, .int .i64 0] 28).next h2)); clear h2; (first | have SCs : Hid (_ ∧ _ ∧ _ ∧ _) := ⟨(SC).cell 1 rfl 0 rfl, (SC).cell 1 rfl 1 rfl, (SC).cell 1 rfl 2 rfl, (SC).cell 1 rfl 3 rfl⟩ | have SCs : Hid (_ ∧ _ ∧ _ ∧ _) := ⟨(SC).cell 0 rfl 0 rfl, (SC).cell 0 rfl 1 rfl, (SC).cell 0 rfl 2 rfl, (SC).cell 0 rfl 3 rfl⟩); (first | have SCz : Hid (_ ∧ _ ∧ _ ∧ _) := ⟨(SC.box [.int .i64 0, .int .i64 0, .int .i64 0, .int .i64 0] 28).cell 2 rfl 0 rfl, (SC.box [.int .i64 0, .int .i64 0, .int .i64 0, .int .i64 0] 28).cell 2 rfl 1 rfl, (SC.box [.int .i64 0, .int .i64 0, .int .i64 0, .int .i64 0] 28).cell 2 rfl 2 rfl, (SC.box [.int .i64 0, .int .i64 0, .int .i64 0, .int .i64 0] 28).cell 2 rfl 3 rfl⟩ | have SCz : Hid (_ ∧ _ ∧ _ ∧ _) := ⟨(SC.box [.int .i64 0, .int .i64 0, .int .i64 0, .int .i64 0] 28).cell 1 rfl 0 rfl, (SC.box [.int .i64 0, .int .i64 0, .int .i64 0, .int .i64 0] 28).cell 1 rfl 1 rfl, (SC.box [.int .i64 0, .int .i64 0, .int .i64 0, .int .i64 0] 28).cell 1 rfl 2 rfl, (SC.box [.int .i64 0, .int .i64 0, .int .i64 0, .int .i64 0] 28).cell 1 rfl 3 rfl⟩); (first | have SCb : Hid (_ ∧ _ ∧ _ ∧ _) := ⟨(SC.box [.int .i64 r0, .int .i64 r1, .int .i64 r2, .int .i64 r3] 28).cell 1 rfl 0 rfl, (SC.box [.int .i64 r0, .int .i64 r1, .int .i64 r2, .int .i64 r3] 28).cell 1 rfl 1 rfl, (SC.box [.int .i64 r0, .int .i64 r1, .int .i64 r2, .int .i64 r3] 28).cell 1 rfl 2 rfl, (SC.box [.int .i64 r0, .int .i64 r1, .int .i64 r2, .int .i64 r3] 28).cell 1 rfl 3 rfl⟩ | skip); (first | have SCf : Hid (_ ∧ _ ∧ _ ∧ _) := ⟨(SC.fill4 (.int .i64 r0) (.int .i64 r1) (.int .i64 r2) (.int .i64 r3)).cell 1 rfl 0 rfl, (SC.fill4 (.int .i64 r0) (.int .i64 r1) (.int .i64 r2) (.int .i64 r3)).cell 1 rfl 1 rfl, (SC.fill4 (.int .i64 r0) (.int .i64 r1) (.int .i64 r2) (.int .i64 r3)).cell 1 rfl 2 rfl, (SC.fill4 (.int .i64 r0) (.int .i64 r1) (.int .i64 r2) (.int .i64 r3)).cell 1 rfl 3 rfl⟩; obtain ⟨g0, g1, g2, g3⟩ := SC.fr4 0 rfl; obtain ⟨z0, z1, z2, z3⟩ := SC.im4 0 rfl | skip)))
    all_goals
      clear SDs SZs SYs S0s S0z S1s S1z SCs SCz
      go_wp2_with fail
      go_meet
      refine ⟨_, rfl, ?_⟩
      first | with_reducible exact SC.box [.int .i64 r0, .int .i64 r1, .int .i64 r2, .int .i64 r3] 28 | with_reducible exact SC.fill4 (.int .i64 r0) (.int .i64 r1) (.int .i64 r2) (.int .i64 r3) | with_reducible exact (SC.box [.int .i64 r0, .int .i64 r1, .int .i64 r2, .int .i64 r3] 28).drew | with_reducible exact (SC.fill4 (.int .i64 r0) (.int .i64 r1) (.int .i64 r2) (.int .i64 r3)).drew
  case rest =>
    obtain ⟨c9, rfl, HS1'⟩ := hcut
    have HS1 := hide HS1'
    clear SDs SZs SYs SD SZ SY HS1' HS0 cM1 cM2 cB hA'
    obtain ⟨i0, i1, i2, i3⟩ := HS1.out.im4 0 rfl
    go_wp2_with fail
    go_quiet (fail)
    go_wp2_with fail
    exact bodyPost_ret (v := .tuple #[.int .i64 (r1.tdiv 4), .int .i64 (r2.tdiv 4), .int .i64 (r3.tdiv 4)]) (by simp [results, Tryd.results22, go_sem]) rfl ⟨rfl, below_drewN HS1.out.below _⟩

end Go.Proofs.YtkgkdhocmglklaaDoor

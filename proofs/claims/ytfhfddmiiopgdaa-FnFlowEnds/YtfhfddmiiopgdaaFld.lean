/- The program's FlowDo. -/
import Derived.Test.YtfhfddmiiopgdaaFlc
import Derived.Test.YtfhfddmiiopgdaaGrk
namespace Go.Proofs.Ytfhfddmiiopgdaa
open Go.RowKit

theorem gL_fl (g : Nat → Int) (m k : Nat) (h : k < m) : gL (fl g m) k = g k := fl_at g m k h
theorem flAt_lt {c : Int} {g : Nat → Int} {k : Nat} (h : flAt c g k = true) (hk : k ≠ 0) : g ((k - 1) * 4) < g (k * 4) := by
  by_cases e : g ((k - 1) * 4) < g (k * 4)
  · exact e
  · have := flAt_no (c := c) hk (by omega : g (k * 4) ≤ g ((k - 1) * 4)); rw [this] at h; cases h
theorem ris_all {c : Int} {g : Nat → Int} {n : Nat} (h : flB c g n = true) (i : Nat) : ∀ d, i + d + 1 < n → g (i * 4) < g ((i + d + 1) * 4)
  | 0, hd => by have := flAt_lt ((flB_at h).2.2 (i + 1) hd) (by omega); simpa using this
  | d + 1, hd => by
    have h1 := ris_all h i d (by omega)
    have h2 := flAt_lt ((flB_at h).2.2 (i + (d + 1) + 1) hd) (by omega)
    rw [show i + (d + 1) + 1 - 1 = i + d + 1 by omega] at h2
    omega
theorem ris_of {c : Int} {g : Nat → Int} {n : Nat} (h : flB c g n = true) : risL (fl g (n * 4)) n := fun i j hij hj => by
  rw [gL_fl _ _ _ (by omega), gL_fl _ _ _ (by omega)]
  have := ris_all h i (j - i - 1) (by omega)
  rwa [show i + (j - i - 1) + 1 = j by omega] at this

theorem owns_set {w : World} {B m n : Nat} {e : TypeId} {v : Value} {xs : List Value} (h : w.ownsRow B e m v n xs) {q : Addr} (hq : ∀ b, v.ownBlock = some b → b ≠ q.block) (u : Value) : (w.setCell q u).ownsRow B e m v n xs :=
  owns_farO h fun b hb => Below.heap_setCell w q u b (hq b hb)
/-- what FlowDo answers: the clock -/
def foK (c : Int) (g : Nat → Int) (n : Nat) (kd : Int) : Int := if flB c g n = true then doK c kd else 0
/-- how many orders -/
def foN (c : Int) (g : Nat → Int) (n : Nat) (kd id du : Int) : Nat := if flB c g n = true then doN c n (fl g (n * 4)) kd id du else 0
/-- the orders -/
def foL (c : Int) (g : Nat → Int) (n : Nat) (kd id du : Int) : Nat → Int := gL (if flB c g n = true then doL c n (fl g (n * 4)) kd id du else [])
/-- the code -/
def foC (c : Int) (g : Nat → Int) (n : Nat) (kd id du : Int) : Int := if flB c g n = true then doC c n (fl g (n * 4)) kd id du else 1

set_option maxRecDepth 100000 in
set_option maxHeartbeats 4000000 in
theorem implFlowDo_any (c : Int) (a : Option Addr) (n cap : Nat) (g : Nat → Int) (hl : n ≤ 1048576) (kd id du : Int) (w : World) (h : Px a (n * 4) g w) :
    Calls Try.prog 11 #[vFlow c a n cap, vAct kd id du] w (FlR (foK c g n kd) (foN c g n kd id du) (foL c g n kd id du) (foC c g n kd id du) w) := by
  have HS0 := hide ((((St.start w).box [.int .i64 c, .slice a n cap] 28).box' [.int .i64 kd, .int .i64 id, .int .i64 du] 30 (b := w.heap.size + 1) (by simp)).box' [.int .i64 0, .slice none 0 0] 28 (b := w.heap.size + 2) (by simp))
  generalize hA : ((w.alloc (.cells [.int .i64 c, .slice a n cap].toArray 28)).alloc (.cells [.int .i64 kd, .int .i64 id, .int .i64 du].toArray 30)).alloc (.cells [.int .i64 0, .slice none 0 0].toArray 28) = wA at HS0
  have hA' : ((w.alloc (.cells #[.int .i64 c, .slice a n cap] 28)).alloc (.cells #[.int .i64 kd, .int .i64 id, .int .i64 du] 30)).alloc (.cells #[.int .i64 0, .slice none 0 0] 28) = wA := hA
  clear hA
  have HP0 := hide (h.below HS0.out.below)
  have cF := implFlowOk_any c a n cap g hl wA HP0.out
  clear h
  obtain ⟨i0, i1⟩ := HS0.out.im2 2 rfl
  cases hB : flB c g n
  · rw [hB] at cF
    have HV : Hid (∀ w', Below w.heap.size w w' → FlR (foK c g n kd) (foN c g n kd id du) (foL c g n kd id du) (foC c g n kd id du) w (.returned (.tuple #[vFlow 0 none 0 0, .int .i64 1])) w') := fun w' hb => by
      unfold foK foN foL foC
      rw [hB]
      exact ⟨none, 0, 0, rfl, .inl rfl, .inl rfl, hb, fun _ => ⟨rfl, rfl⟩⟩
    clear hB HP0
    go_enter Try.func11, Try.ntmps11
    go_wp2_with fail
    refine cF.mono ?_
    rintro e w1 ⟨rfl, hb⟩
    have HS1 := hide (HS0.out.next hb)
    clear cF hb HS0 i0 i1 hA'
    obtain ⟨k0, k1⟩ := HS1.out.im2 0 rfl
    obtain ⟨e0, e1⟩ := HS1.out.fr2 0 rfl
    have HE := hide (St.fill (L1 := []) (St.fill (L1 := []) HS1.out 0 (.int .i64 0)) 1 (.slice none 0 0))
    have HV2 := hide (HV.out _ HE.out.below)
    have d0 := (HE.out.im2 0 rfl).1
    have d1 := (HE.out.im2 0 rfl).2
    clear HS1 HE HV
    go_wp2_with fail
    exact bodyPost_ret (v := .tuple #[vFlow 0 none 0 0, .int .i64 1]) (by simp [results, Try.results11, go_sem, d0, d1]) rfl HV2.out
  rw [hB] at cF
  have hn5 : n ≤ 500 := (flB_at hB).2.1
  have hc5 : 0 ≤ c ∧ c ≤ 1000000000 := (flB_at hB).1
  have HRS := hide (ris_of hB)
  have HLL : Hid ((fl g (n * 4)).length = n * 4) := fl_len _ _
  have HV : Hid (∀ v' w' code, code = doC c n (fl g (n * 4)) kd id du → w'.ownsRow w.heap.size 41 4 v' (doN c n (fl g (n * 4)) kd id du) (ints (doL c n (fl g (n * 4)) kd id du)) → Below w.heap.size w w' → FlR (foK c g n kd) (foN c g n kd id du) (foL c g n kd id du) (foC c g n kd id du) w (.returned (.tuple #[.agg #[.int .i64 (doK c kd), v'], .int .i64 code])) w') := fun v' w' code hc ho hb => by
    unfold foK foN foL foC
    rw [hB, hc]
    obtain ⟨a', cp', b', rfl, how, hbb, hnn⟩ := ow_O ho
    exact ⟨a', cp', b', rfl, how, hbb, hb, hnn⟩
  have cC := fun w' h => cloneO_any a n cap g (by omega) w' h
  clear hB
  go_enter Try.func11, Try.ntmps11
  go_wp2_with fail
  refine cF.mono ?_
  rintro e w1 ⟨rfl, hb⟩
  have HS1 := hide (HS0.out.next hb)
  have HP1 := hide (HP0.out.below hb)
  have hsz : w.heap.size + 2 < w1.heap.size := (HS1.out.lt _ (mem_blocks_box (x := (w.heap.size + 2, _)) (List.Mem.head _))).2
  clear cF hb HS0 HP0 i0 i1 hA'
  go_upto_region 3 with fail
  obtain ⟨i0, i1⟩ := HS1.out.im2 2 rfl
  have HPA : Hid (Px a (n * 4) g w1.drew) := HP1.out
  have HPB : Hid (Px a (n * 4) g (w1.alloc (.cells #[.int .i64 0, .slice none 0 0] 28)).drew) := HP1.out.below ((Below.refl _ _).alloc (Nat.le_refl _) _).drew
  generalize fl g (n * 4) = L at *
  have HGA : Hid (∀ v w2, w2.ownsRow w1.heap.size 41 4 v n (ints L) → Below w1.drew.heap.size w1.drew w2 →
      w2.cell? ⟨w.heap.size, 0, none⟩ = some (.int .i64 c) ∧ w2.cell? ⟨w.heap.size, 1, none⟩ = some (.slice a n cap) ∧ w.heap.size < w2.heap.size ∧
      FS w1.heap.size w2.heap.size c v n L (w2.alloc (.cells #[.int .i64 c, v] 28)) ∧
      Below w1.heap.size w1 (w2.alloc (.cells #[.int .i64 c, v] 28))) := fun v w2 ho hb0 => by
    have hb : Below w1.heap.size w1 w2 := (Below.refl _ _).drew.trans hb0
    refine ⟨cell_up hb i0, cell_up hb i1, World.block_lt_of_cell? _ _ (cell_up hb i0), ⟨?_, ?_, hb.size, fun b h e => ?_, fun _ _ h => (by cases h)⟩, ?_⟩
    · exact Bx.new [.int .i64 c, v] 28 w2
    · exact ho.alloc _
    · have := (ho.lt b h).2; omega
    · exact hb.alloc hb.size _
  have HGB : Hid (∀ v w2, w2.ownsRow (w1.alloc (.cells #[.int .i64 0, .slice none 0 0] 28)).drew.heap.size 41 4 v n (ints L) → Below (w1.alloc (.cells #[.int .i64 0, .slice none 0 0] 28)).drew.heap.size (w1.alloc (.cells #[.int .i64 0, .slice none 0 0] 28)).drew w2 →
      w2.cell? ⟨w.heap.size, 0, none⟩ = some (.int .i64 c) ∧ w2.cell? ⟨w.heap.size, 1, none⟩ = some (.slice a n cap) ∧ w.heap.size < w2.heap.size ∧
      (w2.cell? ⟨w1.heap.size, 0, none⟩ = some (.int .i64 0) ∧ w2.cell? ⟨w1.heap.size, 1, none⟩ = some (.slice none 0 0) ∧ w2.frozen? ⟨w1.heap.size, 0, none⟩ = false ∧ w2.frozen? ⟨w1.heap.size, 1, none⟩ = false) ∧
      FS w1.heap.size w1.heap.size c v n L ((w2.setCell ⟨w1.heap.size, 0, none⟩ (.int .i64 c)).setCell ⟨w1.heap.size, 1, none⟩ v) ∧
      Below w1.heap.size w1 ((w2.setCell ⟨w1.heap.size, 0, none⟩ (.int .i64 c)).setCell ⟨w1.heap.size, 1, none⟩ v)) := fun v w2 ho hb => by
    have hq : (w1.alloc (.cells #[.int .i64 0, .slice none 0 0] 28)).drew.heap.size = w1.heap.size + 1 := by simp
    rw [hq] at ho hb
    have hb0 : Below w1.heap.size w1 (w1.alloc (.cells #[.int .i64 0, .slice none 0 0] 28)).drew := ((Below.refl _ _).alloc (Nat.le_refl _) _).drew
    have hb1 : Below w1.heap.size w1 w2 := hb0.trans (hb.mono (by omega))
    have hbx0 : Bx w1.heap.size [.int .i64 0, .slice none 0 0] (w1.alloc (.cells #[.int .i64 0, .slice none 0 0] 28)).drew := Bx.new [.int .i64 0, .slice none 0 0] 28 w1
    have hbx := hbx0.below hb (Nat.lt_succ_self _)
    refine ⟨cell_up hb1 i0, cell_up hb1 i1, World.block_lt_of_cell? _ _ (cell_up hb1 i0), ⟨(hbx 0 _ rfl).1, (hbx 1 _ rfl).1, (hbx 0 _ rfl).2, (hbx 1 _ rfl).2⟩, ⟨?_, ?_, Nat.le_refl _, fun b h e => ?_, fun _ _ h => (by cases h)⟩, ?_⟩
    · exact Bx.set (Bx.set hbx 0 (.int .i64 c)) 1 v
    · exact owns_set (owns_set (owns_mono ho (Nat.le_succ _)) (q := ⟨w1.heap.size, 0, none⟩) (fun b h => Nat.ne_of_gt (ho.lt b h).1) _) (q := ⟨w1.heap.size, 1, none⟩) (fun b h => Nat.ne_of_gt (ho.lt b h).1) _
    · have := (ho.lt b h).1; omega
    · exact (hb1.setCell (Nat.le_refl _) _).setCell (Nat.le_refl _) _
  go_region_held3 (fun (w' : World) => w'.cell? ⟨w.heap.size, 0, none⟩ = some (.int .i64 c) ∧ w'.cell? ⟨w.heap.size, 1, none⟩ = some (.slice a n cap))
    (first | with_reducible exact ⟨i0, i1⟩ | go_keep | with_reducible exact ⟨x0, x1⟩ | exact ⟨cell_up HB.out i0, cell_up HB.out i1⟩)
    (first
      | (go_at_call 23; refine (cC _ HPA.out).mono ?_; rintro e w2 ⟨v, rfl, ho, hb⟩; obtain ⟨ad, cp, rfl, -, -⟩ := own_pxO ho; obtain ⟨x0, x1, x2, hF, hB⟩ := HGA.out _ w2 ho hb; have HF := hide hF; have HB := hide hB; clear ho hb hF hB)
      | (go_at_call 23; refine (cC _ HPB.out).mono ?_; rintro e w2 ⟨v, rfl, ho, hb⟩; obtain ⟨ad, cp, rfl, -, -⟩ := own_pxO ho; obtain ⟨x0, x1, x2, ⟨y0, y1, y2, y3⟩, hF, hB⟩ := HGB.out _ w2 ho hb; have HF := hide hF; have HB := hide hB; clear ho hb hF hB))
  · have HS2 := hide (HS1.out.next HB.out)
    have cD := implDo_any _ _ _ _ _ _ kd id du hn5 hc5 HRS.out _ HF.out
    have HPw := hide HF.out.hB
    clear  x0 x1 x2 i0 i1 HGA HGB HPA HPB cC HF HP1
    generalize w2.alloc (.cells #[.int .i64 c, .slice ad n cp] 28) = wz at *
    obtain ⟨j0, j1, j2⟩ := HS2.out.im3 1 rfl
    go_wp2_with fail
    refine cD.mono ?_
    rintro e w3 ⟨rfl, ⟨v', hF⟩, hb3⟩
    have HF3 := hide hF
    have HB3 := hide (HB.out.trans hb3)
    have HS3 := hide (HS1.out.next HB3.out)
    clear cD hF hb3 HS2 HB j0 j1 j2
    obtain ⟨ad', cp', rfl, -, -⟩ := own_pxO HF3.out.own
    have t0 := (HF3.out.box 0 _ rfl).1
    have t1 := (HF3.out.box 1 _ rfl).1
    obtain ⟨k0, k1⟩ := HS3.out.im2 0 rfl
    obtain ⟨e0, e1⟩ := HS3.out.fr2 0 rfl
    have HE := hide (St.fill (L1 := []) (St.fill (L1 := []) HS3.out 0 (.int .i64 (doK c kd))) 1 (.slice ad' (doN c n L kd id du) cp'))
    have HO := hide (owns_set (owns_set (owns_mono HF3.out.own (B' := w.heap.size) (by omega)) (q := ⟨w.heap.size + 2, 0, none⟩) (fun b hb => by have := (HF3.out.own.lt b hb).1; show b ≠ w.heap.size + 2; omega) (.int .i64 (doK c kd))) (q := ⟨w.heap.size + 2, 1, none⟩) (fun b hb => by have := (HF3.out.own.lt b hb).1; show b ≠ w.heap.size + 2; omega) (.slice ad' (doN c n L kd id du) cp'))
    have HV2 := hide (HV.out _ _ _ rfl HO.out HE.out.below)
    have d0 := (HE.out.im2 0 rfl).1
    have d1 := (HE.out.im2 0 rfl).2
    clear HS1 HS3 HE HV HO HF3
    generalize doC c n L kd id du = DC at *
    generalize doN c n L kd id du = DN at *
    generalize doK c kd = DK at *
    go_wp2_with fail
    exact bodyPost_ret (v := .tuple #[vFlow DK ad' DN cp', .int .i64 DC]) (by simp [results, Try.results11, go_sem, d0, d1]) rfl HV2.out
  · have HS2 := hide (HS1.out.next HB.out)
    have cD := implDo_any _ _ _ _ _ _ kd id du hn5 hc5 HRS.out _ HF.out
    have HPw := hide HF.out.hB
    clear y0 y1 y2 y3 x0 x1 x2 i0 i1 HGA HGB HPA HPB cC HF HP1
    generalize (w2.setCell ⟨w1.heap.size, 0, none⟩ (.int .i64 c)).setCell ⟨w1.heap.size, 1, none⟩ (.slice ad n cp) = wz at *
    obtain ⟨j0, j1, j2⟩ := HS2.out.im3 1 rfl
    go_wp2_with fail
    refine cD.mono ?_
    rintro e w3 ⟨rfl, ⟨v', hF⟩, hb3⟩
    have HF3 := hide hF
    have HB3 := hide (HB.out.trans hb3)
    have HS3 := hide (HS1.out.next HB3.out)
    clear cD hF hb3 HS2 HB j0 j1 j2
    obtain ⟨ad', cp', rfl, -, -⟩ := own_pxO HF3.out.own
    have t0 := (HF3.out.box 0 _ rfl).1
    have t1 := (HF3.out.box 1 _ rfl).1
    obtain ⟨k0, k1⟩ := HS3.out.im2 0 rfl
    obtain ⟨e0, e1⟩ := HS3.out.fr2 0 rfl
    have HE := hide (St.fill (L1 := []) (St.fill (L1 := []) HS3.out 0 (.int .i64 (doK c kd))) 1 (.slice ad' (doN c n L kd id du) cp'))
    have HO := hide (owns_set (owns_set (owns_mono HF3.out.own (B' := w.heap.size) (by omega)) (q := ⟨w.heap.size + 2, 0, none⟩) (fun b hb => by have := (HF3.out.own.lt b hb).1; show b ≠ w.heap.size + 2; omega) (.int .i64 (doK c kd))) (q := ⟨w.heap.size + 2, 1, none⟩) (fun b hb => by have := (HF3.out.own.lt b hb).1; show b ≠ w.heap.size + 2; omega) (.slice ad' (doN c n L kd id du) cp'))
    have HV2 := hide (HV.out _ _ _ rfl HO.out HE.out.below)
    have d0 := (HE.out.im2 0 rfl).1
    have d1 := (HE.out.im2 0 rfl).2
    clear HS1 HS3 HE HV HO HF3
    generalize doC c n L kd id du = DC at *
    generalize doN c n L kd id du = DN at *
    generalize doK c kd = DK at *
    go_wp2_with fail
    exact bodyPost_ret (v := .tuple #[vFlow DK ad' DN cp', .int .i64 DC]) (by simp [results, Try.results11, go_sem, d0, d1]) rfl HV2.out

end Go.Proofs.Ytfhfddmiiopgdaa

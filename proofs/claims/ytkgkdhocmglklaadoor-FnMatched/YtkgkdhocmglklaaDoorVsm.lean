/- Volumes that are the same, and copies of them, as the law has them. -/
import Derived.Test.YtkgkdhocmglklaaDoorDtx
import Derived.Deep.RegionHeld3
import Derived.Deep.AppendLies
namespace Go.Proofs.YtkgkdhocmglklaaDoor
open Go.RowKit

/-- are the first n numbers the same -/
def eqF (f g : Nat → Int) (n : Nat) : Bool := allG (fun k => decide (f k = g k)) n
theorem allG_of {p : Nat → Bool} : ∀ {n : Nat}, (∀ k, k < n → p k = true) → allG p n = true
  | 0, _ => rfl
  | n + 1, h => by
    simp only [allG, Bool.and_eq_true]
    exact ⟨allG_of fun k hk => h k (by omega), h n (by omega)⟩
theorem eqF_true {f g : Nat → Int} {n : Nat} (h : ∀ k, k < n → f k = g k) : eqF f g n = true := allG_of fun k hk => by simp [h k hk]
theorem eqF_false {f g : Nat → Int} {n k : Nat} (hk : k < n) (h : f k ≠ g k) : eqF f g n = false := by
  cases hq : eqF f g n
  · rfl
  · have := allG_at hq k hk
    simp [h] at this

theorem sameIntsB_any (a a' : Option Addr) (len cap cap' : Nat) (f g : Nat → Int) (hl : len ≤ 1048576) (w : World) (h : Px a len f w) (h' : Px a' len g w) :
    Calls Tryd.prog 34 #[.slice a len cap, .slice a' len cap'] w fun e w' => e = .returned (.bool (eqF f g len)) ∧ ∃ n, w' = w.drewN n := by
  have HP := hide h
  have HP' := hide h'
  clear h h'
  have q0 : (((len : Nat) : Int) != (len : Int)) = false := by simp
  go_enter Tryd.func34, Tryd.ntmps34
  go_wp2
  go_loopw [5] (fun i wr => ∃ k n : Nat, k ≤ len ∧ i = .int .i64 k ∧ (∀ j, j < k → f j = g j) ∧ wr = w.drewN n) (fun i _ => len - (intOf i).toNat)
  case atStart => exact ⟨0, 0, by omega, rfl, fun j hj => by omega, rfl⟩
  case round =>
    obtain ⟨k, n, hk, rfl, hall, rfl⟩ := hrel
    have HA := hide hall
    clear hall
    by_cases hlt : k < len
    · obtain ⟨b, off, rfl, hz⟩ := HP.out.at hlt
      obtain ⟨b', off', rfl, hz'⟩ := HP'.out.at hlt
      clear HP HP'
      by_cases e : f k = g k
      · have hq : (f k != g k) = false := by simp [e]
        have HA' : Hid (∀ j, j < k + 1 → f j = g j) := fun j hj => by
          by_cases e' : j = k
          · rw [e']; exact e
          · exact HA.out j (by omega)
        clear e HA
        generalize f k = x at *
        generalize g k = y at *
        go_wp2
        go_quiet (fail)
        go_wp2
        go_roundw
        case rel => exact ⟨k + 1, _, by omega, by go_num, HA'.out, rfl⟩
        case measure => simp [intOf]; omega
      · have hq : (f k != g k) = true := by simp [e]
        have HF := hide (eqF_false hlt e)
        clear e HA
        generalize f k = x at *
        generalize g k = y at *
        go_wp2
        go_quiet (fail)
        go_wp2
        go_ret
        exact ⟨by rw [HF.out]; rfl, n + nq, by simp [World.drewN, Nat.add_assoc]⟩
    · obtain rfl : k = len := by omega
      have HT := hide (eqF_true HA.out)
      go_wp2
      go_ret
      exact ⟨by rw [HT.out]; rfl, _, rfl⟩

set_option maxRecDepth 100000 in
theorem sameVolume_any (X Y Z : Int) (a a' : Option Addr) (n cap cap' : Nat) (f g : Nat → Int) (hfg : ∀ k, k < n → f k = g k) (hl : n ≤ 1048576) (w : World) (h : Px a n f w) (h' : Px a' n g w) :
    Calls Tryd.prog 11 #[vVolume X Y Z a n cap, vVolume X Y Z a' n cap'] w fun e w' => e = .returned (.bool true) ∧ Below w.heap.size w w' := by
  have HS := hide (((St.start w).box [.int .i64 X, .int .i64 Y, .int .i64 Z, .slice a n cap] 26).box' [.int .i64 X, .int .i64 Y, .int .i64 Z, .slice a' n cap'] 26 (b := w.heap.size + 1) (by simp))
  have c := sameIntsB_any a a' n cap cap' f g hl _ (h.below HS.out.below) (h'.below HS.out.below)
  rw [eqF_true hfg] at c
  have q0 : (X == X) = true := by simp
  have q1 : (Y == Y) = true := by simp
  have q2 : (Z == Z) = true := by simp
  clear h h'
  go_enter Tryd.func11, Tryd.ntmps11
  go_upto_region 1 with fail
  generalize hw2 : World.alloc (World.alloc w _) _ = w2 at *
  have HS2 : Hid (St w [(w.heap.size + 1, [.int .i64 X, .int .i64 Y, .int .i64 Z, .slice a' n cap']), (w.heap.size, [.int .i64 X, .int .i64 Y, .int .i64 Z, .slice a n cap])] [] w2) := HS.out
  obtain ⟨i0, i1, i2, i3⟩ := HS2.out.im4 1 rfl
  obtain ⟨j0, j1, j2, j3⟩ := HS2.out.im4 0 rfl
  clear HS hw2
  go_wp2_with fail
  refine c.mono ?_
  rintro e w3 ⟨rfl, d, rfl⟩
  have HB := hide (below_drewN HS2.out.below d)
  clear c HS2 i0 i1 i2 i3 j0 j1 j2 j3
  go_wp2_with fail
  go_ret
  exact ⟨rfl, HB.out⟩

theorem src_ints {p : Addr} {n : Nat} {f : Nat → Int} {w : World} (h : Px (some p) n f w) : ∀ (j : Nat) (u : Value), (ints ((List.range n).map f))[j]? = some u → w.cell? (p.add j) = some u := by
  intro j u hu
  have hj : j < n := by
    have := (List.getElem?_eq_some_iff.1 hu).1
    rw [ints_length] at this
    simpa using this
  obtain ⟨b, off, e, hc⟩ := h.at hj
  cases e
  have e2 : (⟨b, off, none⟩ : Addr).add j = ⟨b, off + j, none⟩ := by by_cases h0 : j = 0 <;> simp [Addr.add, h0]
  rw [e2, hc]
  unfold ints at hu
  rw [List.getElem?_map, List.getElem?_map, List.getElem?_range hj] at hu
  exact hu
theorem rng_at {n : Nat} {f : Nat → Int} {k : Nat} (hk : k < n) : ((List.range n).map f).getD k 0 = f k := by
  rw [List.getD_eq_getElem?_getD, List.getElem?_map, List.getElem?_range hk]
  rfl

set_option maxRecDepth 100000 in
set_option maxHeartbeats 1000000 in
theorem copyVolume_any (X Y Z : Int) (a : Option Addr) (n cap : Nat) (f : Nat → Int) (hl : n ≤ 1048576) (h0 : 0 < n) (w : World) (h : Px a n f w) :
    Calls Tryd.prog 9 #[vVolume X Y Z a n cap] w fun e w' => ∃ b c, e = .returned (vVolume X Y Z (some ⟨b, 0, none⟩) n c) ∧ Row b n f w' ∧ w.heap.size ≤ b ∧ Below w.heap.size w w' := by
  obtain ⟨bs, off, rfl, -⟩ := h.at h0
  obtain ⟨ti, hi1, hi2, hi3, hi4⟩ := info2
  have HI1 := hide hi1
  have HB0 := hide (bnext (bnew w (.cells #[.int .i64 X, .int .i64 Y, .int .i64 Z, .slice (some ⟨bs, off, none⟩) n cap] 26)) (Nat.le_refl _) (bnew _ (.cells #[.int .i64 0, .int .i64 0, .int .i64 0, .slice none 0 0] 26)))
  have HP := hide h
  have N2 : Hid ((ints ((List.range n).map f)).length = n * 1) := by
    show _ = _
    rw [ints_length]; simp
  have N3 : Hid (0 + n ≤ maxLen) := by
    show _ ≤ _
    unfold maxLen; omega
  have N4 : Hid ((0 + n) * 8 ≤ 140737488355328) := by show _ ≤ _; omega
  have hE := (World.ownsRow_lit (e := 2) (size := 1) ((w.alloc (.cells #[.int .i64 X, .int .i64 Y, .int .i64 Z, .slice (some ⟨bs, off, none⟩) n cap] 26)).alloc (.cells #[.int .i64 0, .int .i64 0, .int .i64 0, .slice none 0 0] 26)) #[] 0 (base := w.heap.size + 2) (by simp) (by unfold maxLen; omega) rfl).drew
  have hz : ((w.alloc (.cells #[.int .i64 X, .int .i64 Y, .int .i64 Z, .slice (some ⟨bs, off, none⟩) n cap] 26)).alloc (.cells #[.int .i64 0, .int .i64 0, .int .i64 0, .slice none 0 0] 26)).heap.size = w.heap.size + 2 := by simp
  rw [hz] at hE
  have HE := hide hE
  clear hE hz
  have hb3 := bnext HB0.out (Nat.le_refl _) (bnew _ (.cells #[] 2))
  have HBE := hide hb3.drew
  have HN := hide (src_ints (h.below hb3.drew))
  have n0 : some w.heap.size ≠ Value.ownBlock (.slice (some ⟨w.heap.size + 2, 0, none⟩) 0 0) := by simp [Value.ownBlock]
  have n1 : some (w.heap.size + 1) ≠ Value.ownBlock (.slice (some ⟨w.heap.size + 2, 0, none⟩) 0 0) := by simp [Value.ownBlock]
  clear hi1 h hb3
  go_enter Tryd.func9, Tryd.ntmps9
  go_upto_region 1 with fail
  go_region_held3 (fun w' => w'.cell? ⟨w.heap.size, 0, none⟩ = some (.int .i64 X) ∧ w'.cell? ⟨w.heap.size, 1, none⟩ = some (.int .i64 Y) ∧ w'.cell? ⟨w.heap.size, 2, none⟩ = some (.int .i64 Z) ∧ w'.cell? ⟨w.heap.size, 3, none⟩ = some (.slice (some ⟨bs, off, none⟩) n cap))
    (first
      | with_reducible exact SK.out
      | (simp [go_sem]; done)
      | go_keep)
    (first
      | (refine step_append_lies _ (by rfl) _ _ _ (by rfl) (w.heap.size + 2) 2 ti _ 1 8 Tryd.underlying24 HI1.out hi2 hi3 hi4 rfl (by omega) (.slice (some ⟨w.heap.size + 2, 0, none⟩) 0 0) 0 [] (by rfl) HE.out ⟨bs, off, none⟩ n cap (ints ((List.range n).map f)) (by rfl) N2.out HN.out (ints_one _) h0 N3.out N4.out (by simp) (w.heap.size + 3) (by simp) ?_; intro gg cap1 w1 hown1 hgrow hat hlt1; have SK : Hid (w1.cell? ⟨w.heap.size, 0, none⟩ = some (.int .i64 X) ∧ w1.cell? ⟨w.heap.size, 1, none⟩ = some (.int .i64 Y) ∧ w1.cell? ⟨w.heap.size, 2, none⟩ = some (.int .i64 Z) ∧ w1.cell? ⟨w.heap.size, 3, none⟩ = some (.slice (some ⟨bs, off, none⟩) n cap)) := (And.intro ((hgrow.cell_far ⟨w.heap.size, 0, none⟩ (by simp; try omega) n0).trans (by simp [go_sem])) (And.intro ((hgrow.cell_far ⟨w.heap.size, 1, none⟩ (by simp; try omega) n0).trans (by simp [go_sem])) (And.intro ((hgrow.cell_far ⟨w.heap.size, 2, none⟩ (by simp; try omega) n0).trans (by simp [go_sem])) ((hgrow.cell_far ⟨w.heap.size, 3, none⟩ (by simp; try omega) n0).trans (by simp [go_sem]))))); have z0 : w1.cell? ⟨w.heap.size + 1, 0, none⟩ = some (.int .i64 0) := ((hgrow.cell_far ⟨w.heap.size + 1, 0, none⟩ (by simp; try omega) n1).trans (by simp [go_sem])); have z1 : w1.cell? ⟨w.heap.size + 1, 1, none⟩ = some (.int .i64 0) := ((hgrow.cell_far ⟨w.heap.size + 1, 1, none⟩ (by simp; try omega) n1).trans (by simp [go_sem])); have z2 : w1.cell? ⟨w.heap.size + 1, 2, none⟩ = some (.int .i64 0) := ((hgrow.cell_far ⟨w.heap.size + 1, 2, none⟩ (by simp; try omega) n1).trans (by simp [go_sem])); have z3 : w1.cell? ⟨w.heap.size + 1, 3, none⟩ = some (.slice none 0 0) := ((hgrow.cell_far ⟨w.heap.size + 1, 3, none⟩ (by simp; try omega) n1).trans (by simp [go_sem])); have y0 : w1.frozen? ⟨w.heap.size + 1, 0, none⟩ = false := (hgrow.frozen_far ⟨w.heap.size + 1, 0, none⟩ (by simp; try omega) n1).trans (by simp [go_sem]); have y1 : w1.frozen? ⟨w.heap.size + 1, 1, none⟩ = false := (hgrow.frozen_far ⟨w.heap.size + 1, 1, none⟩ (by simp; try omega) n1).trans (by simp [go_sem]); have y2 : w1.frozen? ⟨w.heap.size + 1, 2, none⟩ = false := (hgrow.frozen_far ⟨w.heap.size + 1, 2, none⟩ (by simp; try omega) n1).trans (by simp [go_sem]); have y3 : w1.frozen? ⟨w.heap.size + 1, 3, none⟩ = false := (hgrow.frozen_far ⟨w.heap.size + 1, 3, none⟩ (by simp; try omega) n1).trans (by simp [go_sem])))
  all_goals
    have HO1 : Hid (w1.ownsRow (w.heap.size + 2) 2 1 (.slice (some ⟨gg, 0, none⟩) n cap1) n (ints ((List.range n).map f))) := by
      have := hown1
      rw [Nat.zero_add, List.nil_append] at this
      exact this
    have HB1 : Hid (Below w.heap.size w w1) := HBE.out.trans ((Below.refl _ _).grown hgrow (by simp; try omega) (fun q hq => by
      have e : q = w.heap.size + 2 := by simpa [Value.ownBlock] using hq.symm
      omega))
    clear hown1 hgrow hat hlt1 SK HE HN HBE HB0 HP
    go_wp2_with fail
    refine bodyPost_ret (v := vVolume X Y Z (some ⟨gg, 0, none⟩) n cap1) (by simp [results, Tryd.results9, go_sem, z0, z1, z2, z3]) rfl ?_
    obtain ⟨a', cap', b', e, ow, hB, -⟩ := ow_of_some HO1.out h0
    cases e
    rw [Nat.mul_one] at ow
    rcases ow with ow | ⟨e2, ow⟩
    · omega
    · cases e2
      refine ⟨gg, cap1, rfl, ?_, by omega, below_set4 HB1.out (by omega) _ _ _ _⟩
      have hne : w.heap.size + 1 ≠ gg := by omega
      exact ((((ow.set hne _).set hne _).set hne _).set hne _).congr (fun q hq => rng_at hq)

end Go.Proofs.YtkgkdhocmglklaaDoor

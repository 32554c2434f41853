/- The law's own copy of an image of the program. -/
import Derived.Test.YtfaponkmmiiehaaHom
import Derived.Deep.RegionHeld3
import Derived.Deep.AppendLies
namespace Go.Proofs.Ytfaponkmmiiehaa
open Go.RowKit

theorem src_ints {p : Addr} {n : Nat} {f : Nat → Int} {w : World} (h : Px (some p) n f w) : ∀ (j : Nat) (u : Value), (ints ((List.range n).map f))[j]? = some u → w.cell? (p.add j) = some u := by
  intro j u hu
  have hj : j < n := by
    have := (List.getElem?_eq_some_iff.1 hu).1
    rw [ints_length] at this
    simpa using this
  obtain ⟨b, off, e, hc⟩ := h.at hj
  cases e
  have e2 : (⟨b, off, none⟩ : Addr).add j = ⟨b, off + j, none⟩ := by by_cases h0 : j = 0 <;> simp [Addr.add, h0]
  rw [e2, hc]
  unfold ints at hu
  rw [List.getElem?_map, List.getElem?_map, List.getElem?_range hj] at hu
  exact hu
theorem rng_at {n : Nat} {f : Nat → Int} {k : Nat} (hk : k < n) : ((List.range n).map f).getD k 0 = f k := by
  rw [List.getD_eq_getElem?_getD, List.getElem?_map, List.getElem?_range hk]
  rfl

theorem below_set3' {B : Nat} {w w1 : World} (h : Below B w w1) {b : Nat} {u v x : Value} (hb : B ≤ b) : Below B w (((w1.setCell ⟨b, 0, none⟩ u).setCell ⟨b, 1, none⟩ v).setCell ⟨b, 2, none⟩ x) :=
  Below.setCell (p := ⟨b, 2, none⟩) (Below.setCell (p := ⟨b, 1, none⟩) (Below.setCell (p := ⟨b, 0, none⟩) h hb u) hb v) hb x

set_option maxRecDepth 100000 in
set_option maxHeartbeats 1000000 in
theorem copyImage_any (W H : Int) (a : Option Addr) (n cap : Nat) (f : Nat → Int) (hl : n ≤ 1048576) (h0 : 0 < n) (w : World) (h : Px a n f w) :
    Calls Try.prog 9 #[im W H a n cap] w fun e w' => ∃ b c, e = .returned (im W H (some ⟨b, 0, none⟩) n c) ∧ Row b n f w' ∧ w.heap.size ≤ b ∧ Below w.heap.size w w' := by
  obtain ⟨bs, off, rfl, -⟩ := h.at h0
  obtain ⟨ti, hi1, hi2, hi3, hi4⟩ := info2
  have HI1 := hide hi1
  have HB0 := hide (bnext (bnew w (.cells #[.int .i64 W, .int .i64 H, .slice (some ⟨bs, off, none⟩) n cap] 26)) (Nat.le_refl _) (bnew _ (.cells #[.int .i64 0, .int .i64 0, .slice none 0 0] 26)))
  have HP := hide h
  have N2 : Hid ((ints ((List.range n).map f)).length = n * 1) := by
    show _ = _
    rw [ints_length]; simp
  have N3 : Hid (0 + n ≤ maxLen) := by
    show _ ≤ _
    unfold maxLen; omega
  have N4 : Hid ((0 + n) * 8 ≤ 140737488355328) := by show _ ≤ _; omega
  have hE := (World.ownsRow_lit (e := 2) (size := 1) ((w.alloc (.cells #[.int .i64 W, .int .i64 H, .slice (some ⟨bs, off, none⟩) n cap] 26)).alloc (.cells #[.int .i64 0, .int .i64 0, .slice none 0 0] 26)) #[] 0 (base := w.heap.size + 2) (by simp) (by unfold maxLen; omega) rfl).drew
  have hz : ((w.alloc (.cells #[.int .i64 W, .int .i64 H, .slice (some ⟨bs, off, none⟩) n cap] 26)).alloc (.cells #[.int .i64 0, .int .i64 0, .slice none 0 0] 26)).heap.size = w.heap.size + 2 := by simp
  rw [hz] at hE
  have HE := hide hE
  clear hE hz
  have hb3 := bnext HB0.out (Nat.le_refl _) (bnew _ (.cells #[] 2))
  have HBE := hide hb3.drew
  have HN := hide (src_ints (h.below hb3.drew))
  have n0 : some w.heap.size ≠ Value.ownBlock (.slice (some ⟨w.heap.size + 2, 0, none⟩) 0 0) := by simp [Value.ownBlock]
  have n1 : some (w.heap.size + 1) ≠ Value.ownBlock (.slice (some ⟨w.heap.size + 2, 0, none⟩) 0 0) := by simp [Value.ownBlock]
  clear hi1 h hb3
  go_enter Try.func9, Try.ntmps9
  go_upto_region 1 with fail
  go_region_held3 (fun w' => w'.cell? ⟨w.heap.size, 0, none⟩ = some (.int .i64 W) ∧ w'.cell? ⟨w.heap.size, 1, none⟩ = some (.int .i64 H) ∧ w'.cell? ⟨w.heap.size, 2, none⟩ = some (.slice (some ⟨bs, off, none⟩) n cap))
    (first
      | with_reducible exact SK.out
      | (simp [go_sem]; done)
      | go_keep)
    (first
      | (refine step_append_lies _ (by rfl) _ _ _ (by rfl) (w.heap.size + 2) 2 ti _ 1 8 Try.underlying24 HI1.out hi2 hi3 hi4 rfl (by omega) (.slice (some ⟨w.heap.size + 2, 0, none⟩) 0 0) 0 [] (by rfl) HE.out ⟨bs, off, none⟩ n cap (ints ((List.range n).map f)) (by rfl) N2.out HN.out (ints_one _) h0 N3.out N4.out (by simp) (w.heap.size + 3) (by simp) ?_; intro gg cap1 w1 hown1 hgrow hat hlt1; have SK := hide (And.intro ((hgrow.cell_far ⟨w.heap.size, 0, none⟩ (by simp; try omega) n0).trans (by simp [go_sem])) (And.intro ((hgrow.cell_far ⟨w.heap.size, 1, none⟩ (by simp; try omega) n0).trans (by simp [go_sem])) ((hgrow.cell_far ⟨w.heap.size, 2, none⟩ (by simp; try omega) n0).trans (by simp [go_sem]))) : w1.cell? ⟨w.heap.size, 0, none⟩ = some (.int .i64 W) ∧ w1.cell? ⟨w.heap.size, 1, none⟩ = some (.int .i64 H) ∧ w1.cell? ⟨w.heap.size, 2, none⟩ = some (.slice (some ⟨bs, off, none⟩) n cap)); have z0 : w1.cell? ⟨w.heap.size + 1, 0, none⟩ = some (.int .i64 0) := (hgrow.cell_far ⟨w.heap.size + 1, 0, none⟩ (by simp; try omega) n1).trans (by simp [go_sem]); have z1 : w1.cell? ⟨w.heap.size + 1, 1, none⟩ = some (.int .i64 0) := (hgrow.cell_far ⟨w.heap.size + 1, 1, none⟩ (by simp; try omega) n1).trans (by simp [go_sem]); have z2 : w1.cell? ⟨w.heap.size + 1, 2, none⟩ = some (.slice none 0 0) := (hgrow.cell_far ⟨w.heap.size + 1, 2, none⟩ (by simp; try omega) n1).trans (by simp [go_sem]); have y0 : w1.frozen? ⟨w.heap.size + 1, 0, none⟩ = false := (hgrow.frozen_far ⟨w.heap.size + 1, 0, none⟩ (by simp; try omega) n1).trans (by simp [go_sem]); have y1 : w1.frozen? ⟨w.heap.size + 1, 1, none⟩ = false := (hgrow.frozen_far ⟨w.heap.size + 1, 1, none⟩ (by simp; try omega) n1).trans (by simp [go_sem]); have y2 : w1.frozen? ⟨w.heap.size + 1, 2, none⟩ = false := (hgrow.frozen_far ⟨w.heap.size + 1, 2, none⟩ (by simp; try omega) n1).trans (by simp [go_sem])))
  all_goals
    have HO1 : Hid (w1.ownsRow (w.heap.size + 2) 2 1 (.slice (some ⟨gg, 0, none⟩) n cap1) n (ints ((List.range n).map f))) := by
      have := hown1
      rw [Nat.zero_add, List.nil_append] at this
      exact this
    have HB1 : Hid (Below w.heap.size w w1) := HBE.out.trans ((Below.refl _ _).grown hgrow (by simp; try omega) (fun q hq => by
      have e : q = w.heap.size + 2 := by simpa [Value.ownBlock] using hq.symm
      omega))
    clear hown1 hgrow hat hlt1 SK HE HN HBE HB0 HP
    go_wp2_with fail
    refine bodyPost_ret (v := im W H (some ⟨gg, 0, none⟩) n cap1) (by simp [results, Try.results9, go_sem, z0, z1, z2]) rfl ?_
    obtain ⟨a', cap', b', e, ow, hB, -⟩ := ow_of_some HO1.out h0
    cases e
    rw [Nat.mul_one] at ow
    rcases ow with ow | ⟨e2, ow⟩
    · omega
    · cases e2
      refine ⟨gg, cap1, rfl, ?_, by omega, below_set3' HB1.out (by omega)⟩
      have hne : w.heap.size + 1 ≠ gg := by omega
      exact (((ow.set hne _).set hne _).set hne _).congr (fun q hq => rng_at hq)

end Go.Proofs.Ytfaponkmmiiehaa

/- Gridding: what is added to the places, as a function of words; the program's addShare. -/
import Derived.Test.YtfgjooddolnifaaSpo
import Derived.Test.YtfgjooddolnifaaSpl
import Derived.Test.YtfgjooddolnifaaNum
namespace Go.Proofs.Ytfgjooddolnifaa
open Ieee Go.RowKit
attribute [local go_sem] run_store_float alloc_drewN setCell_drewN shape?_drewN

/-- an operation with one NaN for all -/
def cop (op : BinOp) (x y : Nat) : Nat := match floatBits op .f64 x y with
  | some r => r
  | none => 9221120237041090561
theorem cop_res (op : BinOp) (x y : Nat) : Res op x y (cop op x y) := by
  unfold Res cop
  cases h : floatBits op .f64 x y with
  | none => exact .inr ⟨rfl, by unfold isNaN; decide⟩
  | some r => exact .inl rfl
theorem Res.cop {op : BinOp} (hop : Arith op) {x x' y y' r : Nat} (h : Res op x y r) (hx : same x x') (hy : same y y') : same r (cop op x' y') := h.congr hop hx hy (cop_res _ _ _)
theorem same.symm {a b : Nat} (h : same a b) : same b a := by
  rcases h with h | h
  · exact .inl h.symm
  · exact .inr ⟨h.2, h.1⟩
theorem same.trans {a b c : Nat} (h : same a b) (h' : same b c) : same a c := by
  rcases h with rfl | h
  · exact h'
  · rcases h' with rfl | h'
    · exact .inr h
    · exact .inr ⟨h.1, h'.2⟩

/-- sixteenths -/
def q16 (s : Int) : Nat := cop .quo (floatOfInt .f64 s) 4625196817309499392
theorem q16_eq (s : Int) (h0 : 0 ≤ s) (h1 : s ≤ 16) : floatBits .quo .f64 (floatOfInt .f64 s) 4625196817309499392 = some (q16 s) := by
  obtain ⟨n, rfl⟩ : ∃ n : Nat, s = n := ⟨s.toNat, by omega⟩
  have hn : n ≤ 16 := by omega
  clear h0 h1
  have all : ∀ n : Fin 17, floatBits .quo .f64 (floatOfInt .f64 ((n : Nat) : Int)) 4625196817309499392 = some (q16 ((n : Nat) : Int)) := by decide +kernel
  exact all ⟨n, by omega⟩

/-- a share that is added at a place -/
def updG (g : Nat → Nat) (P v0 v1 c : Nat) : Nat → Nat := fun k => if k = P * 2 then cop .add (g (P * 2)) (cop .mul v0 c) else if k = P * 2 + 1 then cop .add (g (P * 2 + 1)) (cop .mul v1 c) else g k
/-- a row of floats, each as good as g's -/
def GR (b m : Nat) (g : Nat → Nat) (w : World) : Prop := PartP b m m (fun k z => same z (g k)) w
theorem GR.below {b m B : Nat} {g : Nat → Nat} {w w' : World} (h : GR b m g w) (hb : Below B w w') (hB : b < B) : GR b m g w' := PartP.below h hb hB
theorem GR.upd {b m P v0 v1 c r s : Nat} {g : Nat → Nat} {w : World} (h : GR b m g w) (hr : same r (cop .add (g (P * 2)) (cop .mul v0 c))) (hs : same s (cop .add (g (P * 2 + 1)) (cop .mul v1 c))) :
    GR b m (updG g P v0 v1 c) ((w.setCell ⟨b, P * 2, none⟩ (.float .f64 r)).setCell ⟨b, P * 2 + 1, none⟩ (.float .f64 s)) := by
  intro j hj
  obtain ⟨⟨z, hz, e⟩, fr⟩ := h j hj
  refine ⟨?_, by simpa using fr⟩
  by_cases h0 : j = P * 2
  · subst h0
    refine ⟨r, ?_, fun _ => by show same r (updG g P v0 v1 c (P * 2)); unfold updG; rw [if_pos rfl]; exact hr⟩
    rw [World.cell?_setCell_other _ _ _ _ (by simp)]
    exact World.cell?_setCell_same _ _ _ hz
  · by_cases h1 : j = P * 2 + 1
    · subst h1
      refine ⟨s, ?_, fun _ => by show same s (updG g P v0 v1 c (P * 2 + 1)); unfold updG; rw [if_neg (by omega), if_pos rfl]; exact hs⟩
      refine World.cell?_setCell_same _ _ _ (u := .float .f64 z) ?_
      rw [World.cell?_setCell_other _ _ _ _ (by simp)]; exact hz
    · refine ⟨z, ?_, fun hj' => by show same z (updG g P v0 v1 c j); unfold updG; rw [if_neg h0, if_neg h1]; exact e hj'⟩
      rw [World.cell?_setCell_other _ _ _ _ (by simp; try omega), World.cell?_setCell_other _ _ _ _ (by simp; try omega)]; exact hz

/-- what addShare does to the places -/
def ash (n : Nat) (p : Int) (v0 v1 : Nat) (s : Int) (g : Nat → Nat) : Nat → Nat := if 0 < s ∧ 0 ≤ p ∧ p < n then updG g p.toNat v0 v1 (q16 s) else g

theorem Kept.set2 {b : Nat} {w w1 : World} (h : Kept b w w1) (i j : Nat) (u v : Value) : Kept b w ((w1.setCell ⟨b, i, none⟩ u).setCell ⟨b, j, none⟩ v) :=
  Kept.setCell (a := ⟨b, j, none⟩) (Kept.setCell (a := ⟨b, i, none⟩) h rfl u) rfl v
/-- behind a call: two cells are as they were -/
theorem cell_kept {w w' : World} {b j : Nat} {v : Value} (hb : Below w.heap.size w w') (h : w.cell? ⟨b, j, none⟩ = some v) : w'.cell? ⟨b, j, none⟩ = some v :=
  (hb.cell (p := ⟨b, j, none⟩) (World.block_lt_of_cell? w _ h)).trans h
theorem froz_kept {w w' : World} {b j : Nat} {v : Value} (hb : Below w.heap.size w w') (h : w.cell? ⟨b, j, none⟩ = some v) (hf : w.frozen? ⟨b, j, none⟩ = false) : w'.frozen? ⟨b, j, none⟩ = false :=
  (hb.frozen (p := ⟨b, j, none⟩) (World.block_lt_of_cell? w _ h)).trans hf

set_option maxHeartbeats 1000000 in
theorem addShare_any (b n : Nat) (p : Int) (v0 v1 : Nat) (s : Int) (g : Nat → Nat) (hn : n ≤ 4096) (hn1 : 1 ≤ n) (h0 : 0 ≤ s) (h1 : s ≤ 16) (w : World) (h : GR b (n * 2) g w) (hb : b < w.heap.size) :
    Calls Try.prog 55 #[.slice (some ⟨b, 0, none⟩) n n, .int .i64 p, cx v0 v1, .int .i64 s] w fun e w' => e = .returned (.tuple #[]) ∧ GR b (n * 2) (ash n p v0 v1 s g) w' ∧ Kept b w w' := by
  have hq := q16_eq s h0 h1
  have hqr := fun w => run_float_arith (P := Try.prog) w .quo 31 .f64 _ _ _ hq
  have hI := n_within_any p 0 ((n : Int) - 1)
  have hbx := bnew w (.cells #[.float .f64 v0, .float .f64 v1] 34)
  have HB := hide hbx
  have HG := hide (h.below hbx hb)
  unfold ash
  by_cases hs : 0 < s
  · by_cases hp : 0 ≤ p ∧ p < n
    · obtain ⟨P, rfl⟩ : ∃ P : Nat, p = P := ⟨p.toNat, by omega⟩
      have hPn : P < n := by omega
      have hin : inB P 0 ((n : Int) - 1) = true := by unfold inB; simp; omega
      rw [hin] at hI
      rw [if_pos ⟨hs, hp⟩, Int.toNat_natCast]
      obtain ⟨⟨x, hx, ex⟩, fx⟩ := h (P * 2) (by omega)
      obtain ⟨⟨y, hy, ey⟩, fy⟩ := h (P * 2 + 1) (by omega)
      have EX : Hid (same x (g (P * 2))) := ex (by omega)
      have EY : Hid (same y (g (P * 2 + 1))) := ey (by omega)
      have HW := hide hbx.drew
      have HG0 := hide h
      clear hbx h hq hin ex ey hp
      go_enter Try.func55, Try.ntmps55
      go_wp2_with fail
      refine (hI _).mono ?_
      rintro e w1 ⟨rfl, rfl⟩
      clear hI
      go_upto_region 2 with fail
      go_region_with (first
        | (go_at_call 46; (with_reducible refine (times_impl _ _ _ _).mono ?_); rintro e wA ⟨r0, s0, rfl, hbA, hr0, hs0⟩; have HA := hide (bnext HW.out (Nat.le_refl _) hbA); have xA := cell_kept HA.out hx; have yA := cell_kept HA.out hy)
        | (go_at_call 47; (with_reducible refine (add_impl_b _ _ _ _ _).mono ?_); rintro e wB ⟨r1, s1, rfl, hbB, hr1, hs1⟩; have HB2 := hide (bnext HA.out (Nat.le_refl _) hbB); have xB := cell_kept HB2.out hx; have yB := cell_kept HB2.out hy; have fxB := froz_kept HB2.out hx fx; have fyB := froz_kept HB2.out hy fy))
      all_goals
        have HGB := hide (GR.upd (g := g) (v0 := v0) (v1 := v1) (c := q16 s) (HG0.out.below HB2.out hb) (hr1.cop aAdd EX.out (hr0.cop aMul (same_rfl _) (same_rfl _))) (hs1.cop aAdd EY.out (hs0.cop aMul (same_rfl _) (same_rfl _))))
        have HKB := hide ((Kept.of_below (p := b) HB2.out).set2 (P * 2) (P * 2 + 1) (.float .f64 r1) (.float .f64 s1))
        clear hbA hbB hr0 hs0 hr1 hs1 xA yA xB yB fxB fyB HA HB2 HG HB HG0 EX EY HW hx hy fx fy
        go_wp2_with fail
        go_returns
        exact ⟨rfl, HGB.out, HKB.out⟩
    · have hin : inB p 0 ((n : Int) - 1) = false := by unfold inB; simp; omega
      rw [hin] at hI
      rw [if_neg (by omega)]
      have HK := hide (Kept.of_below (p := b) hbx)
      clear hbx h hq hin
      go_enter Try.func55, Try.ntmps55
      go_wp2_with fail
      refine (hI _).mono ?_
      rintro e w1 ⟨rfl, rfl⟩
      go_wp2_with fail
      go_returns
      exact ⟨rfl, HG.out, HK.out⟩
  · rw [if_neg (by omega)]
    have HK := hide (Kept.of_below (p := b) hbx)
    clear hbx h hq hI
    go_enter Try.func55, Try.ntmps55
    go_wp2_with fail
    go_returns
    exact ⟨rfl, HG.out, HK.out⟩

end Go.Proofs.Ytfgjooddolnifaa

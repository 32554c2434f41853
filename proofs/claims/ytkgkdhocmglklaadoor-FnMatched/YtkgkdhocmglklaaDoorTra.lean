/- The matrix of a turn: the program. -/
import Derived.Test.YtkgkdhocmglklaaDoorTrv
import Derived.Test.YtkgkdhocmglklaaDoorTrx
import Derived.Test.YtkgkdhocmglklaaDoorCln
import Derived.Deep.RegionHeld
import Derived.BigRegion
namespace Go.Proofs.YtkgkdhocmglklaaDoor
open Go.RowKit

theorem qSml2 {a b c d x y z : Int} (h : Sml 2 a b c d) (hx : -2 ≤ x ∧ x ≤ 2) (hy : -2 ≤ y ∧ y ≤ 2) (hz : -2 ≤ z ∧ z ≤ 2) : Sml 1000 ((qW a b c d 0 x y z).tdiv 2) ((qX a b c d 0 x y z).tdiv 2) ((qY a b c d 0 x y z).tdiv 2) ((qZ a b c d 0 x y z).tdiv 2) := by
  have t : ∀ q : Int, -100 ≤ q ∧ q ≤ 100 → -1000 ≤ q.tdiv 2 ∧ q.tdiv 2 ≤ 1000 := fun q hq => by
    rcases Int.le_total 0 q with h0 | h0
    · rw [Int.tdiv_eq_ediv_of_nonneg h0]; omega
    · have e : q = -(-q) := by omega
      rw [e, Int.neg_tdiv, Int.tdiv_eq_ediv_of_nonneg (by omega)]; omega
  have mwx := mulB h.w0 h.w1 hx.1 hx.2
  have mwy := mulB h.w0 h.w1 hy.1 hy.2
  have mwz := mulB h.w0 h.w1 hz.1 hz.2
  have mxx := mulB h.x0 h.x1 hx.1 hx.2
  have mxy := mulB h.x0 h.x1 hy.1 hy.2
  have mxz := mulB h.x0 h.x1 hz.1 hz.2
  have myx := mulB h.y0 h.y1 hx.1 hx.2
  have myy := mulB h.y0 h.y1 hy.1 hy.2
  have myz := mulB h.y0 h.y1 hz.1 hz.2
  have mzx := mulB h.z0 h.z1 hx.1 hx.2
  have mzy := mulB h.z0 h.z1 hy.1 hy.2
  have mzz := mulB h.z0 h.z1 hz.1 hz.2
  have tW := t (qW a b c d 0 x y z) (by unfold qW; omega)
  have tX := t (qX a b c d 0 x y z) (by unfold qX; omega)
  have tY := t (qY a b c d 0 x y z) (by unfold qY; omega)
  have tZ := t (qZ a b c d 0 x y z) (by unfold qZ; omega)
  exact ⟨tW.1, tW.2, tX.1, tX.2, tY.1, tY.2, tZ.1, tZ.2⟩

theorem tif_t' {p : Bool} (h : p = true) (v : Int) : tif p v = v := by unfold tif; rw [if_pos h]

/-- where the program turns an arrow -/
def aro (q : Int → Int → Int → Int → Int → Int → Int → Int → Int) (a b c d x y z : Int) : Int :=
  (q ((qW a b c d 0 x y z).tdiv 2) ((qX a b c d 0 x y z).tdiv 2) ((qY a b c d 0 x y z).tdiv 2) ((qZ a b c d 0 x y z).tdiv 2) a (-b) (-c) (-d)).tdiv 2

set_option maxRecDepth 100000 in
set_option maxHeartbeats 4000000 in
theorem around_any (a b c d x y z : Int) (hs : Sml 2 a b c d) (hx : -2 ≤ x ∧ x ≤ 2) (hy : -2 ≤ y ∧ y ≤ 2) (hz : -2 ≤ z ∧ z ≤ 2) (w : World) :
    Calls Tryd.prog 54 #[tv a b c d, tv 0 x y z] w fun e w' => e = .returned (tv (aro qW a b c d x y z) (aro qX a b c d x y z) (aro qY a b c d x y z) (aro qZ a b c d x y z)) ∧ Below w.heap.size w w' := by
  have hq := qSml2 hs hx hy hz
  have hbk : Sml 1000 a (-b) (-c) (-d) := by obtain ⟨w0, w1, x0, x1, y0, y1, z0, z1⟩ := hs; exact ⟨by omega, by omega, by omega, by omega, by omega, by omega, by omega, by omega⟩
  have cM1 := fun w' => behind_any a b c d 0 x y z hs.wide ⟨by omega, by omega, by omega, by omega, by omega, by omega, by omega, by omega⟩ w'
  have cB := fun w' => back_any a b c d hs.wide w'
  have cM2 := fun w' => behind_any _ _ _ _ a (-b) (-c) (-d) hq hbk w'
  unfold aro
  generalize (qW a b c d 0 x y z).tdiv 2 = p0 at *
  generalize (qX a b c d 0 x y z).tdiv 2 = p1 at *
  generalize (qY a b c d 0 x y z).tdiv 2 = p2 at *
  generalize (qZ a b c d 0 x y z).tdiv 2 = p3 at *
  generalize (qW p0 p1 p2 p3 a (-b) (-c) (-d)).tdiv 2 = r0 at *
  generalize (qX p0 p1 p2 p3 a (-b) (-c) (-d)).tdiv 2 = r1 at *
  generalize (qY p0 p1 p2 p3 a (-b) (-c) (-d)).tdiv 2 = r2 at *
  generalize (qZ p0 p1 p2 p3 a (-b) (-c) (-d)).tdiv 2 = r3 at *
  clear hq hbk hs hx hy hz
  have HS0 := hide ((((St.start w).box [.int .i64 a, .int .i64 b, .int .i64 c, .int .i64 d] 28).box' [.int .i64 0, .int .i64 x, .int .i64 y, .int .i64 z] 28 (b := w.heap.size + 1) (by simp)).box' [.int .i64 0, .int .i64 0, .int .i64 0, .int .i64 0] 28 (b := w.heap.size + 2) (by simp))
  have SDs : Hid (_ ∧ _ ∧ _ ∧ _ ∧ _ ∧ _ ∧ _ ∧ _) := ⟨HS0.out.drew.cell 2 rfl 0 rfl, HS0.out.drew.cell 2 rfl 1 rfl, HS0.out.drew.cell 2 rfl 2 rfl, HS0.out.drew.cell 2 rfl 3 rfl, HS0.out.drew.cell 1 rfl 0 rfl, HS0.out.drew.cell 1 rfl 1 rfl, HS0.out.drew.cell 1 rfl 2 rfl, HS0.out.drew.cell 1 rfl 3 rfl⟩
  go_enter Tryd.func54, Tryd.ntmps54
  go_upto_region 1 with fail
  go_region_held (fun (w' : World) => w'.cell? ⟨w.heap.size, 0, none⟩ = some (.int .i64 a) ∧ w'.cell? ⟨w.heap.size, 1, none⟩ = some (.int .i64 b) ∧ w'.cell? ⟨w.heap.size, 2, none⟩ = some (.int .i64 c) ∧ w'.cell? ⟨w.heap.size, 3, none⟩ = some (.int .i64 d) ∧ w'.cell? ⟨w.heap.size + 1, 0, none⟩ = some (.int .i64 0) ∧ w'.cell? ⟨w.heap.size + 1, 1, none⟩ = some (.int .i64 x) ∧ w'.cell? ⟨w.heap.size + 1, 2, none⟩ = some (.int .i64 y) ∧ w'.cell? ⟨w.heap.size + 1, 3, none⟩ = some (.int .i64 z))
    (first | (with_reducible exact SDs.out) | (with_reducible exact S0s.out) | (with_reducible exact S1s.out) | (with_reducible exact S2s.out) | (with_reducible exact S3s.out))
    (first
      | (go_at_call 59; (with_reducible refine (cM1 _).mono ?_); rintro e q0 ⟨rfl, h0⟩; have S0 := HS0.out.drew.next h0; clear h0; have S0s : Hid (_ ∧ _ ∧ _ ∧ _ ∧ _ ∧ _ ∧ _ ∧ _) := ⟨S0.cell 2 rfl 0 rfl, S0.cell 2 rfl 1 rfl, S0.cell 2 rfl 2 rfl, S0.cell 2 rfl 3 rfl, S0.cell 1 rfl 0 rfl, S0.cell 1 rfl 1 rfl, S0.cell 1 rfl 2 rfl, S0.cell 1 rfl 3 rfl⟩)
      | (go_at_call 60; (with_reducible refine (cB _).mono ?_); rintro e q1 ⟨rfl, h1⟩; have S1 := S0.next h1; clear h1; have S1s : Hid (_ ∧ _ ∧ _ ∧ _ ∧ _ ∧ _ ∧ _ ∧ _) := ⟨S1.cell 2 rfl 0 rfl, S1.cell 2 rfl 1 rfl, S1.cell 2 rfl 2 rfl, S1.cell 2 rfl 3 rfl, S1.cell 1 rfl 0 rfl, S1.cell 1 rfl 1 rfl, S1.cell 1 rfl 2 rfl, S1.cell 1 rfl 3 rfl⟩)
      | (go_at_call 59; (with_reducible refine (cM2 _).mono ?_); rintro e q2 ⟨rfl, h2⟩; have S2 := S1.next h2; clear h2; have S3 := S2.fill4 (.int .i64 r0) (.int .i64 r1) (.int .i64 r2) (.int .i64 r3); obtain ⟨g0, g1, g2, g3⟩ := S2.fr4 0 rfl; obtain ⟨z0, z1, z2, z3⟩ := S2.im4 0 rfl; have S2s : Hid (_ ∧ _ ∧ _ ∧ _ ∧ _ ∧ _ ∧ _ ∧ _) := ⟨S2.cell 2 rfl 0 rfl, S2.cell 2 rfl 1 rfl, S2.cell 2 rfl 2 rfl, S2.cell 2 rfl 3 rfl, S2.cell 1 rfl 0 rfl, S2.cell 1 rfl 1 rfl, S2.cell 1 rfl 2 rfl, S2.cell 1 rfl 3 rfl⟩; have S3s : Hid (_ ∧ _ ∧ _ ∧ _ ∧ _ ∧ _ ∧ _ ∧ _) := ⟨S3.cell 2 rfl 0 rfl, S3.cell 2 rfl 1 rfl, S3.cell 2 rfl 2 rfl, S3.cell 2 rfl 3 rfl, S3.cell 1 rfl 0 rfl, S3.cell 1 rfl 1 rfl, S3.cell 1 rfl 2 rfl, S3.cell 1 rfl 3 rfl⟩))
  all_goals
    clear SDs S0s S1s S2s S3s S0 S1 S2
    go_wp2_with fail
    exact bodyPost_ret (v := tv r0 r1 r2 r3) (by simp [results, Tryd.results54, go_sem, z0, z1, z2, z3]) rfl ⟨rfl, by first | exact S3.below | exact S3.drew.below⟩

end Go.Proofs.YtkgkdhocmglklaaDoor

/- Folding: the specification, where it can be. -/
import Derived.Test.YtpeocbhnnpppjaaFol
import Derived.Deep.RegionHeld
namespace Go.Proofs.Ytpeocbhnnpppjaa
open Go.RowKit

set_option maxRecDepth 100000 in
set_option maxHeartbeats 2000000 in
theorem specFold_yes (W H : Int) (Q M : Nat) (hWM : W * (M : Int) = (Q : Int)) (hH : H = 2 * (M : Int)) (hQ : 1 ≤ Q) (hQ2 : Q ≤ 2048) (a : Option Addr) (n cap : Nat) (f : Nat → Int) (a' : Option Addr) (cap' : Nat) (g : Nat → Int) (hn : n = 2 * Q) (w : World) (h : Px a n f w) (h' : Px a' n g w) (hq : okB W H n f = true) (hq' : okB W H n g = true) :
    Calls Try.prog 6 #[im W H a n cap, im W H a' n cap'] w (ImR W M Q (foldF Q f g) w) := by
  have hA := specOk_any W H a n cap f (by omega)
  have hA' := specOk_any W H a' n cap' g (by omega)
  have HP := hide h
  have HP' := hide h'
  have HS0 := hide (St.three w W H (.slice a n cap) W H (.slice a' n cap'))
  clear h h'
  have hWb : (W != W) = false := by simp
  have hHb : (H != H) = false := by simp
  have hp := (okB_parts hq).2.1
  obtain ⟨p1, p2⟩ := side_bounds hp
  have ht : (H % 2 != 0) = false := by simp; omega
  have hd1 : H / 2 = (M : Int) := by omega
  have hall := (okB_parts hq).2.2.2
  have hall' := (okB_parts hq').2.2.2
  have cR := fun w' h => specResidues_any W H a n cap f (by omega) w' h
  have cR' := fun w' h => specResidues_any W H a' n cap' g (by omega) w' h
  have hnew := l2New_any W (M : Int) Q hWM (by omega)
  rw [hq] at hA cR
  rw [hq'] at hA' cR'
  simp only [if_true] at cR cR'
  unfold ImR at cR cR'
  have HN := hide hn
  clear hq hq' hWM hH hp hall hall' hn
  go_enter Try.func6, Try.ntmps6
  go_wp2_with fail
  refine (hA _ (HP.out.below HS0.out.below)).mono ?_
  rintro e w1 ⟨rfl, hb⟩
  have HS1 := hide (HS0.out.next hb)
  obtain ⟨z0, z1, z2⟩ := HS1.out.im3 0 rfl
  obtain ⟨e0, e1, e2⟩ := HS1.out.fr3 0 rfl
  obtain ⟨j0, j1, j2⟩ := HS1.out.im3 1 rfl
  obtain ⟨i0, i1, i2⟩ := HS1.out.im3 2 rfl
  clear hA hb HS0
  go_wp2_with fail
  refine (hA' _ (HP'.out.below HS1.out.below)).mono ?_
  rintro e w2 ⟨rfl, hb⟩
  have HS2 := hide (HS1.out.next hb)
  clear i0 i1 i2 j0 j1 j2 z0 z1 z2 e0 e1 e2
  obtain ⟨z0, z1, z2⟩ := HS2.out.im3 0 rfl
  obtain ⟨e0, e1, e2⟩ := HS2.out.fr3 0 rfl
  obtain ⟨j0, j1, j2⟩ := HS2.out.im3 1 rfl
  obtain ⟨i0, i1, i2⟩ := HS2.out.im3 2 rfl
  clear hA' hb HS1
  go_wp2_with fail
  refine (cR _ (HP.out.below HS2.out.below)).mono ?_
  rintro e w3 ⟨a1, c1, b1, rfl, ho, h1, hb⟩
  obtain ⟨rfl, _⟩ : a1 = some ⟨b1, 0, none⟩ ∧ True := by
    rcases ho with h | h
    · have := HN.out; omega
    · exact ⟨h.1, trivial⟩
  have HS3 := hide ((HS2.out.own hb ho.v h1).box [.int .i64 W, .int .i64 H, .slice (some ⟨b1, 0, none⟩) n c1] 26)
  generalize hxw4 : w3.alloc (.cells [.int .i64 W, .int .i64 H, .slice (some ⟨b1, 0, none⟩) n c1].toArray 26) = w4 at HS3
  have hyw4 : w3.alloc (.cells #[.int .i64 W, .int .i64 H, .slice (some ⟨b1, 0, none⟩) n c1] 26) = w4 := hxw4
  clear hxw4
  clear cR hb ho h1 HS2 i0 i1 i2 j0 j1 j2 z0 z1 z2 e0 e1 e2
  obtain ⟨j0, j1, j2⟩ := HS3.out.im3 2 rfl
  go_wp2_with fail
  refine (cR' _ (HP'.out.below HS3.out.below)).mono ?_
  rintro e w5 ⟨a2, c2, b2, rfl, ho, h1, hb⟩
  obtain ⟨rfl, _⟩ : a2 = some ⟨b2, 0, none⟩ ∧ True := by
    rcases ho with h | h
    · have := HN.out; omega
    · exact ⟨h.1, trivial⟩
  have HS5 := hide ((HS3.out.own hb ho.v h1).box [.int .i64 W, .int .i64 H, .slice (some ⟨b2, 0, none⟩) n c2] 26)
  generalize hxw6 : w5.alloc (.cells [.int .i64 W, .int .i64 H, .slice (some ⟨b2, 0, none⟩) n c2].toArray 26) = w6 at HS5
  have hyw6 : w5.alloc (.cells #[.int .i64 W, .int .i64 H, .slice (some ⟨b2, 0, none⟩) n c2] 26) = w6 := hxw6
  clear hxw6
  clear cR' hb ho h1 HS3 j0 j1 j2 hyw4
  obtain ⟨i0, i1, i2⟩ := HS5.out.im3 4 rfl
  go_wp2_with fail
  refine (hnew _).mono ?_
  rintro e w7 ⟨rfl, hr, hb, hs⟩
  have HS7 := hide ((HS5.out.own hb hr.v (.inr (by omega))).box [.int .i64 W, .int .i64 (M : Int), .slice (some ⟨w6.heap.size + 1, 0, none⟩) Q Q] 26)
  generalize hxw8 : w7.alloc (.cells [.int .i64 W, .int .i64 (M : Int), .slice (some ⟨w6.heap.size + 1, 0, none⟩) Q Q].toArray 26) = w8 at HS7
  have hyw8 : w7.alloc (.cells #[.int .i64 W, .int .i64 (M : Int), .slice (some ⟨w6.heap.size + 1, 0, none⟩) Q Q] 26) = w8 := hxw8
  clear hxw8
  have HR8 : Hid (Row (w6.heap.size + 1) Q (fun _ => 0) w8) := by rw [← hyw8]; exact hr.below (bnew _ _) hs
  clear hnew hr hb hs HS5 i0 i1 i2 hyw6
  generalize hB : w6.heap.size + 1 = B at *
  obtain ⟨l0, l1, l2⟩ := HS7.out.im3 0 rfl
  go_wp2_with fail
  clear l0 l1 l2 hyw8
  go_loopw [9] (fun i wr => ∃ k : Nat, k ≤ Q ∧ i = .int .i64 k ∧ Kept B w8 wr ∧ Part B Q k (foldF Q f g) wr) (fun i _ => Q - (intOf i).toNat)
  case atStart => exact ⟨0, by omega, rfl, Kept.refl _ _, HR8.out.part⟩
  case round =>
    obtain ⟨k, hk, rfl, hkept, hpart⟩ := hrel
    have HSr := hide (HS7.out.out (by omega) hkept)
    by_cases hlt : k < Q
    · obtain ⟨l0, l1, l2⟩ := HSr.out.im3 0 rfl
      obtain ⟨i0, i1, i2⟩ := HSr.out.im3 2 rfl
      obtain ⟨j0, j1, j2⟩ := HSr.out.im3 1 rfl
      have rA : Row b1 n (resF f) wr := by
        rcases HSr.out.nthO 1 rfl with h | h
        · intro k hk; have := HN.out; omega
        · exact h.2
      have rB : Row b2 n (resF g) wr := by
        rcases HSr.out.nthO 0 rfl with h | h
        · intro k hk; have := HN.out; omega
        · exact h.2
      have x1 := (rA k (by have := HN.out; omega)).1
      have x2 := (rA (k + Q) (by have := HN.out; omega)).1
      have y1 := (rB k (by have := HN.out; omega)).1
      have y2 := (rB (k + Q) (by have := HN.out; omega)).1
      obtain ⟨K2, hK2⟩ : ∃ K2, K2 = k + Q := ⟨_, rfl⟩
      have hidx : IntKind.i64.wrap ((k : Int) + (Q : Int)) = (K2 : Int) := by rw [IntKind.wrap_i64]; omega
      have hk2 : (K2 : Int) < (n : Int) := by have := HN.out; omega
      have hk3 : (0 : Int) ≤ (K2 : Int) := by omega
      rw [← hK2] at x2 y2
      have hkn : (k : Int) < (n : Int) := by have := HN.out; omega
      obtain ⟨⟨y, hy, _⟩, fr⟩ := hpart k hlt
      have ne7 := HS7.out.neB (by omega) 0 rfl
      have ne5 := HS7.out.neB (by omega) 1 rfl
      have ne3 := HS7.out.neB (by omega) 2 rfl
      have neb2 := HS7.out.neO (by omega) 0 rfl (by have := HN.out; omega)
      have neb1 := HS7.out.neO (by omega) 1 rfl (by have := HN.out; omega)
      have hV : res (resF f k * resF g k + resF f (k + Q) * resF g (k + Q)) = foldF Q f g k := by exact res_mul _ _ _ _
      obtain ⟨u1, u1'⟩ := res_bd (f k)
      obtain ⟨u2, u2'⟩ := res_bd (g k)
      obtain ⟨u3, u3'⟩ := res_bd (f (k + Q))
      obtain ⟨u4, u4'⟩ := res_bd (g (k + Q))
      change 0 ≤ resF f k at u1; change 0 ≤ resF g k at u2; change 0 ≤ resF f (k + Q) at u3; change 0 ≤ resF g (k + Q) at u4
      change resF f k < 12289 at u1'; change resF g k < 12289 at u2'; change resF f (k + Q) < 12289 at u3'; change resF g (k + Q) < 12289 at u4'
      have HPt := hide (hpart.step hlt _ hV).drew
      have HKt := hide (hkept.setCell (a := ⟨B, k, none⟩) rfl (.int .i64 (res (resF f k * resF g k + resF f (k + Q) * resF g (k + Q))))).drew
      rw [← hK2] at HPt HKt u3 u3' u4 u4'
      clear hK2
      generalize resF f k = r1 at *
      generalize resF g k = s1 at *
      generalize resF f K2 = r2 at *
      generalize resF g K2 = s2 at *
      obtain ⟨X1, hX1⟩ : ∃ X, X = r1 * s1 := ⟨_, rfl⟩
      obtain ⟨X2, hX2⟩ : ∃ X, X = r2 * s2 := ⟨_, rfl⟩
      have v1 : 0 ≤ X1 ∧ X1 ≤ 151019521 := by rw [hX1]; exact ⟨Int.mul_nonneg u1 u2, Int.le_trans (Int.mul_le_mul (by omega : r1 ≤ 12289) (by omega : s1 ≤ 12289) u2 (by omega)) (by omega)⟩
      have v2 : 0 ≤ X2 ∧ X2 ≤ 151019521 := by rw [hX2]; exact ⟨Int.mul_nonneg u3 u4, Int.le_trans (Int.mul_le_mul (by omega : r2 ≤ 12289) (by omega : s2 ≤ 12289) u4 (by omega)) (by omega)⟩
      rw [← hX1, ← hX2] at HPt HKt
      obtain ⟨X3, hX3⟩ : ∃ X, X = X1 + X2 := ⟨_, rfl⟩
      have m1 : IntKind.i64.wrap (r1 * s1) = X1 := by rw [IntKind.wrap_i64, ← hX1]; omega
      have m2 : IntKind.i64.wrap (r2 * s2) = X2 := by rw [IntKind.wrap_i64, ← hX2]; omega
      have m3 : IntKind.i64.wrap (X1 + X2) = X3 := by rw [IntKind.wrap_i64]; omega
      rw [← hX3] at HPt HKt
      obtain ⟨V, hVV⟩ : ∃ V, V = res X3 := ⟨_, rfl⟩
      rw [← hVV] at HPt HKt
      have m4 : X3.tmod 12289 = V := by
        rw [hVV, Int.tmod_eq_emod_of_nonneg (by omega)]; rfl
      have vb : 0 ≤ V ∧ V < 12289 := by rw [hVV]; exact res_bd _
      have m5 : X3 % 12289 = V := by rw [hVV]; rfl
      clear hV hX1 hX2 hX3 hVV rA rB hpart hkept HP HP' HS7 HR8 u1 u1' u2 u2' u3 u3' u4 u4' v1 v2
      go_upto_region 10 with fail
      go_region_held (fun w' => w'.cell? ⟨w7.heap.size, 2, none⟩ = some (.slice (some ⟨B, 0, none⟩) Q Q) ∧ w'.cell? ⟨w3.heap.size, 2, none⟩ = some (.slice (some ⟨b1, 0, none⟩) n c1) ∧ w'.cell? ⟨w5.heap.size, 2, none⟩ = some (.slice (some ⟨b2, 0, none⟩) n c2) ∧ w'.cell? ⟨b1, k, none⟩ = some (.int .i64 r1) ∧ w'.cell? ⟨b1, K2, none⟩ = some (.int .i64 r2) ∧ w'.cell? ⟨b2, k, none⟩ = some (.int .i64 s1) ∧ w'.cell? ⟨b2, K2, none⟩ = some (.int .i64 s2))
        ((first | exact ⟨l2, i2, j2, x1, x2, y1, y2⟩ | (refine ⟨?_, ?_, ?_, ?_, ?_, ?_, ?_⟩ <;> (refine Eq.trans (World.cell?_setCell_other wr _ _ _ (by simp; try omega)) ?_; first | exact l2 | exact i2 | exact j2 | exact x1 | exact x2 | exact y1 | exact y2))))
        (fail)
      generalize (wr.setCell ⟨B, k, none⟩ (.int .i64 V)).drew = wz at *
      clear hy fr i0 i1 i2 j0 j1 j2 l0 l1 l2 HSr x1 x2 y1 y2
      go_wp2_with fail
      exact ⟨⟨k + 1, by omega, rfl, HKt.out, HPt.out⟩, by simp [intOf]; omega⟩
    · obtain rfl : k = Q := by omega
      have HSe := hide (HS7.out.mark0 (by omega) hkept hpart.row.v)
      obtain ⟨l0, l1, l2⟩ := HSe.out.im3 0 rfl
      obtain ⟨z0, z1, z2⟩ := HSe.out.im3 3 rfl
      obtain ⟨e0, e1, e2⟩ := HSe.out.fr3 3 rfl
      clear hpart hkept HP HP' HS7 HR8 HSr
      go_wp2_with fail
      exact bodyPost_ret (v := im W (M : Int) (some ⟨B, 0, none⟩) k k) (by simp [results, Try.results6, go_sem, z0, z1, z2]) rfl ((St.fill3' (L1 := [_, _, _]) HSe.out _ _ _).imR W (M : Int) k)

end Go.Proofs.Ytpeocbhnnpppjaa

/- AddImages: the specification. -/
import Derived.Test.YtpgibnedidpbpaaAdi
import Derived.Deep.RegionHeld
import Derived.BigRegion
namespace Go.Proofs.Ytpgibnedidpbpaa
open Go.RowKit

theorem okB_and {W H : Int} {n : Nat} {f F : Nat → Int} (h : okB W H n f = true) : okB W H n F = allB F n := by
  unfold okB at h ⊢
  simp only [Bool.and_eq_true] at h
  rw [h.1.1.1, h.1.1.2, h.1.2]
  rfl
theorem allB_congr' {f g : Nat → Int} : ∀ {n : Nat}, (∀ k, k < n → f k = g k) → allB f n = allB g n
  | 0, _ => rfl
  | n + 1, h => by rw [allB, allB, allB_congr' fun k hk => h k (by omega), h n (by omega)]
theorem allB_hyb (F : Nat → Int) (n : Nat) : allB (hyb F n) n = allB F n := allB_congr' fun k hk => by unfold hyb; rw [if_pos hk]

set_option maxRecDepth 100000 in
set_option maxHeartbeats 8000000 in
theorem specAddImages_any (W H : Int) (a : Option Addr) (n cap : Nat) (f : Nat → Int) (hl : n ≤ 1048576) (W' H' : Int) (a' : Option Addr) (n' cap' : Nat) (g : Nat → Int) (hl' : n' ≤ 1048576) (w : World) (h : Px a n f w) (h' : Px a' n' g w) :
    Calls Try.prog 5 #[im W H a n cap, im W' H' a' n' cap'] w (ImR (adI (adB W H n f W' H' n' g) W) (adI (adB W H n f W' H' n' g) H) (adN (adB W H n f W' H' n' g) n) (fun k => f k + g k) w) := by
  have HS0 := hide ((((St.start w).box [.int .i64 W, .int .i64 H, .slice a n cap] 26).box' [.int .i64 W', .int .i64 H', .slice a' n' cap'] 26 (b := w.heap.size + 1) (by simp)).box' [.int .i64 0, .int .i64 0, .slice none 0 0] 26 (b := w.heap.size + 2) (by simp))
  have c0 := specOk_any W H a n cap f hl _ (h.below HS0.out.below)
  have c1 := fun w' hx => specOk_any W' H' a' n' cap' g hl' w' hx
  have HP := hide h
  have HP' := hide h'
  clear h h'
  have HNo : Hid (adB W H n f W' H' n' g = false → ∀ w', Below w.heap.size w w' → ImR (adI (adB W H n f W' H' n' g) W) (adI (adB W H n f W' H' n' g) H) (adN (adB W H n f W' H' n' g) n) (fun k => f k + g k) w (.returned (im 0 0 none 0 0)) w') := fun hF w' hb => by
    rw [hF]; exact ⟨none, 0, 0, rfl, .inl rfl, .inl rfl, hb⟩
  have HV : Hid (∀ p, (okB W H n f && (okB W' H' n' g && (decide (W = W') && (decide (H = H') && alW (fun k => f k + g k) (-1000000000) 1000000000 n)))) = p → adB W H n f W' H' n' g = p) := fun _ h => h
  cases hq : okB W H n f
  · rw [hq] at c0
    have HN := hide (HNo.out (HV.out _ (by rw [hq]; rfl)))
    clear hq HNo HV c1 HP HP'
    go_enter Try.func5, Try.ntmps5
    go_wp2_with fail
    refine c0.mono ?_
    rintro e w1 ⟨rfl, hb⟩
    have HS1 := hide (HS0.out.next hb)
    obtain ⟨i0, i1, i2⟩ := HS1.out.im3 0 rfl
    obtain ⟨e0, e1, e2⟩ := HS1.out.fr3 0 rfl
    have HE := hide (HS1.out.fill3 (.int .i64 0) (.int .i64 0) (.slice none 0 0))
    clear hb HS0 HS1 c0
    go_wp2_with fail
    exact bodyPost_ret (v := im 0 0 none 0 0) (by simp [results, Try.results5, go_sem, i0, i1, i2]) rfl (HN.out _ HE.out.below)
  rw [hq] at c0
  cases hq2 : okB W' H' n' g
  · simp only [hq2] at c1
    have HN := hide (HNo.out (HV.out _ (by rw [hq, hq2]; rfl)))
    clear hq hq2 HNo HV
    go_enter Try.func5, Try.ntmps5
    go_wp2_with fail
    refine c0.mono ?_
    rintro e w1 ⟨rfl, hb⟩
    have HS1 := hide (HS0.out.next hb)
    obtain ⟨i0, i1, i2⟩ := HS1.out.im3 1 rfl
    have HX := hide (HP'.out.below HS1.out.below)
    clear hb HS0 c0 HP HP'
    go_wp2_with fail
    refine (c1 _ HX.out).mono ?_
    rintro e w2 ⟨rfl, hb⟩
    have HS2 := hide (HS1.out.next hb)
    clear hb HS1 i0 i1 i2 c1 HX
    obtain ⟨i0, i1, i2⟩ := HS2.out.im3 0 rfl
    obtain ⟨e0, e1, e2⟩ := HS2.out.fr3 0 rfl
    have HE := hide (HS2.out.fill3 (.int .i64 0) (.int .i64 0) (.slice none 0 0))
    clear HS2
    go_wp2_with fail
    exact bodyPost_ret (v := im 0 0 none 0 0) (by simp [results, Try.results5, go_sem, i0, i1, i2]) rfl (HN.out _ HE.out.below)
  simp only [hq2] at c1
  by_cases hw : W ≠ W'
  · have qq : (W == W') = false := by simp [hw]
    have qn : (W != W') = true := by simp [hw]
    have HN := hide (HNo.out (HV.out _ (by rw [hq, hq2]; rw [decide_eq_false hw]; rfl)))
    clear hq hq2 HNo HV hw
    go_enter Try.func5, Try.ntmps5
    go_wp2_with fail
    refine c0.mono ?_
    rintro e w1 ⟨rfl, hb⟩
    have HS1 := hide (HS0.out.next hb)
    obtain ⟨i0, i1, i2⟩ := HS1.out.im3 1 rfl
    have HX := hide (HP'.out.below HS1.out.below)
    clear hb HS0 c0 HP HP'
    go_wp2_with fail
    refine (c1 _ HX.out).mono ?_
    rintro e w2 ⟨rfl, hb⟩
    have HS2 := hide (HS1.out.next hb)
    clear hb HS1 i0 i1 i2 c1 HX
    obtain ⟨k0, k1, k2⟩ := HS2.out.im3 1 rfl
    obtain ⟨j0, j1, j2⟩ := HS2.out.im3 2 rfl
    obtain ⟨i0, i1, i2⟩ := HS2.out.im3 0 rfl
    obtain ⟨e0, e1, e2⟩ := HS2.out.fr3 0 rfl
    have HE := hide (HS2.out.fill3 (.int .i64 0) (.int .i64 0) (.slice none 0 0))
    clear HS2
    go_wp2_with fail
    exact bodyPost_ret (v := im 0 0 none 0 0) (by simp [results, Try.results5, go_sem, i0, i1, i2]) rfl (HN.out _ HE.out.below)
  obtain rfl := Decidable.not_not.mp hw
  clear hw
  by_cases hw : H ≠ H'
  · have qq : (H == H') = false := by simp [hw]
    have qn : (H != H') = true := by simp [hw]
    have HN := hide (HNo.out (HV.out _ (by rw [hq, hq2]; rw [decide_eq_false hw]; simp)))
    clear hq hq2 HNo HV hw
    go_enter Try.func5, Try.ntmps5
    go_wp2_with fail
    refine c0.mono ?_
    rintro e w1 ⟨rfl, hb⟩
    have HS1 := hide (HS0.out.next hb)
    obtain ⟨i0, i1, i2⟩ := HS1.out.im3 1 rfl
    have HX := hide (HP'.out.below HS1.out.below)
    clear hb HS0 c0 HP HP'
    go_wp2_with fail
    refine (c1 _ HX.out).mono ?_
    rintro e w2 ⟨rfl, hb⟩
    have HS2 := hide (HS1.out.next hb)
    clear hb HS1 i0 i1 i2 c1 HX
    obtain ⟨k0, k1, k2⟩ := HS2.out.im3 1 rfl
    obtain ⟨j0, j1, j2⟩ := HS2.out.im3 2 rfl
    obtain ⟨i0, i1, i2⟩ := HS2.out.im3 0 rfl
    obtain ⟨e0, e1, e2⟩ := HS2.out.fr3 0 rfl
    have HE := hide (HS2.out.fill3 (.int .i64 0) (.int .i64 0) (.slice none 0 0))
    clear HS2
    go_wp2_with fail
    exact bodyPost_ret (v := im 0 0 none 0 0) (by simp [results, Try.results5, go_sem, i0, i1, i2]) rfl (HN.out _ HE.out.below)
  obtain rfl := Decidable.not_not.mp hw
  clear hw
  have HOk : Hid (∀ s, okB W H n s = allB s n) := fun s => okB_and hq
  obtain ⟨-, -, hn, hn1, hn4, hf⟩ := okB_ok hq
  obtain ⟨-, -, hn', -, -, hg⟩ := okB_ok hq2
  obtain rfl : n' = n := by omega
  have hnew := l2New_any W H n' hn.symm hn4
  have HA : Hid (∀ p, allB (fun k => f k + g k) n' = p → adB W H n' f W H n' g = p) := fun p hp => HV.out p (by rw [hq, hq2, alW_allB, hp]; simp)
  have HYes : Hid (allB (hyb (fun k => f k + g k) n') n' = true → ∀ e w', ImR W H n' (hyb (fun k => f k + g k) n') w e w' → ImR (adI (adB W H n' f W H n' g) W) (adI (adB W H n' f W H n' g) H) (adN (adB W H n' f W H n' g) n') (fun k => f k + g k) w e w') := fun hT e w' hr => by
    rw [HA.out _ (by rw [← allB_hyb, hT])]; exact hr.congr fun k hk => by unfold hyb; rw [if_pos hk]
  have HN : Hid (allB (hyb (fun k => f k + g k) n') n' = false → _) := fun hF => HNo.out (HA.out _ (by rw [← allB_hyb, hF]))
  have HF1 := hide hf
  have HF2 := hide hg
  clear hq hq2 hn hn' hf hg HNo HV HA
  generalize adI (adB W H n' f W H n' g) W = rW at *
  generalize adI (adB W H n' f W H n' g) H = rH at *
  generalize adN (adB W H n' f W H n' g) n' = rN at *
  go_enter Try.func5, Try.ntmps5
  go_wp2_with fail
  refine c0.mono ?_
  rintro e w1 ⟨rfl, hb⟩
  have HS1 := hide (HS0.out.next hb)
  obtain ⟨i0, i1, i2⟩ := HS1.out.im3 1 rfl
  have HX := hide (HP'.out.below HS1.out.below)
  clear hb HS0 c0
  go_wp2_with fail
  refine (c1 _ HX.out).mono ?_
  rintro e w2 ⟨rfl, hb⟩
  have HS2 := hide (HS1.out.next hb)
  clear hb HS1 i0 i1 i2 c1 HX
  obtain ⟨i0, i1, i2⟩ := HS2.out.im3 1 rfl
  obtain ⟨j0, j1, j2⟩ := HS2.out.im3 2 rfl
  go_wp2_with fail
  refine (hnew _).mono ?_
  rintro e w3 ⟨rfl, hr, hb, hs⟩
  have HS3 := hide ((HS2.out.own hb hr.v (.inr (by omega))).box [.int .i64 W, .int .i64 H, .slice (some ⟨w2.heap.size + 1, 0, none⟩) n' n'] 26)
  have h3 : w.heap.size + 2 < w3.heap.size := ((HS2.out.next hb).ltB 0 rfl).2
  generalize hB : w2.heap.size + 1 = B at *
  clear hnew hr hb HS2 i0 i1 i2 j0 j1 j2 hs hB
  go_wp2_with fail
  generalize w3.alloc (.cells #[.int .i64 W, .int .i64 H, .slice (some ⟨B, 0, none⟩) n' n'] 26) = wX at *
  generalize w3.heap.size = C at *
  go_loopw [6] (fun i wr => ∃ k : Nat, k ≤ n' ∧ i = .int .i64 k ∧ St w [(C, [.int .i64 W, .int .i64 H, .slice (some ⟨B, 0, none⟩) n' n']), (w.heap.size + 2, [.int .i64 0, .int .i64 0, .slice none 0 0]), (w.heap.size + 1, [.int .i64 W, .int .i64 H, .slice a' n' cap']), (w.heap.size, [.int .i64 W, .int .i64 H, .slice a n' cap])] [(some ⟨B, 0, none⟩, B, n', fun q => .int .i64 (hyb (fun k => f k + g k) k q))] wr) (fun i _ => n' - (intOf i).toNat)
  case atStart =>
    refine ⟨0, by omega, rfl, ?_⟩
    rw [show (fun q => Value.int .i64 (hyb (fun k => f k + g k) 0 q)) = fun _ => Value.int .i64 0 from funext fun q => by unfold hyb; rw [if_neg (by omega)]]
    exact HS3.out
  case round =>
    obtain ⟨k, hk, rfl, hs⟩ := hrel
    clear HS3
    by_cases hlt : k < n'
    · obtain ⟨b1, o1, rfl, x1⟩ := (HP.out.below hs.below).at hlt
      obtain ⟨b2, o2, rfl, x2⟩ := (HP'.out.below hs.below).at hlt
      obtain ⟨-, -, l2⟩ := hs.im3 0 rfl
      obtain ⟨-, -, j2⟩ := hs.im3 3 rfl
      obtain ⟨-, -, i2⟩ := hs.im3 2 rfl
      obtain ⟨d0, f0⟩ := hs.atO (k := k) hlt
      have h1 := HF1.out k hlt
      have h2 := HF2.out k hlt
      have hS5 := (hs.upd (k := k) hlt (f k + g k)).drew
      rw [show (fun q => Value.int .i64 (updN (hyb (fun k => f k + g k) k) k (f k + g k) q)) = fun q => Value.int .i64 (hyb (fun k => f k + g k) (k + 1) q) from funext fun q => by rw [show updN (hyb (fun k => f k + g k) k) k (f k + g k) = hyb (fun k => f k + g k) (k + 1) from updN_hyb (fun k => f k + g k) k]] at hS5
      have wv : IntKind.i64.wrap (f k + g k) = f k + g k := by rw [IntKind.wrap_i64]; omega
      have HS5 := hide hS5
      have HW := hide wv
      have SKa := hide (And.intro l2 (And.intro j2 (And.intro x1 (And.intro i2 x2))))
      have HSw : Hid (wr.setCell ⟨B, k, none⟩ (.int .i64 (IntKind.i64.wrap (f k + g k))) = wr.setCell ⟨B, k, none⟩ (.int .i64 (f k + g k))) := by show _ = _; rw [wv]
      have SKb : Hid (_ ∧ _ ∧ _ ∧ _ ∧ _) := ⟨HS5.out.cell 0 rfl 2 rfl, HS5.out.cell 3 rfl 2 rfl, ((HP.out.below HS5.out.below).at hlt).elim fun b3 h3 => h3.elim fun o3 h4 => by
          obtain ⟨e3, h5⟩ := h4
          cases e3
          exact h5, HS5.out.cell 2 rfl 2 rfl, ((HP'.out.below HS5.out.below).at hlt).elim fun b3 h3 => h3.elim fun o3 h4 => by
          obtain ⟨e3, h5⟩ := h4
          cases e3
          exact h5⟩
      rw [← HSw.out] at SKb
      clear hs hS5 HP HP' HF1 HF2 h1 h2 wv HYes HN HOk
      generalize f k = F1 at *
      generalize g k = F2 at *
      go_upto_region 7 with fail
      go_region_held (fun (w' : World) => w'.cell? ⟨C, 2, none⟩ = some (.slice (some ⟨B, 0, none⟩) n' n') ∧ w'.cell? ⟨w.heap.size, 2, none⟩ = some (.slice (some ⟨b1, o1, none⟩) n' cap) ∧ w'.cell? ⟨b1, o1 + k, none⟩ = some (.int .i64 F1) ∧ w'.cell? ⟨w.heap.size + 1, 2, none⟩ = some (.slice (some ⟨b2, o2, none⟩) n' cap') ∧ w'.cell? ⟨b2, o2 + k, none⟩ = some (.int .i64 F2))
        (first | exact SKa.out | exact SKb.out) (fail)
      have hw5 : (wr.setCell ⟨B, k, none⟩ (.int .i64 (IntKind.i64.wrap (F1 + F2)))).drew = (wr.setCell ⟨B, k, none⟩ (.int .i64 (F1 + F2))).drew := by rw [HW.out]
      rw [hw5]
      clear hw5 SKa SKb HSw HW x1 x2 i2 j2 l2 d0 f0
      generalize (wr.setCell ⟨B, k, none⟩ (.int .i64 (F1 + F2))).drew = wz at *
      have wk : IntKind.i64.wrap ((k : Int) + 1) = ((k + 1 : Nat) : Int) := by rw [IntKind.wrap_i64]; omega
      go_wp2_with fail
      refine ⟨⟨k + 1, by omega, rfl, HS5.out⟩, ?_⟩
      simp [intOf]; omega
    · obtain rfl : k = n' := by omega
      obtain ⟨l0, l1, l2⟩ := hs.im3 0 rfl
      have hpx : Px (some ⟨B, 0, none⟩) k (hyb (fun k => f k + g k) k) wr := OwV.px (hs.nthO 0 rfl)
      have cO := specOk_any W H (some ⟨B, 0, none⟩) k k (hyb (fun k => f k + g k) k) (by omega) wr hpx
      rw [HOk.out] at cO
      have HS := hide hs
      clear hs HP HP' HF1 HF2 HOk hpx
      cases hT : allB (hyb (fun k => f k + g k) k) k
      · rw [hT] at cO
        have HN' := hide (HN.out hT)
        clear HN HYes hT
        go_wp2_with fail
        refine cO.mono ?_
        rintro e w5 ⟨rfl, hb⟩
        have HS6 := hide (HS.out.next hb)
        clear hb HS cO l0 l1 l2
        obtain ⟨z0, z1, z2⟩ := HS6.out.im3 1 rfl
        obtain ⟨e0, e1, e2⟩ := HS6.out.fr3 1 rfl
        have HE := hide (St.fill3' (L1 := [_]) HS6.out (.int .i64 0) (.int .i64 0) (.slice none 0 0))
        clear HS6
        go_wp2_with fail
        exact bodyPost_ret (v := im 0 0 none 0 0) (by simp [results, Try.results5, go_sem, z0, z1, z2]) rfl (HN'.out _ HE.out.below)
      · rw [hT] at cO
        have HY := hide (HYes.out hT)
        clear HN HYes hT
        go_wp2_with fail
        refine cO.mono ?_
        rintro e w5 ⟨rfl, hb⟩
        have HS6 := hide (HS.out.next hb)
        clear hb HS cO l0 l1 l2
        obtain ⟨l0, l1, l2⟩ := HS6.out.im3 0 rfl
        obtain ⟨z0, z1, z2⟩ := HS6.out.im3 1 rfl
        obtain ⟨e0, e1, e2⟩ := HS6.out.fr3 1 rfl
        have HE := hide (St.fill3' (L1 := [_]) HS6.out (.int .i64 W) (.int .i64 H) (.slice (some ⟨B, 0, none⟩) k k))
        have HY' := hide (HY.out _ _ (HE.out.imR W H k))
        clear HS6 HY
        go_wp2_with fail
        exact bodyPost_ret (v := im W H (some ⟨B, 0, none⟩) k k) (by simp [results, Try.results5, go_sem, z0, z1, z2]) rfl HY'.out

end Go.Proofs.Ytpgibnedidpbpaa

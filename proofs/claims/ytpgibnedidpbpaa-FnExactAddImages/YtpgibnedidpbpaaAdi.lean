/- AddImages: the program. -/
import Derived.Test.YtpgibnedidpbpaaHom
import Derived.Test.YtpgibnedidpbpaaUpd
import Derived.Deep.RegionHeld
import Derived.BigRegion
namespace Go.Proofs.Ytpgibnedidpbpaa
open Go.RowKit

/-- are two images added -/
def adB (W H : Int) (n : Nat) (f : Nat → Int) (W' H' : Int) (n' : Nat) (g : Nat → Int) : Bool := okB W H n f && (okB W' H' n' g && (decide (W = W') && (decide (H = H') && alW (fun k => f k + g k) (-1000000000) 1000000000 n)))
def adI (p : Bool) (x : Int) : Int := if p = true then x else 0
def adN (p : Bool) (x : Nat) : Nat := if p = true then x else 0
theorem adN_le (p : Bool) (x : Nat) : adN p x ≤ x := by unfold adN; split <;> omega

theorem allB_at {f : Nat → Int} {n k : Nat} (h : allB f n = true) (hk : k < n) : -1000000000 ≤ f k ∧ f k ≤ 1000000000 := by
  have := alW_at (by rw [alW_allB]; exact h) hk
  unfold inB at this
  simpa using this
theorem okB_ok {W H : Int} {n : Nat} {f : Nat → Int} (h : okB W H n f = true) : (1 ≤ W ∧ W ≤ 64) ∧ (1 ≤ H ∧ H ≤ 64) ∧ (n : Int) = W * H ∧ 1 ≤ n ∧ n ≤ 4096 ∧ ∀ k, k < n → -1000000000 ≤ f k ∧ f k ≤ 1000000000 := by
  obtain ⟨q1, q2, q3, q4⟩ := okB_parts h
  have := prod_bounds q1 q2
  exact ⟨side_bounds q1, side_bounds q2, q3, by omega, by omega, fun k hk => allB_at q4 hk⟩

theorem ImR.congr {W H : Int} {n : Nat} {s s' : Nat → Int} {w : World} {e : Ending} {w' : World} (h : ImR W H n s w e w') (hs : ∀ k, k < n → s k = s' k) : ImR W H n s' w e w' := by
  obtain ⟨a, c, b, h1, h2, h3, h4⟩ := h
  refine ⟨a, c, b, h1, ?_, h3, h4⟩
  rcases h2 with h2 | ⟨h2, h5⟩
  · exact .inl h2
  · exact .inr ⟨h2, h5.congr hs⟩

set_option maxRecDepth 100000 in
set_option maxHeartbeats 1000000 in
theorem sameSize_any (W H : Int) (a : Option Addr) (n cap : Nat) (W' H' : Int) (a' : Option Addr) (n' cap' : Nat) (w : World) :
    Calls Try.prog 16 #[im W H a n cap, im W' H' a' n' cap'] w fun e w' => e = .returned (.bool (decide (W = W') && decide (H = H'))) ∧ Below w.heap.size w w' := by
  have HB : Hid (∀ o o', Below w.heap.size w ((w.alloc o).alloc o')) := fun o o' => (bnew _ _).alloc (by simp) _
  by_cases h1 : W = W'
  · have q1 : (W == W') = true := by simp [h1]
    have HH : Hid ((H == H') = decide (H = H')) := by show _ = _; by_cases h : H = H' <;> simp [h]
    rw [decide_eq_true h1, Bool.true_and]
    clear h1
    go_enter Try.func16, Try.ntmps16
    go_wp2_with fail
    go_ret
    exact ⟨by rw [← HH.out]; rfl, HB.out _ _⟩
  · have q1 : (W == W') = false := by simp [h1]
    rw [decide_eq_false h1, Bool.false_and]
    clear h1
    go_enter Try.func16, Try.ntmps16
    go_wp2_with fail
    go_ret
    exact ⟨rfl, HB.out _ _⟩

set_option maxRecDepth 100000 in
set_option maxHeartbeats 8000000 in
theorem implAddImages_any (W H : Int) (a : Option Addr) (n cap : Nat) (f : Nat → Int) (hl : n ≤ 1048576) (W' H' : Int) (a' : Option Addr) (n' cap' : Nat) (g : Nat → Int) (hl' : n' ≤ 1048576) (w : World) (h : Px a n f w) (h' : Px a' n' g w) :
    Calls Try.prog 7 #[im W H a n cap, im W' H' a' n' cap'] w (ImR (adI (adB W H n f W' H' n' g) W) (adI (adB W H n f W' H' n' g) H) (adN (adB W H n f W' H' n' g) n) (fun k => f k + g k) w) := by
  have HS0 := hide ((((St.start w).box [.int .i64 W, .int .i64 H, .slice a n cap] 26).box' [.int .i64 W', .int .i64 H', .slice a' n' cap'] 26 (b := w.heap.size + 1) (by simp)).box' [.int .i64 0, .int .i64 0, .slice none 0 0] 26 (b := w.heap.size + 2) (by simp))
  have c0 := implOk_any W H a n cap f hl _ (h.below HS0.out.below)
  have c1 := fun w' hx => implOk_any W' H' a' n' cap' g hl' w' hx
  have c2 := fun w' => sameSize_any W H a n cap W' H' a' n' cap' w'
  have HP := hide h
  have HP' := hide h'
  clear h h'
  have HNo : Hid (adB W H n f W' H' n' g = false → ∀ w', Below w.heap.size w w' → ImR (adI (adB W H n f W' H' n' g) W) (adI (adB W H n f W' H' n' g) H) (adN (adB W H n f W' H' n' g) n) (fun k => f k + g k) w (.returned (im 0 0 none 0 0)) w') := fun hF w' hb => by
    rw [hF]; exact ⟨none, 0, 0, rfl, .inl rfl, .inl rfl, hb⟩
  have HV : Hid (∀ p, (okB W H n f && (okB W' H' n' g && (decide (W = W') && (decide (H = H') && alW (fun k => f k + g k) (-1000000000) 1000000000 n)))) = p → adB W H n f W' H' n' g = p) := fun _ h => h
  cases hq : okB W H n f
  · rw [hq] at c0
    have HN := hide (HNo.out (HV.out _ (by rw [hq]; rfl)))
    clear hq HNo HV c1 c2 HP HP'
    go_enter Try.func7, Try.ntmps7
    go_wp2_with fail
    refine c0.mono ?_
    rintro e w1 ⟨rfl, hb⟩
    have HS1 := hide (HS0.out.next hb)
    obtain ⟨i0, i1, i2⟩ := HS1.out.im3 0 rfl
    obtain ⟨e0, e1, e2⟩ := HS1.out.fr3 0 rfl
    have HE := hide (HS1.out.fill3 (.int .i64 0) (.int .i64 0) (.slice none 0 0))
    clear hb HS0 HS1 c0
    go_wp2_with fail
    exact bodyPost_ret (v := im 0 0 none 0 0) (by simp [results, Try.results7, go_sem, i0, i1, i2]) rfl (HN.out _ HE.out.below)
  rw [hq] at c0
  cases hq2 : okB W' H' n' g
  · simp only [hq2] at c1
    have HN := hide (HNo.out (HV.out _ (by rw [hq, hq2]; rfl)))
    clear hq hq2 HNo HV c2
    go_enter Try.func7, Try.ntmps7
    go_wp2_with fail
    refine c0.mono ?_
    rintro e w1 ⟨rfl, hb⟩
    have HS1 := hide (HS0.out.next hb)
    obtain ⟨i0, i1, i2⟩ := HS1.out.im3 1 rfl
    have HX := hide (HP'.out.below HS1.out.below)
    clear hb HS0 c0 HP HP'
    go_wp2_with fail
    refine (c1 _ HX.out).mono ?_
    rintro e w2 ⟨rfl, hb⟩
    have HS2 := hide (HS1.out.next hb)
    clear hb HS1 i0 i1 i2 c1 HX
    obtain ⟨i0, i1, i2⟩ := HS2.out.im3 0 rfl
    obtain ⟨e0, e1, e2⟩ := HS2.out.fr3 0 rfl
    have HE := hide (HS2.out.fill3 (.int .i64 0) (.int .i64 0) (.slice none 0 0))
    clear HS2
    go_wp2_with fail
    exact bodyPost_ret (v := im 0 0 none 0 0) (by simp [results, Try.results7, go_sem, i0, i1, i2]) rfl (HN.out _ HE.out.below)
  simp only [hq2] at c1
  cases hq3 : (decide (W = W') && decide (H = H'))
  · simp only [hq3] at c2
    have HN := hide (HNo.out (HV.out _ (by rw [hq, hq2, ← Bool.and_assoc (decide (W = W')), hq3]; rfl)))
    clear hq hq2 hq3 HNo HV
    go_enter Try.func7, Try.ntmps7
    go_wp2_with fail
    refine c0.mono ?_
    rintro e w1 ⟨rfl, hb⟩
    have HS1 := hide (HS0.out.next hb)
    obtain ⟨i0, i1, i2⟩ := HS1.out.im3 1 rfl
    have HX := hide (HP'.out.below HS1.out.below)
    clear hb HS0 c0 HP HP'
    go_wp2_with fail
    refine (c1 _ HX.out).mono ?_
    rintro e w2 ⟨rfl, hb⟩
    have HS2 := hide (HS1.out.next hb)
    clear hb HS1 i0 i1 i2 c1 HX
    obtain ⟨i0, i1, i2⟩ := HS2.out.im3 1 rfl
    obtain ⟨j0, j1, j2⟩ := HS2.out.im3 2 rfl
    go_wp2_with fail
    refine (c2 _).mono ?_
    rintro e w3 ⟨rfl, hb⟩
    have HS3 := hide (HS2.out.next hb)
    clear hb HS2 i0 i1 i2 j0 j1 j2 c2
    obtain ⟨i0, i1, i2⟩ := HS3.out.im3 0 rfl
    obtain ⟨e0, e1, e2⟩ := HS3.out.fr3 0 rfl
    have HE := hide (HS3.out.fill3 (.int .i64 0) (.int .i64 0) (.slice none 0 0))
    clear HS3
    go_wp2_with fail
    exact bodyPost_ret (v := im 0 0 none 0 0) (by simp [results, Try.results7, go_sem, i0, i1, i2]) rfl (HN.out _ HE.out.below)
  simp only [hq3] at c2
  have hWH : W = W' ∧ H = H' := by rw [Bool.and_eq_true, decide_eq_true_eq, decide_eq_true_eq] at hq3; exact hq3
  obtain ⟨rfl, rfl⟩ := hWH
  obtain ⟨-, -, hn, hn1, hn4, hf⟩ := okB_ok hq
  obtain ⟨-, -, hn', -, -, hg⟩ := okB_ok hq2
  obtain rfl : n' = n := by omega
  have HA : Hid (∀ p, alW (fun k => f k + g k) (-1000000000) 1000000000 n' = p → adB W H n' f W H n' g = p) := fun p hp => HV.out p (by rw [hq, hq2, hp]; simp)
  have HYes : Hid (alW (fun k => f k + g k) (-1000000000) 1000000000 n' = true → ∀ e w', ImR W H n' (hyb (fun k => f k + g k) n') w e w' → ImR (adI (adB W H n' f W H n' g) W) (adI (adB W H n' f W H n' g) H) (adN (adB W H n' f W H n' g) n') (fun k => f k + g k) w e w') := fun hT e w' hr => by
    rw [HA.out _ hT]; exact hr.congr fun k hk => by unfold hyb; rw [if_pos hk]
  have HN := hide (fun hF => HNo.out (HA.out _ hF))
  have HF1 := hide hf
  have HF2 := hide hg
  have hmk := fun w' => make_px n' hl w'
  clear hq hq2 hq3 hn hn' hf hg HNo HV HA
  generalize adI (adB W H n' f W H n' g) W = rW at *
  generalize adI (adB W H n' f W H n' g) H = rH at *
  generalize adN (adB W H n' f W H n' g) n' = rN at *
  go_enter Try.func7, Try.ntmps7
  go_wp2_with fail
  refine c0.mono ?_
  rintro e w1 ⟨rfl, hb⟩
  have HS1 := hide (HS0.out.next hb)
  obtain ⟨i0, i1, i2⟩ := HS1.out.im3 1 rfl
  have HX := hide (HP'.out.below HS1.out.below)
  clear hb HS0 c0
  go_wp2_with fail
  refine (c1 _ HX.out).mono ?_
  rintro e w2 ⟨rfl, hb⟩
  have HS2 := hide (HS1.out.next hb)
  clear hb HS1 i0 i1 i2 c1 HX
  obtain ⟨i0, i1, i2⟩ := HS2.out.im3 1 rfl
  obtain ⟨j0, j1, j2⟩ := HS2.out.im3 2 rfl
  go_wp2_with fail
  refine (c2 _).mono ?_
  rintro e w3 ⟨rfl, hb⟩
  have HS3 := hide (HS2.out.next hb)
  clear hb HS2 i0 i1 i2 j0 j1 j2 c2
  obtain ⟨j0, j1, j2⟩ := HS3.out.im3 2 rfl
  have HS4 := hide (HS3.out.own (bnew w3 (.cells (madeCells #[.int .i64 0] n') 2)) (row_new n' w3).v (.inr (Nat.le_refl _)))
  have hw3 := HS3.out.below.size
  go_wp2_with fail
  clear hmk HS3 j0 j1 j2
  generalize w3.heap.size = B at *
  go_loopw [6, 28] (fun _ i wr => ∃ k : Nat, k ≤ n' ∧ i = .int .i64 k ∧ alW (fun k => f k + g k) (-1000000000) 1000000000 k = true ∧ St w [(w.heap.size + 2, [.int .i64 0, .int .i64 0, .slice none 0 0]), (w.heap.size + 1, [.int .i64 W, .int .i64 H, .slice a' n' cap']), (w.heap.size, [.int .i64 W, .int .i64 H, .slice a n' cap])] [(some ⟨B, 0, none⟩, B, n', fun q => .int .i64 (hyb (fun k => f k + g k) k q))] wr) (fun _ i _ => n' - (intOf i).toNat)
  case atStart =>
    refine ⟨0, by omega, rfl, rfl, ?_⟩
    rw [show (fun q => Value.int .i64 (hyb (fun k => f k + g k) 0 q)) = fun _ => Value.int .i64 0 from funext fun q => by unfold hyb; rw [if_neg (by omega)]]
    exact HS4.out
  case round =>
    obtain ⟨k, hk, rfl, hA, hs⟩ := hrel
    clear HS4
    by_cases hlt : k < n'
    · obtain ⟨b1, o1, rfl, x1⟩ := (HP.out.below hs.below).at hlt
      obtain ⟨b2, o2, rfl, x2⟩ := (HP'.out.below hs.below).at hlt
      obtain ⟨-, -, j2⟩ := hs.im3 2 rfl
      obtain ⟨-, -, i2⟩ := hs.im3 1 rfl
      obtain ⟨d0, f0⟩ := hs.atO (k := k) hlt
      have h1 := HF1.out k hlt
      have h2 := HF2.out k hlt
      have hS5 := (hs.upd (k := k) hlt (f k + g k)).drew
      rw [show (fun q => Value.int .i64 (updN (hyb (fun k => f k + g k) k) k (f k + g k) q)) = fun q => Value.int .i64 (hyb (fun k => f k + g k) (k + 1) q) from funext fun q => by rw [show updN (hyb (fun k => f k + g k) k) k (f k + g k) = hyb (fun k => f k + g k) (k + 1) from updN_hyb (fun k => f k + g k) k]] at hS5
      have wv : IntKind.i64.wrap (f k + g k) = f k + g k := by rw [IntKind.wrap_i64]; omega
      have HS5 := hide hS5
      have HW := hide wv
      have cF := fun w' => within_any (f k + g k) (-1000000000) 1000000000 w'
      have SKa := hide (And.intro j2 (And.intro x1 (And.intro i2 x2)))
      have HSw : Hid (wr.setCell ⟨B, k, none⟩ (.int .i64 (IntKind.i64.wrap (f k + g k))) = wr.setCell ⟨B, k, none⟩ (.int .i64 (f k + g k))) := by show _ = _; rw [wv]
      have SKb : Hid (_ ∧ _ ∧ _ ∧ _) := ⟨HS5.out.cell 2 rfl 2 rfl, ((HP.out.below HS5.out.below).at hlt).elim fun b3 h3 => h3.elim fun o3 h4 => by
          obtain ⟨e3, h5⟩ := h4
          cases e3
          exact h5, HS5.out.cell 1 rfl 2 rfl, ((HP'.out.below HS5.out.below).at hlt).elim fun b3 h3 => h3.elim fun o3 h4 => by
          obtain ⟨e3, h5⟩ := h4
          cases e3
          exact h5⟩
      have d5 := (hS5.atO (k := k) hlt).1
      rw [show hyb (fun k => f k + g k) (k + 1) k = f k + g k by unfold hyb; rw [if_pos (by omega)]] at d5
      rw [← HSw.out] at SKb
      have HD := hide d5
      clear d5
      have HStep : Hid (inB (f k + g k) (-1000000000) 1000000000 = true → alW (fun k => f k + g k) (-1000000000) 1000000000 (k + 1) = true) := fun hp => alW_step hA hp
      have HFail : Hid (inB (f k + g k) (-1000000000) 1000000000 = false → alW (fun k => f k + g k) (-1000000000) 1000000000 n' = false) := fun hp => alW_false hlt hp
      clear hs hS5 HP HP' HF1 HF2 h1 h2 hA wv
      generalize f k = F1 at *
      generalize g k = F2 at *
      go_upto_region 7 with fail
      go_region_held (fun (w' : World) => w'.cell? ⟨w.heap.size, 2, none⟩ = some (.slice (some ⟨b1, o1, none⟩) n' cap) ∧ w'.cell? ⟨b1, o1 + k, none⟩ = some (.int .i64 F1) ∧ w'.cell? ⟨w.heap.size + 1, 2, none⟩ = some (.slice (some ⟨b2, o2, none⟩) n' cap') ∧ w'.cell? ⟨b2, o2 + k, none⟩ = some (.int .i64 F2))
        (first | exact SKa.out | exact SKb.out) (fail)
      have hw5 : (wr.setCell ⟨B, k, none⟩ (.int .i64 (IntKind.i64.wrap (F1 + F2)))).drew = (wr.setCell ⟨B, k, none⟩ (.int .i64 (F1 + F2))).drew := by rw [HW.out]
      rw [hw5]
      have d5 := HD.out
      clear HD
      clear hw5 SKa SKb HSw HW x1 x2 i2 j2 d0 f0
      generalize (wr.setCell ⟨B, k, none⟩ (.int .i64 (F1 + F2))).drew = wz at *
      generalize F1 + F2 = Y at *
      go_wp2_with fail
      refine (cF _).mono ?_
      rintro e w5 ⟨rfl, rfl⟩
      have HS6 := HS5
      clear HS5 d5
      cases hY : inB Y (-1000000000) 1000000000
      · obtain ⟨i0, i1, i2⟩ := HS6.out.im3 0 rfl
        obtain ⟨e0, e1, e2⟩ := HS6.out.fr3 0 rfl
        have HE := hide (HS6.out.fill3 (.int .i64 0) (.int .i64 0) (.slice none 0 0))
        have HN' := hide (HN.out (HFail.out hY) _ HE.out.below)
        clear HS6 HFail HStep HN
        go_wp2_with fail
        exact bodyPost_ret (v := im 0 0 none 0 0) (by simp [results, Try.results7, go_sem, i0, i1, i2]) rfl HN'.out
      · have hA' := hide (HStep.out hY)
        clear HFail HStep HN
        have wk : IntKind.i64.wrap ((k : Int) + 1) = ((k + 1 : Nat) : Int) := by rw [IntKind.wrap_i64]; omega
        go_wp2_with fail
        refine ⟨⟨k + 1, by omega, rfl, hA'.out, HS6.out⟩, ?_⟩
        simp [intOf]; omega
    · obtain rfl : k = n' := by omega
      obtain ⟨i0, i1, i2⟩ := hs.im3 2 rfl
      obtain ⟨j0, j1, j2⟩ := hs.im3 0 rfl
      obtain ⟨e0, e1, e2⟩ := hs.fr3 0 rfl
      have HE := hide (hs.fill3 (.int .i64 W) (.int .i64 H) (.slice (some ⟨B, 0, none⟩) k k))
      have HY' := hide (HYes.out hA _ _ (HE.out.imR W H k))
      clear hs HP HP' HF1 HF2 HN HYes
      go_wp2_with fail
      exact bodyPost_ret (v := im W H (some ⟨B, 0, none⟩) k k) (by simp [results, Try.results7, go_sem, j0, j1, j2]) rfl HY'.out

end Go.Proofs.Ytpgibnedidpbpaa

/- Slope, the specification. -/
import Derived.Test.YtlpfgmkkbplddaaSli
import Derived.Deep.RegionHeld
namespace Go.Proofs.Ytlpfgmkkbplddaa
open Go.RowKit

/-- the size of a number -/
def absI (x : Int) : Int := max x (-x)
theorem slp_eq (W H : Int) (f : Nat → Int) (j : Nat) : slpS W H f j = absI (atF W H f ((j : Int) % W + 1) ((j : Int) / W) (f j) - f j) + absI (atF W H f ((j : Int) % W) ((j : Int) / W + 1) (f j) - f j) := by
  unfold slpS vis vis vis atF absI
  show (if hasB W H ((j : Int) % W + 0) ((j : Int) / W + 1) = true then (if hasB W H ((j : Int) % W + 1) ((j : Int) / W + 0) = true then _ else _) + _ else (if hasB W H ((j : Int) % W + 1) ((j : Int) / W + 0) = true then _ else _)) = _
  rw [Int.add_zero, Int.add_zero]
  cases hasB W H ((j : Int) % W) ((j : Int) / W + 1) <;> cases hasB W H ((j : Int) % W + 1) ((j : Int) / W) <;> simp [Int.add_zero, show ahdF 0 = 1 from rfl, show ahdF 1 = 0 from rfl, show ahdF 2 = 0 from rfl, show ahdF 3 = 1 from rfl]

set_option maxRecDepth 100000 in
theorem l1Abs_any (x : Int) (h0 : -4000000000 ≤ x) (h1 : x ≤ 4000000000) (w : World) :
    Calls Try.prog 92 #[.int .i64 x] w fun e w' => e = .returned (.int .i64 (absI x)) ∧ w' = w := by
  by_cases h : x < 0
  · have e : absI x = -x := by unfold absI; omega
    rw [e]
    go_enter Try.func92, Try.ntmps92
    go_wp2
    go_ret
    exact ⟨rfl, rfl⟩
  · have e : absI x = x := by unfold absI; omega
    rw [e]
    go_enter Try.func92, Try.ntmps92
    go_wp2
    go_ret
    exact ⟨rfl, rfl⟩
theorem atF_bd {W H : Int} {n : Nat} {f : Nat → Int} (hn : (n : Int) = W * H) (hf : ∀ k, k < n → -1000000000 ≤ f k ∧ f k ≤ 1000000000) (x y z : Int) (hz : -1000000000 ≤ z ∧ z ≤ 1000000000) : -1000000000 ≤ atF W H f x y z ∧ atF W H f x y z ≤ 1000000000 := by
  unfold atF
  cases hq : hasB W H x y
  · simpa using hz
  · obtain ⟨q0, q1⟩ := place_lt hq hn
    simpa using bd_at hf q0 q1
theorem absI_bd {x : Int} (h0 : -2000000000 ≤ x) (h1 : x ≤ 2000000000) : 0 ≤ absI x ∧ absI x ≤ 2000000000 := by unfold absI; omega

set_option maxRecDepth 100000 in
set_option maxHeartbeats 2000000 in
theorem specSlope_any (W H : Int) (a : Option Addr) (n cap : Nat) (f : Nat → Int) (hl : n ≤ 1048576) (w : World) (h : Px a n f w) :
    Calls Try.prog 44 #[im W H a n cap] w (ImR (pickI (slpB W H n f) W) (pickI (slpB W H n f) H) (pickN (slpB W H n f) n) (slpS W H f) w) := by
  have HS0 := hide (((St.start w).box [.int .i64 W, .int .i64 H, .slice a n cap] 26).box' [.int .i64 0, .int .i64 0, .slice none 0 0] 26 (b := w.heap.size + 1) (by simp))
  have HP := hide h
  have cM := specOk_any W H a n cap f hl _ (h.below HS0.out.below)
  clear h
  unfold slpB
  cases hq : okB W H n f
  · rw [hq] at cM
    rw [Bool.false_and, pickI_f, pickI_f, pickN_f]
    clear hq
    go_enter Try.func44, Try.ntmps44
    go_wp2_with fail
    refine cM.mono ?_
    rintro e w1 ⟨rfl, hb⟩
    have HS1 := hide (HS0.out.next hb)
    obtain ⟨z0, z1, z2⟩ := HS1.out.im3 0 rfl
    obtain ⟨e0, e1, e2⟩ := HS1.out.fr3 0 rfl
    clear cM hb HS0
    go_wp2_with fail
    exact bodyPost_ret (v := im 0 0 none 0 0) (by simp [results, Try.results44, go_sem, z0, z1, z2]) rfl ((HS1.out.fill3 _ _ _).imN _)
  rw [hq] at cM
  rw [Bool.true_and]
  obtain ⟨⟨hW, hW'⟩, ⟨hH, hH'⟩, hn, hn1, hn4, hf⟩ := okB_ok hq
  have hnew := l2New_any W H n hn.symm hn4
  have cA := fun x y z w' h => l2At_any W H a n cap f hn hW hW' hH hH' x y z w' h
  have hwn : IntKind.i64.wrap (W * H) = (n : Int) := by rw [← hn, IntKind.wrap_i64]; omega
  have HN := hide hn
  have HFb := hide hf
  clear hq hn hf hH hH'
  go_enter Try.func44, Try.ntmps44
  go_wp2_with fail
  refine cM.mono ?_
  rintro e w2 ⟨rfl, hb⟩
  have HS2 := hide (HS0.out.next hb)
  obtain ⟨i0, i1, i2⟩ := HS2.out.im3 1 rfl
  clear cM hb HS0
  go_wp2_with fail
  refine (hnew _).mono ?_
  rintro e w3 ⟨rfl, hr, hb, hs⟩
  have HS3 := hide ((HS2.out.own hb hr.v (.inr (by omega))).box [.int .i64 W, .int .i64 H, .slice (some ⟨w2.heap.size + 1, 0, none⟩) n n] 26)
  have h3 : w.heap.size + 1 < w3.heap.size := by
    have := ((HS2.out.next hb).ltB 0 rfl).2
    exact this
  generalize hB : w2.heap.size + 1 = B at *
  clear hnew hr hb HS2 i0 i1 i2 hs hB
  go_wp2_with fail
  generalize w3.alloc (.cells #[.int .i64 W, .int .i64 H, .slice (some ⟨B, 0, none⟩) n n] 26) = wX at *
  generalize w3.heap.size = C at *
  go_loopw [4, 5, 6, 7] (fun i _ _ _ wr => ∃ k : Nat, k ≤ n ∧ i = .int .i64 k ∧ allB (slpS W H f) k = true ∧ St w [(C, [.int .i64 W, .int .i64 H, .slice (some ⟨B, 0, none⟩) n n]), (w.heap.size + 1, [.int .i64 0, .int .i64 0, .slice none 0 0]), (w.heap.size, [.int .i64 W, .int .i64 H, .slice a n cap])] [(some ⟨B, 0, none⟩, B, n, fun q => .int .i64 (hyb (slpS W H f) k q))] wr) (fun i _ _ _ _ => n - (intOf i).toNat)
  case atStart => exact ⟨0, by omega, rfl, rfl, HS3.out⟩
  case round =>
    obtain ⟨k, hk, rfl, hA, hS⟩ := hrel
    have HS := hide hS
    have HA := hide hA
    clear hS HS3 hA
    obtain ⟨i0, i1, i2⟩ := HS.out.im3 2 rfl
    by_cases hlt : k < n
    · obtain ⟨bf, off2, rfl, c2⟩ := (HP.out.below HS.out.below).at hlt
      have hx0 : 0 ≤ (k : Int) % W := Int.emod_nonneg _ (by omega)
      have hx1 : (k : Int) % W < W := Int.emod_lt_of_pos _ (by omega)
      have hy0 : 0 ≤ (k : Int) / W := Int.ediv_nonneg (by omega) (by omega)
      have hy1 : (k : Int) / W ≤ k := Int.ediv_le_self W (by omega)
      have e1 : (k : Int).tmod W = (k : Int) % W := Int.tmod_eq_emod_of_nonneg (by omega)
      have e2 : (k : Int).tdiv W = (k : Int) / W := Int.tdiv_eq_ediv_of_nonneg (by omega)
      have hne : W ≠ 0 := by omega
      have hfk := HFb.out k hlt
      have r1 := atF_bd HN.out HFb.out ((k : Int) % W + 1) ((k : Int) / W) (f k) hfk
      have r2 := atF_bd HN.out HFb.out ((k : Int) % W) ((k : Int) / W + 1) (f k) hfk
      have HE := hide (slp_eq W H f k)
      have cA1 : ∀ w', Px (some ⟨bf, off2, none⟩) n f w' → Calls Try.prog 83 #[im W H (some ⟨bf, off2, none⟩) n cap, .int .i64 (IntKind.i64.wrap ((k : Int) % W + 1)), .int .i64 (IntKind.i64.wrap ((k : Int) / W)), .int .i64 (f k)] w'
          fun e w'' => e = .returned (.int .i64 (atF W H f ((k : Int) % W + 1) ((k : Int) / W) (f k))) ∧ Below w'.heap.size w' w'' := fun w' h => by
        rw [show IntKind.i64.wrap ((k : Int) / W) = (k : Int) / W by rw [IntKind.wrap_i64]; omega, show IntKind.i64.wrap ((k : Int) % W + 1) = (k : Int) % W + 1 by rw [IntKind.wrap_i64]; omega]
        exact cA _ _ _ w' h
      have cA2 : ∀ w', Px (some ⟨bf, off2, none⟩) n f w' → Calls Try.prog 83 #[im W H (some ⟨bf, off2, none⟩) n cap, .int .i64 ((k : Int) % W), .int .i64 (IntKind.i64.wrap (IntKind.i64.wrap ((k : Int) / W) + 1)), .int .i64 (f k)] w'
          fun e w'' => e = .returned (.int .i64 (atF W H f ((k : Int) % W) ((k : Int) / W + 1) (f k))) ∧ Below w'.heap.size w' w'' := fun w' h => by
        rw [show IntKind.i64.wrap ((k : Int) / W) = (k : Int) / W by rw [IntKind.wrap_i64]; omega, show IntKind.i64.wrap ((k : Int) / W + 1) = (k : Int) / W + 1 by rw [IntKind.wrap_i64]; omega]
        exact cA _ _ _ w' h
      clear cA HFb
      generalize atF W H f ((k : Int) % W + 1) ((k : Int) / W) (f k) = R1 at *
      generalize atF W H f ((k : Int) % W) ((k : Int) / W + 1) (f k) = R2 at *
      generalize hfkk : f k = fk at *
      clear hfkk
      have HPt := hide (HP.out.below HS.out.drew.below)
      have SKa := hide (And.intro i0 (And.intro i1 i2))
      go_upto_region 8 with fail
      go_region_held (fun (w' : World) => w'.cell? ⟨w.heap.size, 0, none⟩ = some (.int .i64 W) ∧ w'.cell? ⟨w.heap.size, 1, none⟩ = some (.int .i64 H) ∧ w'.cell? ⟨w.heap.size, 2, none⟩ = some (.slice (some ⟨bf, off2, none⟩) n cap))
        (first | exact SKa.out | exact SK4.out)
        ((go_at_call 83; (with_reducible refine (cA1 _ HPt.out).mono ?_); rintro e w4 ⟨rfl, hb⟩; have HT4 := hide (HS.out.drew.next hb); have SK4 : Hid (_ ∧ _ ∧ _) := ⟨HT4.out.cell 2 rfl 0 rfl, HT4.out.cell 2 rfl 1 rfl, HT4.out.cell 2 rfl 2 rfl⟩; clear hb))
      clear SKa SK4 cA1 HPt i0 i1 i2 c2 HS
      obtain ⟨i0, i1, i2⟩ := HT4.out.im3 2 rfl
      have HPt := hide (HP.out.below HT4.out.drew.below)
      have SKa := hide (And.intro i0 (And.intro i1 i2))
      go_upto_region 9 with fail
      go_region_held (fun (w' : World) => w'.cell? ⟨w.heap.size, 0, none⟩ = some (.int .i64 W) ∧ w'.cell? ⟨w.heap.size, 1, none⟩ = some (.int .i64 H) ∧ w'.cell? ⟨w.heap.size, 2, none⟩ = some (.slice (some ⟨bf, off2, none⟩) n cap))
        (first | exact SKa.out | exact SK5.out)
        ((go_at_call 83; (with_reducible refine (cA2 _ HPt.out).mono ?_); rintro e w5 ⟨rfl, hb⟩; have HT5 := hide (HT4.out.drew.next hb); have SK5 : Hid (_ ∧ _ ∧ _) := ⟨HT5.out.cell 2 rfl 0 rfl, HT5.out.cell 2 rfl 1 rfl, HT5.out.cell 2 rfl 2 rfl⟩; clear hb))
      clear SKa SK5 cA2 HPt i0 i1 i2 HT4 HP
      have cB := fun w' => l1Abs_any (R1 - fk) (by omega) (by omega) w'
      have cC := fun w' => l1Abs_any (R2 - fk) (by omega) (by omega) w'
      have q1 := absI_bd (x := R1 - fk) (by omega) (by omega)
      have q2 := absI_bd (x := R2 - fk) (by omega) (by omega)
      rw [show R1 - fk = IntKind.i64.wrap (R1 - fk) by rw [IntKind.wrap_i64]; omega] at cB
      rw [show R2 - fk = IntKind.i64.wrap (R2 - fk) by rw [IntKind.wrap_i64]; omega] at cC
      have y1 : IntKind.i64.wrap (R1 - fk) = R1 - fk := by rw [IntKind.wrap_i64]; omega
      have y2 : IntKind.i64.wrap (R2 - fk) = R2 - fk := by rw [IntKind.wrap_i64]; omega
      rw [← y1] at HE q1
      rw [← y2] at HE q2
      clear y1 y2
      generalize absI (IntKind.i64.wrap (R1 - fk)) = A1 at *
      generalize absI (IntKind.i64.wrap (R2 - fk)) = A2 at *
      obtain ⟨V, hV⟩ : ∃ V, A1 + A2 = V := ⟨_, rfl⟩
      have ew : IntKind.i64.wrap (A1 + A2) = V := by rw [← hV, IntKind.wrap_i64]; omega
      have HV : Hid (slpS W H f k = V) := by show _ = _; rw [HE.out, hV]
      have v0 : 0 ≤ V := by omega
      obtain ⟨l0, l1, l2⟩ := HT5.out.im3 0 rfl
      obtain ⟨d0, fr⟩ := HT5.out.atO hlt
      have HU := hide (HT5.out.upd hlt V).drew
      clear hV HE q1 q2 r1 r2 hfk hx0 hx1 hy0 hy1 e1 e2 hne
      go_upto_region 10 with fail
      go_region_with (first | (go_at_call 92; (with_reducible refine (cB _).mono ?_); rintro e w6 ⟨rfl, rfl⟩) | (go_at_call 92; (with_reducible refine (cC _).mono ?_); rintro e w6 ⟨rfl, rfl⟩))
      all_goals
        clear d0 fr l0 l1 l2 cB cC ew HT5
        generalize (w5.setCell ⟨B, k, none⟩ (.int .i64 V)).drew = wz at *
        obtain ⟨l0, l1, l2⟩ := HU.out.im3 0 rfl
        have d0 := (HU.out.atO hlt).1
        unfold updN at d0
        rw [if_pos rfl] at d0
        by_cases hbig : 1000000000 < V
        · have HF : Hid (allB (slpS W H f) n = false) := allB_false hlt (by rw [HV.out]; unfold inB; simp; omega)
          obtain ⟨z0, z1, z2⟩ := HU.out.im3 1 rfl
          obtain ⟨f0, f1, f2⟩ := HU.out.fr3 1 rfl
          clear HV
          go_wp2_with fail
          refine bodyPost_ret (v := im 0 0 none 0 0) (by simp [results, Try.results44, go_sem, z0, z1, z2]) rfl ?_
          rw [HF.out, pickI_f, pickI_f, pickN_f]
          exact (St.fill3' (L1 := [_]) HU.out _ _ _).imN _
        · have HA2 : Hid (allB (slpS W H f) (k + 1) = true) := allB_step HA.out (by rw [HV.out]; unfold inB; simp; omega)
          have HU2 : Hid (St w [(C, [.int .i64 W, .int .i64 H, .slice (some ⟨B, 0, none⟩) n n]), (w.heap.size + 1, [.int .i64 0, .int .i64 0, .slice none 0 0]), (w.heap.size, [.int .i64 W, .int .i64 H, .slice (some ⟨bf, off2, none⟩) n cap])] [(some ⟨B, 0, none⟩, B, n, fun q => .int .i64 (hyb (slpS W H f) (k + 1) q))] wz) := by
            have := HU.out
            rw [← HV.out, updN_hyb] at this
            exact this
          clear HV HU HA
          go_wp2_with fail
          exact ⟨⟨k + 1, by omega, rfl, HA2.out, HU2.out⟩, by simp [intOf]; omega⟩
    · obtain rfl : k = n := by omega
      have HSe : Hid (St w [(C, [.int .i64 W, .int .i64 H, .slice (some ⟨B, 0, none⟩) k k]), (w.heap.size + 1, [.int .i64 0, .int .i64 0, .slice none 0 0]), (w.heap.size, [.int .i64 W, .int .i64 H, .slice a k cap])] [(some ⟨B, 0, none⟩, B, k, fun q => .int .i64 (slpS W H f q))] wr) := by
        refine HS.out.mark0 (by omega) (Kept.refl _ _) ?_
        rcases HS.out.nthO 0 rfl with h | ⟨h0, h⟩
        · exact .inl h
        · exact .inr ⟨h0, Row.congr h (fun q hq => if_pos hq)⟩
      obtain ⟨l0, l1, l2⟩ := HSe.out.im3 0 rfl
      obtain ⟨z0, z1, z2⟩ := HSe.out.im3 1 rfl
      obtain ⟨e0, e1, e2⟩ := HSe.out.fr3 1 rfl
      clear HS
      go_wp2_with fail
      refine bodyPost_ret (v := im W H (some ⟨B, 0, none⟩) k k) (by simp [results, Try.results44, go_sem, z0, z1, z2]) rfl ?_
      rw [HA.out, pickI_t, pickI_t, pickN_t]
      exact (St.fill3' (L1 := [_]) HSe.out _ _ _).imR W H k

end Go.Proofs.Ytlpfgmkkbplddaa

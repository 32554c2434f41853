/- Erode, the specification. -/
import Derived.Test.YtlpfgmkkbplddaaL2a
import Derived.Test.YtlpfgmkkbplddaaErt
namespace Go.Proofs.Ytlpfgmkkbplddaa
open Go.RowKit

theorem ero_bd {W H : Int} {n : Nat} {f : Nat → Int} (hn : (n : Int) = W * H) (hf : bit1 f n) (m : Nat) (g : Nat → Int) (p : Int) : 0 ≤ vis W H p g (fun _ q v => min v (f q.toNat)) 1 m ∧ vis W H p g (fun _ q v => min v (f q.toNat)) 1 m ≤ 1 := by
  refine vis_ind (P := fun _ v => 0 ≤ v ∧ v ≤ 1) (by omega) ?_ (fun _ _ _ _ h => h)
  intro k v _ hq hv
  obtain ⟨q0, q1⟩ := place_lt hq hn
  have := bit_at hf q0 q1
  omega
theorem ero_step0 {W H : Int} {n : Nat} {f : Nat → Int} (hn : (n : Int) = W * H) (hf : bit1 f n) {g : Nat → Int} {p : Int} {j : Nat} (h : atF W H f (p % W + g (j * 2)) (p / W + g (j * 2 + 1)) 1 = 0) : vis W H p g (fun _ q v => min v (f q.toNat)) 1 (j + 1) = 0 := by
  have hb := ero_bd hn hf j g p
  unfold atF at h
  unfold vis
  cases hq : hasB W H (p % W + g (j * 2)) (p / W + g (j * 2 + 1))
  · rw [hq] at h; simp at h
  · rw [hq] at h
    simp only [if_true] at h ⊢
    rw [h]
    omega
theorem ero_step1 {W H : Int} {n : Nat} {f : Nat → Int} (hn : (n : Int) = W * H) (hf : bit1 f n) {g : Nat → Int} {p : Int} {j : Nat} (h : ¬ atF W H f (p % W + g (j * 2)) (p / W + g (j * 2 + 1)) 1 = 0) : vis W H p g (fun _ q v => min v (f q.toNat)) 1 (j + 1) = vis W H p g (fun _ q v => min v (f q.toNat)) 1 j := by
  have hb := ero_bd hn hf j g p
  unfold atF at h
  rw [vis]
  cases hq : hasB W H (p % W + g (j * 2)) (p / W + g (j * 2 + 1))
  · simp
  · rw [hq] at h
    simp only [if_true] at h ⊢
    obtain ⟨q0, q1⟩ := place_lt hq hn
    have := bit_at hf q0 q1
    omega

set_option maxRecDepth 100000 in
set_option maxHeartbeats 2000000 in
theorem specErode_any (W H : Int) (a : Option Addr) (n cap : Nat) (f : Nat → Int) (hl : n ≤ 1048576) (a2 : Option Addr) (m cap2 : Nat) (g : Nat → Int) (hm : m ≤ 1048576) (w : World) (h : Px a n f w) (h2 : Px a2 (m * 2) g w) :
    Calls Try.prog 39 #[im W H a n cap, .slice a2 m cap2] w (ImR (pickI (mbB W H n f m g) W) (pickI (mbB W H n f m g) H) (pickN (mbB W H n f m g) n) (eroS W H f m g) w) := by
  have HS0 := hide (((St.start w).box [.int .i64 W, .int .i64 H, .slice a n cap] 26).box' [.int .i64 0, .int .i64 0, .slice none 0 0] 26 (b := w.heap.size + 1) (by simp))
  have HP := hide h
  have HQ := hide h2
  have cM := l7Mask_any W H a n cap f hl _ (h.below HS0.out.below)
  have cB := fun w' h => specBrushOk_any a2 m cap2 g hm w' h
  clear h h2
  unfold mbB
  cases hq : maskB W H n f
  · rw [hq] at cM
    rw [Bool.false_and, pickI_f, pickI_f, pickN_f]
    clear hq cB
    go_enter Try.func39, Try.ntmps39
    go_wp2_with fail
    refine cM.mono ?_
    rintro e w1 ⟨rfl, hb⟩
    have HS1 := hide (HS0.out.next hb)
    obtain ⟨z0, z1, z2⟩ := HS1.out.im3 0 rfl
    obtain ⟨e0, e1, e2⟩ := HS1.out.fr3 0 rfl
    clear cM hb HS0
    go_wp2_with fail
    exact bodyPost_ret (v := im 0 0 none 0 0) (by simp [results, Try.results39, go_sem, z0, z1, z2]) rfl ((HS1.out.fill3 _ _ _).imN _)
  rw [hq] at cM
  rw [Bool.true_and]
  cases hq2 : brushB m g
  · rw [hq2] at cB
    rw [pickI_f, pickI_f, pickN_f]
    clear hq hq2
    go_enter Try.func39, Try.ntmps39
    go_wp2_with fail
    refine cM.mono ?_
    rintro e w1 ⟨rfl, hb⟩
    have HS1 := hide (HS0.out.next hb)
    clear cM hb HS0
    go_wp2_with fail
    refine (cB _ (HQ.out.below HS1.out.below)).mono ?_
    rintro e w2 ⟨rfl, hb⟩
    have HS2 := hide (HS1.out.next hb)
    obtain ⟨z0, z1, z2⟩ := HS2.out.im3 0 rfl
    obtain ⟨e0, e1, e2⟩ := HS2.out.fr3 0 rfl
    clear cB hb HS1
    go_wp2_with fail
    exact bodyPost_ret (v := im 0 0 none 0 0) (by simp [results, Try.results39, go_sem, z0, z1, z2]) rfl ((HS2.out.fill3 _ _ _).imN _)
  rw [hq2] at cB
  rw [pickI_t, pickI_t, pickN_t]
  obtain ⟨hok, ⟨hW, hW'⟩, ⟨hH, hH'⟩, hn, hn1, hn4, hbit⟩ := maskB_ok hq
  obtain ⟨hm5, hg⟩ := brushB_parts hq2
  have hnew := l2New_any W H n hn.symm hn4
  have cA := fun x y z w' h => l2At_any W H a n cap f hn hW hW' hH hH' x y z w' h
  have hwn : IntKind.i64.wrap (W * H) = (n : Int) := by rw [← hn, IntKind.wrap_i64]; omega
  have HN := hide hn
  have HBit := hide hbit
  have HG := hide hg
  clear hq hq2 hok hn hbit hg hH hH'
  go_enter Try.func39, Try.ntmps39
  go_wp2_with fail
  refine cM.mono ?_
  rintro e w1 ⟨rfl, hb⟩
  have HS1 := hide (HS0.out.next hb)
  clear cM hb HS0
  go_wp2_with fail
  refine (cB _ (HQ.out.below HS1.out.below)).mono ?_
  rintro e w2 ⟨rfl, hb⟩
  have HS2 := hide (HS1.out.next hb)
  obtain ⟨i0, i1, i2⟩ := HS2.out.im3 1 rfl
  clear cB hb HS1
  go_wp2_with fail
  refine (hnew _).mono ?_
  rintro e w3 ⟨rfl, hr, hb, hs⟩
  have HS3 := hide ((HS2.out.own hb hr.v (.inr (by omega))).box [.int .i64 W, .int .i64 H, .slice (some ⟨w2.heap.size + 1, 0, none⟩) n n] 26)
  have h3 : w.heap.size + 1 < w3.heap.size := by
    have := ((HS2.out.next hb).ltB 0 rfl).2
    exact this
  have HB3 : Hid (∀ wr, Below w.heap.size w wr → True) := fun _ _ => trivial
  generalize hB : w2.heap.size + 1 = B at *
  clear hnew hr hb HS2 i0 i1 i2 hs hB HB3
  go_wp2_with fail
  generalize w3.alloc (.cells #[.int .i64 W, .int .i64 H, .slice (some ⟨B, 0, none⟩) n n] 26) = wX at *
  generalize w3.heap.size = C at *
  go_loopw [6, 7] (fun i _ wr => ∃ k : Nat, k ≤ n ∧ i = .int .i64 k ∧ St w [(C, [.int .i64 W, .int .i64 H, .slice (some ⟨B, 0, none⟩) n n]), (w.heap.size + 1, [.int .i64 0, .int .i64 0, .slice none 0 0]), (w.heap.size, [.int .i64 W, .int .i64 H, .slice a n cap])] [(some ⟨B, 0, none⟩, B, n, fun q => .int .i64 (hyb (eroS W H f m g) k q))] wr) (fun i _ _ => n - (intOf i).toNat)
  case atStart => exact ⟨0, by omega, rfl, HS3.out⟩
  case round =>
    obtain ⟨k, hk, rfl, hS⟩ := hrel
    have HS := hide hS
    clear hS HS3
    obtain ⟨i0, i1, i2⟩ := HS.out.im3 2 rfl
    by_cases hlt : k < n
    · obtain ⟨l0, l1, l2⟩ := HS.out.im3 0 rfl
      obtain ⟨c0, f0⟩ := HS.out.atO hlt
      have HS' := hide (HS.out.upd hlt 1)
      clear HS
      go_wp2_with fail
      go_loopw [7] (fun i wr => ∃ j : Nat, j ≤ m ∧ i = .int .i64 j ∧ St w [(C, [.int .i64 W, .int .i64 H, .slice (some ⟨B, 0, none⟩) n n]), (w.heap.size + 1, [.int .i64 0, .int .i64 0, .slice none 0 0]), (w.heap.size, [.int .i64 W, .int .i64 H, .slice a n cap])] [(some ⟨B, 0, none⟩, B, n, fun q => .int .i64 (updN (hyb (eroS W H f m g) k) k (vis W H k g (fun _ q v => min v (f q.toNat)) 1 j) q))] wr) (fun i _ => m - (intOf i).toNat)
      case atStart => exact ⟨0, by omega, rfl, HS'.out⟩
      case round =>
        obtain ⟨j, hj, rfl, hS⟩ := hrel
        have HT := hide hS
        clear hS HS' i0 i1 i2 l0 l1 l2 c0 f0
        by_cases hjl : j < m
        · obtain ⟨i0, i1, i2⟩ := HT.out.im3 2 rfl
          obtain ⟨b, off, rfl, hbl, c0, c1⟩ := (HQ.out.below HT.out.below).atSpot2 hjl
          obtain ⟨g0, g0'⟩ := HG.out (j * 2) (by omega)
          obtain ⟨g1, g1'⟩ := HG.out (j * 2 + 1) (by omega)
          have hx0 : 0 ≤ (k : Int) % W := Int.emod_nonneg _ (by omega)
          have hx1 : (k : Int) % W < W := Int.emod_lt_of_pos _ (by omega)
          have hy0 : 0 ≤ (k : Int) / W := Int.ediv_nonneg (by omega) (by omega)
          have hy1 : (k : Int) / W ≤ k := Int.ediv_le_self W (by omega)
          have e1 : (k : Int).tmod W = (k : Int) % W := Int.tmod_eq_emod_of_nonneg (by omega)
          have e2 : (k : Int).tdiv W = (k : Int) / W := Int.tdiv_eq_ediv_of_nonneg (by omega)
          have hne : W ≠ 0 := by omega
          have HV0 : Hid (atF W H f ((k : Int) % W + g (j * 2)) ((k : Int) / W + g (j * 2 + 1)) 1 = 0 → vis W H k g (fun _ q v => min v (f q.toNat)) 1 (j + 1) = 0) := ero_step0 HN.out HBit.out
          have HV1 : Hid (¬ atF W H f ((k : Int) % W + g (j * 2)) ((k : Int) / W + g (j * 2 + 1)) 1 = 0 → vis W H k g (fun _ q v => min v (f q.toNat)) 1 (j + 1) = vis W H k g (fun _ q v => min v (f q.toNat)) 1 j) := ero_step1 HN.out HBit.out
          have cA1 : ∀ w', Px a n f w' → Calls Try.prog 83 #[im W H a n cap, .int .i64 (IntKind.i64.wrap ((k : Int) % W + g (j * 2))), .int .i64 (IntKind.i64.wrap (IntKind.i64.wrap ((k : Int) / W) + g (j * 2 + 1))), .int .i64 1] w'
              fun e w'' => e = .returned (.int .i64 (atF W H f ((k : Int) % W + g (j * 2)) ((k : Int) / W + g (j * 2 + 1)) 1)) ∧ Below w'.heap.size w' w'' := fun w' h => by
            rw [show IntKind.i64.wrap ((k : Int) / W) = (k : Int) / W by rw [IntKind.wrap_i64]; omega, show IntKind.i64.wrap ((k : Int) / W + g (j * 2 + 1)) = (k : Int) / W + g (j * 2 + 1) by rw [IntKind.wrap_i64]; omega, show IntKind.i64.wrap ((k : Int) % W + g (j * 2)) = (k : Int) % W + g (j * 2) by rw [IntKind.wrap_i64]; omega]
            exact cA _ _ 1 w' h
          have HPt := hide (HP.out.below HT.out.drew.below)
          clear cA HG
          generalize atF W H f ((k : Int) % W + g (j * 2)) ((k : Int) / W + g (j * 2 + 1)) 1 = V at cA1 HV0 HV1
          go_upto_region 11 with fail
          have SKa := hide (And.intro i0 (And.intro i1 (And.intro i2 (And.intro c0 c1))))
          go_region_held (fun (w' : World) => w'.cell? ⟨w.heap.size, 0, none⟩ = some (.int .i64 W) ∧ w'.cell? ⟨w.heap.size, 1, none⟩ = some (.int .i64 H) ∧ w'.cell? ⟨w.heap.size, 2, none⟩ = some (.slice a n cap) ∧ w'.cell? ⟨b, off + j * 2, none⟩ = some (.int .i64 (g (j * 2))) ∧ w'.cell? ⟨b, off + j * 2 + 1, none⟩ = some (.int .i64 (g (j * 2 + 1))))
            (first | exact SKa.out | exact SK4.out)
            ((go_at_call 83; (with_reducible refine (cA1 _ HPt.out).mono ?_); rintro e w4 ⟨rfl, hb⟩; have HT4 := hide (HT.out.drew.next hb); have SK4 : Hid (_ ∧ _ ∧ _ ∧ _ ∧ _) := ⟨HT4.out.cell 2 rfl 0 rfl, HT4.out.cell 2 rfl 1 rfl, HT4.out.cell 2 rfl 2 rfl, (hb.cell (p := ⟨b, off + j * 2, none⟩) hbl).trans c0, (hb.cell (p := ⟨b, off + j * 2 + 1, none⟩) hbl).trans c1⟩; clear hb))
          clear SKa SK4 cA1 HPt i0 i1 i2 c0 c1 HT
          by_cases hV : V = 0
          · have HE := hide (HV0.out hV)
            obtain ⟨l0, l1, l2⟩ := HT4.out.im3 0 rfl
            obtain ⟨d0, fr⟩ := HT4.out.atO hlt
            have HT5 := hide (HT4.out.upd hlt 0)
            rw [updN_upd] at HT5
            clear HV0 HV1 HT4
            go_wp2_with fail
            exact ⟨⟨j + 1, by omega, rfl, by rw [HE.out]; exact HT5.out⟩, by simp [intOf]; omega⟩
          · have HE := hide (HV1.out hV)
            clear HV0 HV1
            go_wp2_with fail
            exact ⟨⟨j + 1, by omega, rfl, by rw [HE.out]; exact HT4.out⟩, by simp [intOf]; omega⟩
        · obtain rfl : j = m := by omega
          have HT5 := HT
          clear HT
          have HT6 : Hid (St w [(C, [.int .i64 W, .int .i64 H, .slice (some ⟨B, 0, none⟩) n n]), (w.heap.size + 1, [.int .i64 0, .int .i64 0, .slice none 0 0]), (w.heap.size, [.int .i64 W, .int .i64 H, .slice a n cap])] [(some ⟨B, 0, none⟩, B, n, fun q => .int .i64 (hyb (eroS W H f j g) (k + 1) q))] wr) := by
            have := HT5.out
            rw [← updN_hyb]
            exact this
          clear HT5
          go_wp2_with fail
          exact ⟨⟨k + 1, by omega, rfl, HT6.out⟩, by simp [intOf]; omega⟩
    · obtain rfl : k = n := by omega
      have HSe : Hid (St w [(C, [.int .i64 W, .int .i64 H, .slice (some ⟨B, 0, none⟩) k k]), (w.heap.size + 1, [.int .i64 0, .int .i64 0, .slice none 0 0]), (w.heap.size, [.int .i64 W, .int .i64 H, .slice a k cap])] [(some ⟨B, 0, none⟩, B, k, fun q => .int .i64 (eroS W H f m g q))] wr) := by
        refine HS.out.mark0 (by omega) (Kept.refl _ _) ?_
        rcases HS.out.nthO 0 rfl with h | ⟨h0, h⟩
        · exact .inl h
        · exact .inr ⟨h0, Row.congr h (fun q hq => if_pos hq)⟩
      obtain ⟨l0, l1, l2⟩ := HSe.out.im3 0 rfl
      obtain ⟨z0, z1, z2⟩ := HSe.out.im3 1 rfl
      obtain ⟨e0, e1, e2⟩ := HSe.out.fr3 1 rfl
      clear HS
      go_wp2_with fail
      exact bodyPost_ret (v := im W H (some ⟨B, 0, none⟩) k k) (by simp [results, Try.results39, go_sem, z0, z1, z2]) rfl ((St.fill3' (L1 := [_]) HSe.out _ _ _).imR W H k)

end Go.Proofs.Ytlpfgmkkbplddaa

/- Blur, the specification: numbers, and one round. -/
import Derived.Test.YtlpfgmkkbplddaaBlt
import Derived.Test.YtlpfgmkkbplddaaSls
import Derived.Test.YtlpfgmkkbplddaaDwn
namespace Go.Proofs.Ytlpfgmkkbplddaa
open Go.RowKit

theorem bluU_step (W H : Int) (f kn : Nat → Int) (j : Int) (i : Nat) : bluU W H f kn j (i + 1) = bluU W H f kn j i + kn i * atF W H f (j % W + offF 1 1 (i * 2)) (j / W + offF 1 1 (i * 2 + 1)) 0 := by
  unfold bluU
  rw [vis]
  unfold atF
  cases hasB W H (j % W + offF 1 1 (i * 2)) (j / W + offF 1 1 (i * 2 + 1))
  · simp
  · simp
theorem bluU_rc (W H : Int) (f kn : Nat → Int) (j : Int) (r c : Nat) (hc : c < 3) : bluU W H f kn j (3 * r + c + 1) = bluU W H f kn j (3 * r + c) + kn (3 * r + c) * atF W H f (j % W + ((c : Int) - 1)) (j / W + ((r : Int) - 1)) 0 := by
  have h1 := offF_x 1 1 r c hc
  have h2 := offF_y 1 1 r c hc
  rw [show r * (2 * 1 + 1) + c = 3 * r + c by omega] at h1 h2
  rw [bluU_step, h1, h2]
  rfl

def pw2 : Nat → Int
  | 0 => 1
  | s + 1 => 2 * pw2 s
theorem pw2_eq : ∀ s, pw2 s = ((2 ^ s : Nat) : Int)
  | 0 => rfl
  | s + 1 => by rw [pw2, pw2_eq s, Nat.pow_succ]; omega
theorem pw2_le {s : Nat} (h : s ≤ 16) : 1 ≤ (2 ^ s : Nat) ∧ (2 ^ s : Nat) ≤ 65536 := by
  have h1 : (2 ^ s : Nat) ≤ 2 ^ 16 := Nat.pow_le_pow_right (by omega) h
  have h2 : (0 : Nat) < 2 ^ s := Nat.pow_pos (by omega)
  have h3 : (2 ^ 16 : Nat) = 65536 := rfl
  omega

set_option maxRecDepth 100000 in
set_option maxHeartbeats 8000000 in
theorem specBlur_any (W H : Int) (a : Option Addr) (n cap : Nat) (f : Nat → Int) (hl : n ≤ 1048576) (ak : Option Addr) (m capk : Nat) (kn : Nat → Int) (s : Int) (w : World) (h : Px a n f w) (h2 : Px ak m kn w) :
    Calls Try.prog 46 #[im W H a n cap, .slice ak m capk, .int .i64 s] w (ImR (pickI (bluB W H n f m kn s) W) (pickI (bluB W H n f m kn s) H) (pickN (bluB W H n f m kn s) n) (bluS W H f kn s.toNat) w) := by
  have HS0 := hide (((St.start w).box [.int .i64 W, .int .i64 H, .slice a n cap] 26).box' [.int .i64 0, .int .i64 0, .slice none 0 0] 26 (b := w.heap.size + 1) (by simp))
  have HP := hide h
  have HQ := hide h2
  have cM := specOk_any W H a n cap f hl _ (h.below HS0.out.below)
  have cI := fun w' => l1In_any s 0 16 w'
  clear h h2
  unfold bluB bluA
  cases hq : okB W H n f
  · rw [hq] at cM
    rw [Bool.false_and, Bool.false_and, pickI_f, pickI_f, pickN_f]
    clear hq cI
    go_enter Try.func46, Try.ntmps46
    go_wp2_with fail
    refine cM.mono ?_
    rintro e w1 ⟨rfl, hb⟩
    have HS1 := hide (HS0.out.next hb)
    obtain ⟨z0, z1, z2⟩ := HS1.out.im3 0 rfl
    obtain ⟨e0, e1, e2⟩ := HS1.out.fr3 0 rfl
    clear cM hb HS0
    go_wp2_with fail
    exact bodyPost_ret (v := im 0 0 none 0 0) (by simp [results, Try.results46, go_sem, z0, z1, z2]) rfl ((HS1.out.fill3 _ _ _).imN _)
  rw [hq] at cM
  rw [Bool.true_and]
  by_cases hm9 : m = 9
  rotate_left
  · rw [show decide (m = 9) = false by simpa using hm9, Bool.false_and, Bool.false_and, pickI_f, pickI_f, pickN_f]
    have hne : ((m : Int) != 9) = true := by simp; omega
    clear hq cI hm9
    go_enter Try.func46, Try.ntmps46
    go_wp2_with fail
    refine cM.mono ?_
    rintro e w1 ⟨rfl, hb⟩
    have HS1 := hide (HS0.out.next hb)
    obtain ⟨z0, z1, z2⟩ := HS1.out.im3 0 rfl
    obtain ⟨e0, e1, e2⟩ := HS1.out.fr3 0 rfl
    clear cM hb HS0
    go_wp2_with fail
    exact bodyPost_ret (v := im 0 0 none 0 0) (by simp [results, Try.results46, go_sem, z0, z1, z2]) rfl ((HS1.out.fill3 _ _ _).imN _)
  subst hm9
  rw [show decide (9 = 9) = true by rfl, Bool.true_and]
  have hne : (((9 : Nat) : Int) != 9) = false := by simp
  cases hq3 : inB s 0 16
  · rw [hq3] at cI
    rw [Bool.and_false, Bool.false_and, pickI_f, pickI_f, pickN_f]
    clear hq hq3
    go_enter Try.func46, Try.ntmps46
    go_wp2_with fail
    refine cM.mono ?_
    rintro e w1 ⟨rfl, hb⟩
    have HS1 := hide (HS0.out.next hb)
    obtain ⟨z0, z1, z2⟩ := HS1.out.im3 0 rfl
    obtain ⟨e0, e1, e2⟩ := HS1.out.fr3 0 rfl
    clear cM hb HS0
    go_wp2_with fail
    refine (cI _).mono ?_
    rintro e w2 ⟨rfl, rfl⟩
    go_wp2_with fail
    exact bodyPost_ret (v := im 0 0 none 0 0) (by simp [results, Try.results46, go_sem, z0, z1, z2]) rfl ((HS1.out.fill3 _ _ _).imN _)
  rw [hq3] at cI
  rw [Bool.and_true]
  obtain ⟨⟨hW, hW'⟩, ⟨hH, hH'⟩, hn, hn1, hn4, hf⟩ := okB_ok hq
  obtain ⟨hs0, hs1⟩ : 0 ≤ s ∧ s ≤ 16 := by unfold inB at hq3; simpa using hq3
  obtain ⟨t, rfl⟩ : ∃ t : Nat, s = (t : Int) := ⟨s.toNat, by omega⟩
  rw [Int.toNat_natCast]
  have hnew := l2New_any W H n hn.symm hn4
  have cA := fun x y z w' h => l2At_any W H a n cap f hn hW hW' hH hH' x y z w' h
  have hwn : IntKind.i64.wrap (W * H) = (n : Int) := by rw [← hn, IntKind.wrap_i64]; omega
  have HN := hide hn
  have HFb := hide hf
  clear hq hq3 hn hf hH hH'
  go_enter Try.func46, Try.ntmps46
  go_wp2_with fail
  refine cM.mono ?_
  rintro e w2 ⟨rfl, hb⟩
  have HS2 := hide (HS0.out.next hb)
  obtain ⟨i0, i1, i2⟩ := HS2.out.im3 1 rfl
  obtain ⟨z0, z1, z2⟩ := HS2.out.im3 0 rfl
  obtain ⟨f0, f1, f2⟩ := HS2.out.fr3 0 rfl
  clear cM hb HS0
  go_wp2_with fail
  refine (cI _).mono ?_
  rintro e w3 ⟨rfl, rfl⟩
  clear cI
  go_wp2_with fail
  go_loopw [7] (fun i wr => ∃ k : Nat, k ≤ 9 ∧ i = .int .i64 k ∧ w3 = wr ∧ alW kn (-1000) 1000 k = true) (fun i _ => 9 - (intOf i).toNat)
  case atStart => exact ⟨0, by omega, rfl, rfl, rfl⟩
  case round =>
    obtain ⟨k, hk, rfl, rfl, ha⟩ := hrel
    by_cases hlt : k < 9
    · have hlti : (k : Int) < 9 := by omega
      obtain ⟨bk, offk, rfl, ck⟩ := (HQ.out.below HS2.out.below).at hlt
      have cV := fun w' => l1In_any (kn k) (-1000) 1000 w'
      have HY : Hid (inB (kn k) (-1000) 1000 = true → alW kn (-1000) 1000 (k + 1) = true) := fun h => alW_step ha h
      have HNo : Hid (inB (kn k) (-1000) 1000 = false → alW kn (-1000) 1000 9 = false) := fun h => alW_false hlt h
      clear ha
      generalize inB (kn k) (-1000) 1000 = V at *
      generalize kn k = kk at *
      cases V
      · go_wp2_with fail
        refine (cV _).mono ?_
        rintro e w4 ⟨rfl, rfl⟩
        go_wp2_with fail
        refine bodyPost_ret (v := im 0 0 none 0 0) (by simp [results, Try.results46, go_sem, z0, z1, z2]) rfl ?_
        rw [HNo.out (by simp), Bool.false_and, pickI_f, pickI_f, pickN_f]
        exact (HS2.out.fill3 _ _ _).imN _
      · go_wp2_with fail
        refine (cV _).mono ?_
        rintro e w4 ⟨rfl, rfl⟩
        go_wp2_with fail
        exact ⟨⟨k + 1, by omega, rfl, by simp, HY.out (by simp)⟩, by simp [intOf]; omega⟩
    · obtain rfl : k = 9 := by omega
      have HKn := hide (alW_bd ha)
      have HAl := hide ha
      clear ha z0 z1 z2 f0 f1 f2
      go_wp2_with fail
      go_loopw [8, 9] (fun b i wr => ∃ k : Nat, k ≤ t ∧ i = .int .i64 ((t : Int) - k) ∧ b = .int .i64 (pw2 k) ∧ w3 = wr) (fun _ i _ => (intOf i).toNat)
      case atStart => exact ⟨0, by omega, by simp, rfl, rfl⟩
      case round =>
        obtain ⟨k, hk, rfl, rfl, rfl⟩ := hrel
        have hp := pw2_le (s := k) (by omega)
        have hpe := pw2_eq k
        have hp0 : 1 ≤ pw2 k := by omega
        have hp1 : pw2 k ≤ 65536 := by omega
        by_cases hlt : k < t
        · have hgt : (0 : Int) < (t : Int) - k := by omega
          have HE : Hid (pw2 (k + 1) = 2 * pw2 k) := rfl
          clear hpe hp
          generalize pw2 k = u at *
          go_wp2_with fail
          exact ⟨⟨k + 1, by omega, by congr 1; omega, by rw [HE.out], by simp⟩, by simp [intOf]; omega⟩
        · obtain rfl : k = t := by omega
          have hgt : ¬ (0 : Int) < (k : Int) - k := by omega
          obtain ⟨y, hy⟩ : ∃ y : Nat, 2 ^ k = y := ⟨_, rfl⟩
          rw [hy] at hp hpe
          rw [hpe]
          have HY2 := hide hy
          clear hpe hp0 hp1 hy
          go_wp2_with fail
          refine (hnew _).mono ?_
          rintro e w4 ⟨rfl, hr, hb, hs⟩
          have HS3 := hide ((HS2.out.own hb hr.v (.inr (by omega))).box [.int .i64 W, .int .i64 H, .slice (some ⟨w3.heap.size + 1, 0, none⟩) n n] 26)
          have h3 : w.heap.size + 1 < w4.heap.size := by
            have := ((HS2.out.next hb).ltB 0 rfl).2
            exact this
          generalize hB : w3.heap.size + 1 = B at *
          clear hnew hr hb HS2 i0 i1 i2 hs hB
          go_wp2_with fail
          generalize w4.alloc (.cells #[.int .i64 W, .int .i64 H, .slice (some ⟨B, 0, none⟩) n n] 26) = wX at *
          generalize w4.heap.size = C at *
          go_loopw [11, 12, 13, 14] (fun i _ _ _ wr => ∃ q : Nat, q ≤ n ∧ i = .int .i64 q ∧ allB (bluS W H f kn k) q = true ∧ St w [(C, [.int .i64 W, .int .i64 H, .slice (some ⟨B, 0, none⟩) n n]), (w.heap.size + 1, [.int .i64 0, .int .i64 0, .slice none 0 0]), (w.heap.size, [.int .i64 W, .int .i64 H, .slice a n cap])] [(some ⟨B, 0, none⟩, B, n, fun x => .int .i64 (hyb (bluS W H f kn k) q x))] wr) (fun i _ _ _ _ => n - (intOf i).toNat)
          case atStart => exact ⟨0, by omega, rfl, rfl, HS3.out⟩
          case round =>
            obtain ⟨q, hq, rfl, hA, hS⟩ := hrel
            have HS := hide hS
            have HA := hide hA
            clear hS HS3 hA
            obtain ⟨i0, i1, i2⟩ := HS.out.im3 2 rfl
            by_cases hqn : q < n
            · go_wp2_with fail
              go_loopw [12, 13, 14] (fun s b _ wr => ∃ r : Nat, r ≤ 3 ∧ b = .int .i64 ((r : Int) - 1) ∧ s = .int .i64 (bluU W H f kn q (3 * r)) ∧ St w [(C, [.int .i64 W, .int .i64 H, .slice (some ⟨B, 0, none⟩) n n]), (w.heap.size + 1, [.int .i64 0, .int .i64 0, .slice none 0 0]), (w.heap.size, [.int .i64 W, .int .i64 H, .slice a n cap])] [(some ⟨B, 0, none⟩, B, n, fun x => .int .i64 (hyb (bluS W H f kn k) q x))] wr) (fun _ b _ _ => (2 - intOf b).toNat)
              case atStart => exact ⟨0, by omega, by simp, rfl, HS.out⟩
              case round =>
                obtain ⟨r, hr, rfl, rfl, hS⟩ := hrel
                have HT := hide hS
                clear hS i0 i1 i2 HS
                by_cases hr3 : r < 3
                · have hrle : (r : Int) - 1 ≤ 1 := by omega
                  go_wp2_with fail
                  go_loopw [12, 14] (fun s x wr => ∃ c : Nat, c ≤ 3 ∧ x = .int .i64 ((c : Int) - 1) ∧ s = .int .i64 (bluU W H f kn q (3 * r + c)) ∧ St w [(C, [.int .i64 W, .int .i64 H, .slice (some ⟨B, 0, none⟩) n n]), (w.heap.size + 1, [.int .i64 0, .int .i64 0, .slice none 0 0]), (w.heap.size, [.int .i64 W, .int .i64 H, .slice a n cap])] [(some ⟨B, 0, none⟩, B, n, fun x => .int .i64 (hyb (bluS W H f kn k) q x))] wr) (fun _ x _ => (2 - intOf x).toNat)
                  case atStart => exact ⟨0, by omega, by simp, rfl, HT.out⟩
                  case round =>
                    obtain ⟨c, hc, rfl, rfl, hS⟩ := hrel
                    have HU := hide hS
                    clear hS HT
                    by_cases hc3 : c < 3
                    · have hcle : (c : Int) - 1 ≤ 1 := by omega
                      obtain ⟨i0, i1, i2⟩ := HU.out.im3 2 rfl
                      obtain ⟨bk, offk, rfl, ck⟩ := (HQ.out.below HU.out.below).at (show 3 * r + c < 9 by omega)
                      have hbk : bk < wr.heap.size := World.block_lt_of_cell? wr _ ck
                      have hx0 : 0 ≤ (q : Int) % W := Int.emod_nonneg _ (by omega)
                      have hx1 : (q : Int) % W < W := Int.emod_lt_of_pos _ (by omega)
                      have hy0 : 0 ≤ (q : Int) / W := Int.ediv_nonneg (by omega) (by omega)
                      have hy1 : (q : Int) / W ≤ q := Int.ediv_le_self W (by omega)
                      have e1 : (q : Int).tmod W = (q : Int) % W := Int.tmod_eq_emod_of_nonneg (by omega)
                      have e2 : (q : Int).tdiv W = (q : Int) / W := Int.tdiv_eq_ediv_of_nonneg (by omega)
                      have hneW : W ≠ 0 := by omega
                      have HE := hide (bluU_rc W H f kn q r c hc3)
                      have sb := bluU_bd HN.out HFb.out HKn.out q (3 * r + c) (by omega)
                      have vb := atF_bd HN.out HFb.out ((q : Int) % W + ((c : Int) - 1)) ((q : Int) / W + ((r : Int) - 1)) 0 (by omega)
                      have pb := prod_bd (HKn.out (3 * r + c) (by omega)) vb
                      have HX1 : Hid (wrap64 ((q : Int) % W + ((c : Int) - 1)) = ((q : Int) % W + ((c : Int) - 1))) := by show _ = _; unfold wrap64; omega
                      have HX2 : Hid (IntKind.i64.wrap ((q : Int) % W + ((c : Int) - 1)) = ((q : Int) % W + ((c : Int) - 1))) := by show _ = _; rw [IntKind.wrap_i64]; omega
                      have yy1 : wrap64 ((q : Int) / W) = (q : Int) / W := by unfold wrap64; omega
                      have yy2 : IntKind.i64.wrap ((q : Int) / W) = (q : Int) / W := by rw [IntKind.wrap_i64]; omega
                      have HY1 : Hid (wrap64 (wrap64 ((q : Int) / W) + ((r : Int) - 1)) = ((q : Int) / W + ((r : Int) - 1))) := by show _ = _; rw [yy1]; unfold wrap64; omega
                      have HY2b : Hid (IntKind.i64.wrap (IntKind.i64.wrap ((q : Int) / W) + ((r : Int) - 1)) = ((q : Int) / W + ((r : Int) - 1))) := by show _ = _; rw [yy2]; rw [IntKind.wrap_i64]; omega
                      have HY3 : Hid (wrap64 (IntKind.i64.wrap ((q : Int) / W) + ((r : Int) - 1)) = ((q : Int) / W + ((r : Int) - 1))) := by show _ = _; rw [yy2]; unfold wrap64; omega
                      have HY4 : Hid (IntKind.i64.wrap (wrap64 ((q : Int) / W) + ((r : Int) - 1)) = ((q : Int) / W + ((r : Int) - 1))) := by show _ = _; rw [yy1]; rw [IntKind.wrap_i64]; omega
                      clear yy1 yy2
                      have cA1 : ∀ x z : Int, x = ((q : Int) % W + ((c : Int) - 1)) → z = ((q : Int) / W + ((r : Int) - 1)) → ∀ w', Px a n f w' → Calls Try.prog 83 #[im W H a n cap, .int .i64 x, .int .i64 z, .int .i64 0] w'
                          fun e w'' => e = .returned (.int .i64 (atF W H f ((q : Int) % W + ((c : Int) - 1)) ((q : Int) / W + ((r : Int) - 1)) 0)) ∧ Below w'.heap.size w' w'' := fun x z h1 h2 w' h => by
                        rw [h1, h2]
                        exact cA _ _ _ w' h
                      generalize atF W H f ((q : Int) % W + ((c : Int) - 1)) ((q : Int) / W + ((r : Int) - 1)) 0 = V at cA1 vb pb HE
                      clear vb
                      obtain ⟨P, hP⟩ : ∃ P, kn (3 * r + c) * V = P := ⟨_, rfl⟩
                      rw [hP] at pb HE
                      have y1 : IntKind.i64.wrap (kn (3 * r + c) * V) = P := by rw [hP, IntKind.wrap_i64]; omega
                      have hm9 : 3 * (r : Int) + c ≤ 8 := by omega
                      obtain ⟨S, hS⟩ : ∃ S, bluU W H f kn q (3 * r + c) = S := ⟨_, rfl⟩
                      rw [hS] at sb HE ⊢
                      obtain ⟨S', hS'⟩ : ∃ S', S + P = S' := ⟨_, rfl⟩
                      have y2 : IntKind.i64.wrap (S + P) = S' := by rw [hS', IntKind.wrap_i64]; omega
                      rw [hS'] at HE
                      obtain ⟨bb, hbb⟩ : ∃ bb, (r : Int) - 1 = bb := ⟨_, rfl⟩
                      obtain ⟨aa, haa⟩ : ∃ aa, (c : Int) - 1 = aa := ⟨_, rfl⟩
                      obtain ⟨R3, hR3⟩ : ∃ R3, 3 * (r : Int) = R3 := ⟨_, rfl⟩
                      obtain ⟨R4, hR4⟩ : ∃ R4, R3 + aa = R4 := ⟨_, rfl⟩
                      obtain ⟨i, hi⟩ : ∃ i, 3 * r + c = i := ⟨_, rfl⟩
                      have y3 : IntKind.i64.wrap (bb + 1) = (r : Int) := by rw [IntKind.wrap_i64]; omega
                      have y4 : IntKind.i64.wrap (3 * (r : Int)) = R3 := by rw [IntKind.wrap_i64]; omega
                      have y5 : IntKind.i64.wrap (R3 + aa) = R4 := by rw [IntKind.wrap_i64]; omega
                      have y6 : IntKind.i64.wrap (R4 + 1) = (i : Int) := by rw [IntKind.wrap_i64]; omega
                      have hi9 : (i : Int) < (9 : Nat) := by omega
                      rw [hi] at ck y1
                      rw [hbb] at cA1 hrle HY1 HY2b HY3 HY4 ⊢
                      rw [haa] at cA1 hcle HX1 HX2 ⊢
                      have HPt := hide (HP.out.below HU.out.drew.below)
                      have HAA := hide haa
                      have haal : -1 ≤ aa := by omega
                      have hbbl : -1 ≤ bb := by omega
                      clear sb pb hP hS hS' hbb haa hR3 hR4 hi hx0 hx1 hy0 hy1
                      generalize kn i = u at *
                      have SKa := hide (And.intro i0 (And.intro i1 (And.intro i2 ck)))
                      go_upto_region 24 with fail
                      go_region_held (fun (w' : World) => w'.cell? ⟨w.heap.size, 0, none⟩ = some (.int .i64 W) ∧ w'.cell? ⟨w.heap.size, 1, none⟩ = some (.int .i64 H) ∧ w'.cell? ⟨w.heap.size, 2, none⟩ = some (.slice a n cap) ∧ w'.cell? ⟨bk, offk + i, none⟩ = some (.int .i64 u))
                        (first | exact SKa.out | exact SK5.out)
                        ((go_at_call 83; (with_reducible refine (cA1 _ _ (by first | exact HX1.out | exact HX2.out) (by first | exact HY1.out | exact HY2b.out | exact HY3.out | exact HY4.out) _ HPt.out).mono ?_); rintro e w5 ⟨rfl, hb⟩; have HU5 := hide (HU.out.drew.next hb); have SK5 : Hid (_ ∧ _ ∧ _ ∧ _) := ⟨HU5.out.cell 2 rfl 0 rfl, HU5.out.cell 2 rfl 1 rfl, HU5.out.cell 2 rfl 2 rfl, (hb.cell (p := ⟨bk, offk + i, none⟩) hbk).trans ck⟩; clear hb))
                      all_goals
                        clear SKa SK5 cA1 cA HPt ck i0 i1 i2 y1 y2 y3 y4 y5 y6 HX1 HX2 HY1 HY2b HY3 HY4 HU HP HQ HFb HKn
                        go_wp2_with fail
                        exact ⟨⟨c + 1, by omega, by congr 1; have := HAA.out; omega, by rw [← HE.out]; rfl, HU5.out⟩, by simp [intOf]; omega⟩
                    · obtain rfl : c = 3 := by omega
                      have hcle : ¬ ((3 : Nat) : Int) - 1 ≤ 1 := by omega
                      obtain ⟨S, hS⟩ : ∃ S, bluU W H f kn q (3 * r + 3) = S := ⟨_, rfl⟩
                      have HE : Hid (bluU W H f kn q (3 * (r + 1)) = S) := hS
                      rw [hS]
                      clear cA HP HQ HFb HKn hS
                      go_wp2_with fail
                      exact ⟨⟨r + 1, by omega, by congr 1; omega, by rw [HE.out], HU.out⟩, by simp [intOf]; omega⟩
                · obtain rfl : r = 3 := by omega
                  have hrle : ¬ ((3 : Nat) : Int) - 1 ≤ 1 := by omega
                  have sb := bluU_bd HN.out HFb.out HKn.out q 9 (by omega)
                  have HE : Hid (bluS W H f kn k q = bluU W H f kn q 9 / (y : Int)) := by
                    show _ = _
                    unfold bluS
                    rw [← HY2.out]
                    simp
                  obtain ⟨l0, l1, l2⟩ := HT.out.im3 0 rfl
                  obtain ⟨d0, fr⟩ := HT.out.atO hqn
                  show Code.wp _ _ _ _ _
                  rw [show 3 * 3 = 9 from rfl]
                  have cD := fun w' => l1Down_any (bluU W H f kn q 9) y hp.1 hp.2 (by omega) (by omega) w'
                  generalize bluU W H f kn q 9 = S at *
                  generalize S / (y : Int) = V at *
                  have cV := fun w' => l1In_any V (-1000000000) 1000000000 w'
                  have HU := hide (HT.out.upd hqn V).drew
                  clear cA HP HQ HFb HKn HY2 sb HT
                  go_upto_region 25 with fail
                  go_region_with (go_at_call 95; (with_reducible refine (cD _).mono ?_); rintro e w6 ⟨rfl, rfl⟩)
                  all_goals
                    clear d0 fr l0 l1 l2 cD
                    generalize (World.setCell _ ⟨B, q, none⟩ (.int .i64 V)).drew = wz at *
                    obtain ⟨l0, l1, l2⟩ := HU.out.im3 0 rfl
                    have d0 := (HU.out.atO hqn).1
                    unfold updN at d0
                    rw [if_pos rfl] at d0
                    have HY3 : Hid (inB V (-1000000000) 1000000000 = true → allB (bluS W H f kn k) (q + 1) = true) := fun h => allB_step HA.out (by rw [HE.out]; exact h)
                    have HN3 : Hid (inB V (-1000000000) 1000000000 = false → allB (bluS W H f kn k) n = false) := fun h => allB_false hqn (by rw [HE.out]; exact h)
                    have HU2 : Hid (St w [(C, [.int .i64 W, .int .i64 H, .slice (some ⟨B, 0, none⟩) n n]), (w.heap.size + 1, [.int .i64 0, .int .i64 0, .slice none 0 0]), (w.heap.size, [.int .i64 W, .int .i64 H, .slice a n cap])] [(some ⟨B, 0, none⟩, B, n, fun x => .int .i64 (hyb (bluS W H f kn k) (q + 1) x))] wz) := by
                      have := HU.out
                      rw [← HE.out, updN_hyb] at this
                      exact this
                    clear HA HE HU
                    generalize inB V (-1000000000) 1000000000 = D at *
                    cases D
                    · obtain ⟨z0, z1, z2⟩ := HU2.out.im3 1 rfl
                      obtain ⟨f0, f1, f2⟩ := HU2.out.fr3 1 rfl
                      go_wp2_with fail
                      refine (cV _).mono ?_
                      rintro e w7 ⟨rfl, rfl⟩
                      go_wp2_with fail
                      refine bodyPost_ret (v := im 0 0 none 0 0) (by simp [results, Try.results46, go_sem, z0, z1, z2]) rfl ?_
                      rw [HN3.out (by simp), Bool.and_false, pickI_f, pickI_f, pickN_f]
                      exact (St.fill3' (L1 := [_]) HU2.out _ _ _).imN _
                    · go_wp2_with fail
                      refine (cV _).mono ?_
                      rintro e w7 ⟨rfl, rfl⟩
                      go_wp2_with fail
                      exact ⟨⟨q + 1, by omega, rfl, HY3.out (by simp), HU2.out⟩, by simp [intOf]; omega⟩
            · obtain rfl : q = n := by omega
              have HSe : Hid (St w [(C, [.int .i64 W, .int .i64 H, .slice (some ⟨B, 0, none⟩) q q]), (w.heap.size + 1, [.int .i64 0, .int .i64 0, .slice none 0 0]), (w.heap.size, [.int .i64 W, .int .i64 H, .slice a q cap])] [(some ⟨B, 0, none⟩, B, q, fun x => .int .i64 (bluS W H f kn k x))] wr) := by
                refine HS.out.mark0 (by omega) (Kept.refl _ _) ?_
                rcases HS.out.nthO 0 rfl with h | ⟨h0, h⟩
                · exact .inl h
                · exact .inr ⟨h0, Row.congr h (fun x hx => if_pos hx)⟩
              obtain ⟨l0, l1, l2⟩ := HSe.out.im3 0 rfl
              obtain ⟨z0, z1, z2⟩ := HSe.out.im3 1 rfl
              obtain ⟨f0, f1, f2⟩ := HSe.out.fr3 1 rfl
              clear HS cA HP HQ HFb HKn
              go_wp2_with fail
              refine bodyPost_ret (v := im W H (some ⟨B, 0, none⟩) q q) (by simp [results, Try.results46, go_sem, z0, z1, z2]) rfl ?_
              rw [HAl.out, HA.out, Bool.true_and, pickI_t, pickI_t, pickN_t]
              exact (St.fill3' (L1 := [_]) HSe.out _ _ _).imR W H q

theorem specBlur_law (W H : Int) (a : Option Addr) (n cap : Nat) (f : Nat → Int) (hl : n ≤ 1048576) (ak : Option Addr) (m capk : Nat) (kn : Nat → Int) (_hm : m ≤ 1048576) (s : Int) (w : World) (h : Px a n f w) (h2 : Px ak m kn w) :
    Calls Try.prog 46 #[im W H a n cap, .slice ak m capk, .int .i64 s] w (ImR (pickI (bluB W H n f m kn s) W) (pickI (bluB W H n f m kn s) H) (pickN (bluB W H n f m kn s) n) (bluS W H f kn s.toNat) w) :=
  specBlur_any W H a n cap f hl ak m capk kn s w h h2

end Go.Proofs.Ytlpfgmkkbplddaa

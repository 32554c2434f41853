/- The law FnSumHalves, walked. -/
import Derived.Test.YtepgelalkfgdlaaSumE
import Derived.Test.YtepgelalkfgdlaaBig
import Derived.Laws.StructEq
import Derived.Deep.DeepCutAuto
import Derived.Deep.RegionHeld
namespace Go.Proofs.Ytepgelalkfgdlaa
open Ieee Go.RowKit Fl

theorem eqIn_float {P : Program} (w : World) (d : Nat) (t : TypeId) (k : FloatKind) (a b : Nat) (h : P.underlying t = some (.float k)) : (Op.equalIn (d + 1) t (.float k a) (.float k b)).run P w = .ok (Op.floatEq k a b) w := by
  simp [Op.equalIn, run_underlying h]
theorem eqOne (w : World) : (Op.equalIn 9999 24 (.float .f64 4607182418800017408) (.float .f64 4607182418800017408)).run Try.prog w = .ok true w := by
  have o1 : Op.floatEq .f64 4607182418800017408 4607182418800017408 = true := by decide +kernel
  rw [show (9999 : Nat) = 9998 + 1 from rfl, eqIn_float w 9998 24 .f64 _ _ Try.underlying24, o1]
theorem eqTwo (w : World) : (Op.equalIn 9999 24 (.float .f64 4611686018427387904) (.float .f64 4611686018427387904)).run Try.prog w = .ok true w := by
  have o1 : Op.floatEq .f64 4611686018427387904 4611686018427387904 = true := by decide +kernel
  rw [show (9999 : Nat) = 9998 + 1 from rfl, eqIn_float w 9998 24 .f64 _ _ Try.underlying24, o1]
attribute [local go_sem] run_store_float alloc_drewN setCell_drewN shape?_drewN eqOne eqTwo

/-- a list of one pair that was just made -/
theorem cs_single (x y : Nat) (w : World) : Cs (some ⟨w.heap.size, 0, none⟩) 1 (fun _ => x) (fun _ => y) (w.alloc (.cells #[.float .f64 x, .float .f64 y] 39)) := by
  refine .inr ⟨w.heap.size, 0, rfl, fun k hk => ?_⟩
  obtain rfl : k = 0 := by omega
  obtain ⟨h0, h1, _, _⟩ := P2.new x y 39 w
  exact ⟨h0, h1⟩

theorem sum_single (x y : Nat) (w : World) (h : Cs (some ⟨w.heap.size, 0, none⟩) 1 (fun _ => x) (fun _ => y) (w.alloc (.cells #[.float .f64 x, .float .f64 y] 39))) :
    Calls Try.prog 39 #[.slice (some ⟨w.heap.size, 0, none⟩) 1 1] (w.alloc (.cells #[.float .f64 x, .float .f64 y] 39)) fun e w' => e = .returned (cx x y) ∧ Below w.heap.size w w' := by
  refine (implSum_any _ 1 1 _ _ (by omega) (by omega) (by omega) _ h).mono ?_
  rintro e w' ⟨r, s, rfl, hrs, hb⟩
  rw [if_neg (by omega)] at hrs
  obtain ⟨h1, h2⟩ := hrs
  have e1 := h1.of_one
  have e2 := h2.of_one
  exact ⟨by rw [e1, e2], Below.next (below_new _ _) (Nat.le_refl _) hb⟩

theorem hide2 {p : Prop} (h : p) : Hid p := h

theorem four {b r s b' r' s' : Nat} {w : World} (h : P2 b r s w) (h' : P2 b' r' s' w) :
    w.cell? ⟨b, 0, none⟩ = some (.float .f64 r) ∧ w.cell? ⟨b, 1, none⟩ = some (.float .f64 s) ∧ w.cell? ⟨b', 0, none⟩ = some (.float .f64 r') ∧ w.cell? ⟨b', 1, none⟩ = some (.float .f64 s') :=
  ⟨h.1, h.2.1, h'.1, h'.2.1⟩

theorem sum_same {re im : Nat → Nat} {n r t ra ia rb ib r' t' : Nat} (hn : 2 ≤ n) (hn4 : ¬ 4096 < n) (h : if 4096 < n then r = 0 ∧ t = 0 else Halves re 0 n r ∧ Halves im 0 n t)
    (ha : Halves re 0 (n / 2) ra ∧ Halves im 0 (n / 2) ia) (hb : Halves re (n / 2) (n - n / 2) rb ∧ Halves im (n / 2) (n - n / 2) ib) (hr : Res .add ra rb r') (ht : Res .add ia ib t') : same r r' ∧ same t t' := by
  rw [if_neg hn4] at h
  have e : 0 + n / 2 = n / 2 := Nat.zero_add _
  refine ⟨h.1.same (.more 0 n ra rb r' hn ha.1 ?_ hr), h.2.same (.more 0 n ia ib t' hn ha.2 ?_ ht)⟩
  · rw [e]; exact hb.1
  · rw [e]; exact hb.2

set_option maxRecDepth 20000 in
set_option maxHeartbeats 2000000 in
theorem fnSumHalves_walk (a0 : Option Addr) (l0 c0 : Nat) (w : World) (h0 : Bytes a0 l0 w) :
    Calls Try.prog 6 #[.slice a0 l0 c0] w fun e w' => e = .returned (.bool true) ∧ Below w.heap.size w w' := by
  have hbig := big_any a0 l0 c0
  have hd := drawSum_any a0 l0 c0 w h0
  clear h0
  by_cases hb : 1048576 < l0
  · rw [decide_eq_true hb] at hbig
    clear hd hb
    go_enter Try.func6, Try.ntmps6
    go_wp2_with fail
    refine (hbig _).mono ?_
    rintro e w' ⟨rfl, rfl⟩
    go_wp2_with fail
    go_ret
    exact ⟨rfl, Below.refl _ _⟩
  rw [decide_eq_false hb] at hbig
  clear hb
  go_enter Try.func6, Try.ntmps6
  go_wp2_with fail
  refine (hbig _).mono ?_
  rintro e w' ⟨rfl, rfl⟩
  clear hbig
  go_wp2_with fail
  refine hd.mono ?_
  rintro e w1 ⟨a, n, cap, re, im, rfl, hn, hcap, hmax, hcs, hb1⟩
  unfold maxLen at hmax
  have HB1 : Hid (Below w'.heap.size w' w1) := hb1
  have HC1 : Hid (Cs a n re im w1) := hcs
  clear hd hb1 hcs
  have hone := fun (w : World) h => sum_single 4607182418800017408 4611686018427387904 w h
  by_cases hn0 : n = 0
  · subst hn0
    go_wp2_with fail
    refine (hone _ (cs_single _ _ _)).mono ?_
    rintro e w2 ⟨rfl, hb⟩
    have HB2 : Hid (Below w'.heap.size w' w2) := Below.next HB1.out (Nat.le_refl _) hb
    clear hb hone
    go_wp2_with fail
    go_ret
    exact ⟨rfl, HB2.out⟩
  have n0 : ((n : Int) == 0) = false := by simp; omega
  by_cases hn4 : 4096 < n
  · have hn4' : (4096 : Int) < (n : Int) := by omega
    go_wp2_with fail
    refine (hone _ (cs_single _ _ _)).mono ?_
    rintro e w2 ⟨rfl, hb⟩
    have HB2 : Hid (Below w'.heap.size w' w2) := Below.next HB1.out (Nat.le_refl _) hb
    clear hb hone
    go_wp2_with fail
    go_ret
    exact ⟨rfl, HB2.out⟩
  clear hone
  have hn4' : ¬ (4096 : Int) < (n : Int) := by omega
  obtain ⟨b, off, rfl, hz0, hz1⟩ := HC1.out.at (k := 0) (by omega)
  rw [Nat.zero_mul, Nat.add_zero] at hz0 hz1
  go_wp2_with fail
  refine (sum_single _ _ _ (cs_single _ _ _)).mono ?_
  rintro e w2 ⟨rfl, hb⟩
  have hbn := below_new w2 (.cells #[.float .f64 (re 0), .float .f64 (im 0)] 39)
  have HB2 : Hid (Below w'.heap.size w' (w2.alloc (.cells #[.float .f64 (re 0), .float .f64 (im 0)] 39))) := Below.next (Below.next HB1.out (Nat.le_refl _) hb) (Nat.le_refl _) hbn
  have HC2 : Hid (Cs (some ⟨b, off, none⟩) n re im (w2.alloc (.cells #[.float .f64 (re 0), .float .f64 (im 0)] 39))) := (HC1.out.below hb).below hbn
  clear hz0 hz1
  obtain ⟨_, _, hs, hz0, hz1⟩ := HC2.out.at (k := 0) (by omega)
  cases hs
  rw [Nat.zero_mul, Nat.add_zero] at hz0 hz1
  obtain ⟨p0, p1, _, _⟩ := P2.new (re 0) (im 0) 39 w2
  have HD2 : Hid (Below w'.heap.size w' (w2.alloc (.cells #[.float .f64 (re 0), .float .f64 (im 0)] 39)).drew) := HB2.out.drew
  have HE2 : Hid (Cs (some ⟨b, off, none⟩) n re im (w2.alloc (.cells #[.float .f64 (re 0), .float .f64 (im 0)] 39)).drew) := HC2.out
  clear hb hbn HB1 HC1
  go_upto_region 7 with fail
  generalize w2.alloc (.cells #[.float .f64 (re 0), .float .f64 (im 0)] 39) = wq at *
  go_cut [35] (fun s35 wd => s35 = .bool false ∧ Below w'.heap.size w' wd ∧ Cs (some ⟨b, off, none⟩) n re im wd)
  case first =>
    go_region_with (go_at_call 33; (with_reducible refine (cxSameT _ _ _ _ (same_rfl _) (same_rfl _) _).mono ?_); rintro e w3 ⟨rfl, hb3⟩)
    all_goals
      have HB3 : Hid (Below w'.heap.size w' w3) := Below.next HD2.out (Nat.le_refl _) hb3
      have HC3 : Hid (Cs (some ⟨b, off, none⟩) n re im w3) := HE2.out.below hb3
      clear hb3 HD2 HE2 HB2 HC2 hz0 hz1 p0 p1
      go_wp2_with fail
      go_meet
      exact ⟨rfl, HB3.out, HC3.out⟩
  case rest =>
    obtain ⟨rfl, hb3, hc3⟩ := hcut
    clear HD2 HE2 HB2 HC2 hz0 hz1 p0 p1
    have HB3 : Hid (Below w'.heap.size w' wc) := hb3
    have HC3 : Hid (Cs (some ⟨b, off, none⟩) n re im wc) := hc3
    clear hb3 hc3
    by_cases hn1 : n = 1
    · have n1 : ((n : Int) == 1) = true := by subst hn1; rfl
      clear hn1
      go_wp2_with fail
      go_ret
      exact ⟨rfl, HB3.out⟩
    have n1 : ((n : Int) == 1) = false := by simp; omega
    obtain ⟨ti, hi1, hi2, hi3, hi4⟩ := info39
    have HI1 : Hid (Try.prog.info? 39 = some ti) := hi1
    clear hi1
    have hh1 : 1 ≤ n / 2 := by omega
    have hB4 := below_new wc (.cells #[] 39)
    have HC4 : Hid (Cs (some ⟨b, off, none⟩) n re im (wc.alloc (.cells #[] 39))) := HC3.out.below hB4
    have HO4 : Hid ((wc.alloc (.cells #[] 39)).ownsRow wc.heap.size 39 2 (.slice (some ⟨wc.heap.size, 0, none⟩) 0 0) 0 []) := World.ownsRow_lit wc #[] 0 (Nat.le_refl _) (by unfold maxLen; omega) rfl
    have N1 : Hid (∀ (j : Nat) (u : Value), (pairs (fun k => re (0 + k)) (fun k => im (0 + k)) (n / 2))[j]? = some u → (wc.alloc (.cells #[] 39)).cell? ((⟨b, off, none⟩ : Addr).add j) = some u) := by
      have := piece_cells HC4.out 0 (n / 2) (by omega)
      rw [Nat.zero_mul, Nat.add_zero] at this
      exact this
    have N3 : Hid (0 + n / 2 ≤ maxLen) := by show _ ≤ _; unfold maxLen; omega
    have N4 : Hid ((0 + n / 2) * 16 ≤ 140737488355328) := by show _ ≤ _; omega
    have N5 : Hid (wc.heap.size ≤ (wc.alloc (.cells #[] 39)).heap.size) := hB4.size
    clear hB4
    go_wp2_with (refine wpList_append_own _ rfl _ _ 47 rfl wc.heap.size 39 ti (cx 0 0) 2 16 Try.underlying47 HI1.out hi2 hi3 hi4 rfl (by omega) _ 0 [] rfl HO4.out ⟨b, off, none⟩ (n / 2) cap (pairs (fun k => re (0 + k)) (fun k => im (0 + k)) (n / 2)) rfl (pairs_length _ _ _) N1.out (pairs_one _ _ _) N3.out N4.out N5.out ?_)
    intro v4 w4 ho hg _
    have ho' : w4.ownsRow wc.heap.size 39 2 v4 (n / 2) (pairs re im (n / 2)) := ho
    obtain ⟨a4, cap4, rfl, hc4, hm4, hcs4⟩ := cs_of_pairs ho' (by omega)
    unfold maxLen at hm4
    have hB4 : Below wc.heap.size wc w4 := (below_new wc _).trans ((Below.refl _ _).grown hg N5.out (fun q hq => (HO4.out.lt q hq).1))
    have HB4 : Hid (Below w'.heap.size w' w4) := Below.next HB3.out (Nat.le_refl _) hB4
    have HL4 : Hid (Cs (some ⟨b, off, none⟩) n re im w4) := HC3.out.below hB4
    have hsum := implSum_any a4 (n / 2) cap4 re im (by omega) hc4 (by omega) w4 hcs4
    clear ho ho' hg N1 N3 N4 N5 HO4 HC4 hB4 hcs4 HB3 HC3
    go_wp2_with fail
    refine hsum.mono ?_
    rintro e w5 ⟨ra, ia, rfl, hra, hb⟩
    rw [if_neg (by omega)] at hra
    have HRa : Hid (Halves re 0 (n / 2) ra ∧ Halves im 0 (n / 2) ia) := hra
    have hbn := below_new w5 (.cells #[.float .f64 ra, .float .f64 ia] 39)
    have HB5 : Hid (Below w'.heap.size w' (w5.alloc (.cells #[.float .f64 ra, .float .f64 ia] 39))) := Below.next (Below.next HB4.out (Nat.le_refl _) hb) (Nat.le_refl _) hbn
    have HL5 : Hid (Cs (some ⟨b, off, none⟩) n re im (w5.alloc (.cells #[.float .f64 ra, .float .f64 ia] 39))) := (HL4.out.below hb).below hbn
    have HP5 : Hid (P2 w5.heap.size ra ia (w5.alloc (.cells #[.float .f64 ra, .float .f64 ia] 39))) := P2.new _ _ _ _
    clear hra hb hbn hsum HB4 HL4 hc4 hm4
    have hW6 : (w5.alloc (.cells #[.float .f64 ra, .float .f64 ia] 39)).heap.size = w5.heap.size + 1 := by simp
    have hB7 := below_new (w5.alloc (.cells #[.float .f64 ra, .float .f64 ia] 39)) (.cells #[] 39)
    have HC7 : Hid (Cs (some ⟨b, off, none⟩) n re im ((w5.alloc (.cells #[.float .f64 ra, .float .f64 ia] 39)).alloc (.cells #[] 39))) := HL5.out.below hB7
    have hO7 := World.ownsRow_lit (base := w5.heap.size + 1) (e := 39) (size := 2) (w5.alloc (.cells #[.float .f64 ra, .float .f64 ia] 39)) #[] 0 (by rw [hW6]; exact Nat.le_refl _) (by unfold maxLen; omega) rfl
    rw [hW6] at hO7
    have HO7 : Hid (((w5.alloc (.cells #[.float .f64 ra, .float .f64 ia] 39)).alloc (.cells #[] 39)).ownsRow (w5.heap.size + 1) 39 2 (.slice (some ⟨w5.heap.size + 1, 0, none⟩) 0 0) 0 []) := hO7
    have N1 : Hid (∀ (j : Nat) (u : Value), (pairs (fun k => re (n / 2 + k)) (fun k => im (n / 2 + k)) (n - n / 2))[j]? = some u → ((w5.alloc (.cells #[.float .f64 ra, .float .f64 ia] 39)).alloc (.cells #[] 39)).cell? ((⟨b, off + n / 2 * 2, none⟩ : Addr).add j) = some u) := piece_cells HC7.out (n / 2) (n - n / 2) (by omega)
    have N3 : Hid (0 + (n - n / 2) ≤ maxLen) := by show _ ≤ _; unfold maxLen; omega
    have N4 : Hid ((0 + (n - n / 2)) * 16 ≤ 140737488355328) := by show _ ≤ _; omega
    have N5 : Hid (w5.heap.size + 1 ≤ ((w5.alloc (.cells #[.float .f64 ra, .float .f64 ia] 39)).alloc (.cells #[] 39)).heap.size) := by show _ ≤ _; simp
    clear hB7 hO7 hW6
    go_wp2_with (refine wpList_append_own _ rfl _ _ 47 rfl (w5.heap.size + 1) 39 ti (cx 0 0) 2 16 Try.underlying47 HI1.out hi2 hi3 hi4 rfl (by omega) _ 0 [] rfl HO7.out ⟨b, off + n / 2 * 2, none⟩ (n - n / 2) (cap - n / 2) (pairs (fun k => re (n / 2 + k)) (fun k => im (n / 2 + k)) (n - n / 2)) rfl (pairs_length _ _ _) N1.out (pairs_one _ _ _) N3.out N4.out N5.out ?_)
    intro v8 w8 ho hg _
    have ho' : w8.ownsRow (w5.heap.size + 1) 39 2 v8 (n - n / 2) (pairs (fun k => re (n / 2 + k)) (fun k => im (n / 2 + k)) (n - n / 2)) := ho
    obtain ⟨a8, cap8, rfl, hc8, hm8, hcs8⟩ := cs_of_pairs ho' (by omega)
    unfold maxLen at hm8
    have hB8 : Below (w5.heap.size + 1) (w5.alloc (.cells #[.float .f64 ra, .float .f64 ia] 39)) w8 := ((below_new (w5.alloc (.cells #[.float .f64 ra, .float .f64 ia] 39)) _).mono (by simp)).trans ((Below.refl _ _).grown hg N5.out (fun q hq => (HO7.out.lt q hq).1))
    have hB8' : Below (w5.alloc (.cells #[.float .f64 ra, .float .f64 ia] 39)).heap.size (w5.alloc (.cells #[.float .f64 ra, .float .f64 ia] 39)) w8 := hB8.mono (by simp)
    have HB8 : Hid (Below w'.heap.size w' w8) := Below.next HB5.out (Nat.le_refl _) hB8'
    have HL8 : Hid (Cs (some ⟨b, off, none⟩) n re im w8) := HL5.out.below hB8'
    have HP8 : Hid (P2 w5.heap.size ra ia w8) := HP5.out.below hB8'
    have hsum := implSum_any a8 (n - n / 2) cap8 (fun k => re (n / 2 + k)) (fun k => im (n / 2 + k)) (by omega) hc8 (by omega) w8 hcs8
    clear ho ho' hg N1 N3 N4 N5 HO7 HC7 hB8 hB8' hcs8 HB5 HL5 HP5
    go_wp2_with fail
    refine hsum.mono ?_
    rintro e w9 ⟨rb, ib, rfl, hrb, hb⟩
    rw [if_neg (by omega)] at hrb
    have HRb : Hid (Halves re (n / 2) (n - n / 2) rb ∧ Halves im (n / 2) (n - n / 2) ib) := ⟨hrb.1.shift (d := n / 2) (f := re) (fun _ => rfl), hrb.2.shift (d := n / 2) (f := im) (fun _ => rfl)⟩
    have hbn := below_new w9 (.cells #[.float .f64 rb, .float .f64 ib] 39)
    have HB9 : Hid (Below w'.heap.size w' (w9.alloc (.cells #[.float .f64 rb, .float .f64 ib] 39))) := Below.next (Below.next HB8.out (Nat.le_refl _) hb) (Nat.le_refl _) hbn
    have HL9 : Hid (Cs (some ⟨b, off, none⟩) n re im (w9.alloc (.cells #[.float .f64 rb, .float .f64 ib] 39))) := (HL8.out.below hb).below hbn
    have HP9 : Hid (P2 w5.heap.size ra ia (w9.alloc (.cells #[.float .f64 rb, .float .f64 ib] 39))) := (HP8.out.below hb).below hbn
    have HQ9 : Hid (P2 w9.heap.size rb ib (w9.alloc (.cells #[.float .f64 rb, .float .f64 ib] 39))) := P2.new _ _ _ _
    clear hrb hb hbn hsum HB8 HL8 HP8 hc8 hm8
    go_upto_region 14 with fail
    generalize w9.alloc (.cells #[.float .f64 rb, .float .f64 ib] 39) = wz at *
    have HLd : Hid (Cs (some ⟨b, off, none⟩) n re im wz.drew) := HL9.out
    have HBd : Hid (Below w'.heap.size w' wz.drew) := HB9.out.drew
    have HPd : Hid (P2 w5.heap.size ra ia wz.drew) := HP9.out
    have HQd : Hid (P2 w9.heap.size rb ib wz.drew) := HQ9.out
    have K0 := hide2 (four HPd.out HQd.out)
    have hsL := fun w h => implSum_any (some ⟨b, off, none⟩) n cap re im (by omega) hcap (by omega) w h
    obtain ⟨p0, p1, _, _⟩ := HP9.out
    obtain ⟨q0, q1, _, _⟩ := HQ9.out
    go_region_held (fun w' => w'.cell? ⟨w5.heap.size, 0, none⟩ = some (.float .f64 ra) ∧ w'.cell? ⟨w5.heap.size, 1, none⟩ = some (.float .f64 ia) ∧ w'.cell? ⟨w9.heap.size, 0, none⟩ = some (.float .f64 rb) ∧ w'.cell? ⟨w9.heap.size, 1, none⟩ = some (.float .f64 ib))
      ((first | (with_reducible exact K0.out) | (with_reducible exact KA.out) | (with_reducible exact KB.out) | (with_reducible exact KC.out)))
      (first
        | (go_at_call 39; (with_reducible refine (hsL _ HLd.out).mono ?_); rintro e wA ⟨r, t, rfl, hrs, hbA⟩; have PA := hide2 (HPd.out.below hbA); have QA := hide2 (HQd.out.below hbA); have KA := hide2 (four PA.out QA.out); have BA := hide2 (Below.next HBd.out (Nat.le_refl _) hbA); clear hbA)
        | (go_at_call 40; (with_reducible refine (add_impl_b _ _ _ _ _).mono ?_); rintro e wB ⟨r', t', rfl, hbB, hr', ht'⟩; have KB := hide2 (four (PA.out.below hbB) (QA.out.below hbB)); have PB := hide2 (PA.out.below hbB); have QB := hide2 (QA.out.below hbB); have BB := hide2 (Below.next BA.out (Nat.le_refl _) hbB); have hsame := sum_same (by omega) (by omega) hrs HRa.out HRb.out hr' ht'; clear hbB)
        | (go_at_call 33; (with_reducible refine (cxSameT _ _ _ _ hsame.1 hsame.2 _).mono ?_); rintro e wC ⟨rfl, hbC⟩; have KC := hide2 (four (PB.out.below hbC) (QB.out.below hbC)); have BC := hide2 (Below.next BB.out (Nat.le_refl _) hbC); clear hbC))
    all_goals
      clear K0 KA KB KC PA QA PB QB BA BB HPd HQd HBd HLd hrs hsame hr' ht'
      go_wp2_with fail
      go_ret
      exact ⟨rfl, BC.out⟩

end Go.Proofs.Ytepgelalkfgdlaa

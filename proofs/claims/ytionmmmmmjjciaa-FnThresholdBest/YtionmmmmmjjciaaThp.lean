/- Thresholds: the program. -/
import Derived.Test.YtionmmmmmjjciaaThn
import Derived.Test.YtionmmmmmjjciaaWiq
import Derived.BigRegion
namespace Go.Proofs.Ytionmmmmmjjciaa
open Go.RowKit Go.Lib

set_option maxRecDepth 100000 in
set_option maxHeartbeats 4000000 in
theorem partOf_any (a : Option Addr) (cap : Nat) (f : Nat → Int) (hf : ∀ k, k < 256 → 0 ≤ f k ∧ f k ≤ 4096) (p L : Nat) (h1 : p ≤ L + 1) (h2 : L < 256) (w : World) (h : Px a 256 f w) :
    Calls Try.prog 15 #[.slice a 256 cap, .int .i64 p, .int .i64 L] w fun e w' => e = .returned (.agg #[.int .i64 (sm f (L + 1) - sm f p), .int .i64 (sto f (L + 1) - sto f p)]) ∧ Below w.heap.size w w' := by
  have HP := hide h
  have HF := hide hf
  have HS0 : Hid (St w [(w.heap.size + 1, [.int .i64 (sm f p - sm f p), .int .i64 (sto f p - sto f p)]), (w.heap.size, [.int .i64 0, .int .i64 0])] [] ((w.alloc (.cells #[.int .i64 0, .int .i64 0] 43)).alloc (.cells #[.int .i64 0, .int .i64 0] 43))) := by
    have := ((St.start w).box [.int .i64 0, .int .i64 0] 43).box' [.int .i64 0, .int .i64 0] 43 (b := w.heap.size + 1) (by simp)
    rw [Int.sub_self, Int.sub_self]
    exact this
  clear h hf
  go_enter Try.func15, Try.ntmps15
  go_wp2_with fail
  go_loopw [8] (fun i wr => ∃ k : Nat, p ≤ k ∧ k ≤ L + 1 ∧ i = .int .i64 k ∧ St w [(w.heap.size + 1, [.int .i64 (sm f k - sm f p), .int .i64 (sto f k - sto f p)]), (w.heap.size, [.int .i64 0, .int .i64 0])] [] wr) (fun i _ => L + 1 - (intOf i).toNat)
  case atStart => exact ⟨p, by omega, h1, rfl, HS0.out⟩
  case round =>
    obtain ⟨k, hpk, hk, rfl, hs⟩ := hrel
    clear HS0
    have HS := hide hs
    clear hs
    by_cases hlt : k < L + 1
    · obtain ⟨b, off, rfl, hz⟩ := (HP.out.below HS.out.below).at (k := k) (by omega)
      have bf := HF.out k (by omega)
      have bm := sm_le HF.out k (by omega)
      have bp := sm_le HF.out p (by omega)
      have bm2 := sto_le HF.out (by omega) k (by omega)
      have bp2 := sto_le HF.out (by omega) p (by omega)
      have bt := tone_le bf (by omega)
      have q0 := HS.out.cell 0 rfl 0 rfl
      have q1 := HS.out.cell 0 rfl 1 rfl
      have f0 := HS.out.free 0 rfl 0 rfl
      have f1 := HS.out.free 0 rfl 1 rfl
      have hbl : b < w.heap.size := by
        obtain ⟨b', off', e, hl⟩ := HP.out.lt (by omega)
        cases e
        exact hl
      have HA : Hid (sm f (k + 1) - sm f p = sm f k - sm f p + f k) := by show _ - _ = _; simp only [sm]; omega
      have HB : Hid (sto f (k + 1) - sto f p = sto f k - sto f p + (k : Int) * f k) := by show _ - _ = _; simp only [sto]; omega
      rw [Int.mul_comm] at HB bt
      obtain ⟨X, hX⟩ : ∃ X, X = sm f k - sm f p := ⟨_, rfl⟩
      obtain ⟨Y, hY⟩ : ∃ Y, Y = sto f k - sto f p := ⟨_, rfl⟩
      rw [← hX] at HA HS q0
      rw [← hY] at HB HS q1
      have bX : -1048576 ≤ X ∧ X ≤ 1048576 := by omega
      have bY : -268435456 ≤ Y ∧ Y ≤ 268435456 := by omega
      obtain ⟨T, hT⟩ : ∃ T, T = f k * (k : Int) := ⟨_, rfl⟩
      rw [← hT] at HB bt
      have wT : IntKind.i64.wrap (f k * (k : Int)) = T := by rw [← hT, IntKind.wrap_i64]; omega
      obtain ⟨X', hX'⟩ : ∃ X', X' = X + f k := ⟨_, rfl⟩
      obtain ⟨Y', hY'⟩ : ∃ Y', Y' = Y + T := ⟨_, rfl⟩
      have wX : IntKind.i64.wrap (X + f k) = X' := by rw [← hX', IntKind.wrap_i64]; omega
      have wY : IntKind.i64.wrap (Y + T) = Y' := by rw [← hY', IntKind.wrap_i64]; omega
      rw [← hX'] at HA
      rw [← hY'] at HB
      have HS1 := hide (St.fill (L1 := []) HS.out 0 (.int .i64 X')).drew
      have HS2 := hide (St.fill (L1 := []) HS1.out 1 (.int .i64 Y')).drew
      clear HS HP HF bm bp bm2 bp2 hX hY hX' hY' hT
      generalize f k = v at *
      go_upto_region 5 with fail
      go_region
      all_goals
        clear q0 q1 f0 f1 wX
        have q1 := HS1.out.cell 0 rfl 1 rfl
        have f1 := HS1.out.free 0 rfl 1 rfl
        have hz1 : (wr.setCell ⟨w.heap.size + 1, 0, none⟩ (.int .i64 X')).drew.cell? ⟨b, off + k, none⟩ = some (.int .i64 v) := by
          show (wr.setCell ⟨w.heap.size + 1, 0, none⟩ (.int .i64 X')).cell? ⟨b, off + k, none⟩ = _
          rw [World.cell?_setCell_other _ _ _ _ (by simp; try omega)]
          exact hz
        clear hz HS1
        generalize (wr.setCell ⟨w.heap.size + 1, 0, none⟩ (.int .i64 X')).drew = w5 at *
        go_upto_region 6 with fail
        go_region
        all_goals
          clear q1 f1 hz1 wT wY
          go_wp2_with fail
          refine ⟨⟨k + 1, by omega, by omega, rfl, ?_⟩, by simp [intOf]; omega⟩
          rw [HA.out, HB.out]
          exact HS2.out
    · obtain rfl : k = L + 1 := by omega
      have q0 := HS.out.cell 0 rfl 0 rfl
      have q1 := HS.out.cell 0 rfl 1 rfl
      have z0 := HS.out.cell 1 rfl 0 rfl
      have z1 := HS.out.cell 1 rfl 1 rfl
      have f0 := HS.out.free 1 rfl 0 rfl
      have f1 := HS.out.free 1 rfl 1 rfl
      obtain ⟨X, hX⟩ : ∃ X, sm f (L + 1) - sm f p = X := ⟨_, rfl⟩
      obtain ⟨Y, hY⟩ : ∃ Y, sto f (L + 1) - sto f p = Y := ⟨_, rfl⟩
      rw [hX] at q0 HS
      rw [hY] at q1 HS
      have HX := hide hX
      have HY := hide hY
      clear hX hY
      have HB := hide ((HS.out.below.setCell (p := ⟨w.heap.size, 0, none⟩) (Nat.le_refl _) (.int .i64 X)).setCell (p := ⟨w.heap.size, 1, none⟩) (Nat.le_refl _) (.int .i64 Y))
      clear HS HP HF
      go_wp2_with fail
      exact bodyPost_ret (v := .agg #[.int .i64 X, .int .i64 Y]) (by simp [results, Try.results15, go_sem, z0, z1]) rfl ⟨by rw [HX.out, HY.out], HB.out⟩

set_option maxRecDepth 100000 in
set_option maxHeartbeats 2000000 in
theorem worthBad_any (n0 s0 n1 s1 : Int) (h : n0 = 0 ∨ n1 = 0) (w : World) :
    Calls Try.prog 14 #[.agg #[.int .i64 n0, .int .i64 s0], .agg #[.int .i64 n1, .int .i64 s1]] w fun e w' => e = .returned (.tuple #[.agg #[.int .i64 0, .int .i64 0], .bool false]) ∧ Below w.heap.size w w' := by
  have HB := hide (bnext (bnext (bnew w (.cells #[.int .i64 n0, .int .i64 s0] 43)) (Nat.le_refl _) (bnew _ (.cells #[.int .i64 n1, .int .i64 s1] 43))) (Nat.le_refl _) (bnew _ (.cells #[.int .i64 0, .int .i64 0] 39)))
  by_cases h0 : n0 = 0
  · subst h0
    clear h
    go_enter Try.func14, Try.ntmps14
    go_wp2_with fail
    exact bodyPost_ret (v := .tuple #[.agg #[.int .i64 0, .int .i64 0], .bool false]) (by simp [results, Try.results14, go_sem]) rfl ⟨rfl, HB.out⟩
  · obtain rfl : n1 = 0 := by omega
    have t0 : (n0 == 0) = false := by simp [h0]
    clear h
    go_enter Try.func14, Try.ntmps14
    go_wp2_with fail
    exact bodyPost_ret (v := .tuple #[.agg #[.int .i64 0, .int .i64 0], .bool false]) (by simp [results, Try.results14, go_sem]) rfl ⟨rfl, HB.out⟩

set_option maxRecDepth 100000 in
set_option maxHeartbeats 2000000 in
theorem worthGood_any (n0 s0 n1 s1 A B C T D : Int) (h0 : ¬ n0 = 0) (h1 : ¬ n1 = 0) (wA : IntKind.i64.wrap (s0 * n1) = A) (wB : IntKind.i64.wrap (s1 * n0) = B) (wC : IntKind.i64.wrap (A - B) = C) (wT : IntKind.i64.wrap (C * C) = T) (wD : IntKind.i64.wrap (n0 * n1) = D) (w : World) :
    Calls Try.prog 14 #[.agg #[.int .i64 n0, .int .i64 s0], .agg #[.int .i64 n1, .int .i64 s1]] w fun e w' => e = .returned (.tuple #[.agg #[.int .i64 T, .int .i64 D], .bool true]) ∧ Below w.heap.size w w' := by
  have HB := hide (bnext (bnext (bnew w (.cells #[.int .i64 n0, .int .i64 s0] 43)) (Nat.le_refl _) (bnew _ (.cells #[.int .i64 n1, .int .i64 s1] 43))) (Nat.le_refl _) (bnew _ (.cells #[.int .i64 T, .int .i64 D] 39)))
  have t0 : (n0 == 0) = false := by simp [h0]
  have t1 : (n1 == 0) = false := by simp [h1]
  go_enter Try.func14, Try.ntmps14
  go_wp2_with fail
  exact bodyPost_ret (v := .tuple #[.agg #[.int .i64 T, .int .i64 D], .bool true]) (by simp [results, Try.results14, go_sem]) rfl ⟨rfl, HB.out⟩

set_option maxRecDepth 100000 in
set_option maxHeartbeats 4000000 in
theorem isMore_any (t b t' b' : Int) (ht : 0 ≤ t ∧ t ≤ 1143931897538150400) (hb : 0 < b ∧ b ≤ 4194304) (ht' : 0 ≤ t' ∧ t' ≤ 1143931897538150400) (hb' : 0 < b' ∧ b' ≤ 4194304) (w : World) :
    Calls Try.prog 16 #[.agg #[.int .i64 t, .int .i64 b], .agg #[.int .i64 t', .int .i64 b']] w fun e w' => e = .returned (.bool (decide (aboF t b t' b'))) ∧ Below w.heap.size w w' := by
  have m1 := mul_bound ht.1 ht.2 (Int.le_of_lt hb'.1) hb'.2
  have m2 := mul_bound ht'.1 ht'.2 (Int.le_of_lt hb.1) hb.2
  have m3 : -t' * b = -(t' * b) := Int.neg_mul _ _
  have HC : Hid (decide (aboF t b t' b') = decide (0 < t * b' + -t' * b)) := by
    show decide _ = _
    rw [m3]
    unfold aboF
    congr 1
    apply propext
    constructor <;> intro h <;> omega
  have c1 := fun w' => wideProductB_any t b' (by omega) (by omega) (by omega) w'
  have c2 := fun z (hz : z = -t') w' => wideProductB_any z b (by subst hz; omega) (by omega) (by subst hz; omega) w'
  have c3 := fun w' => widePlusB_any (t * b') (-t' * b) (by omega) (by omega) w'
  have c4 := fun w' => wideSignB_any (t * b' + -t' * b) (by omega) w'
  have hS : ∀ x : Int, decide (0 < sgn x) = decide (0 < x) := by
    intro x
    unfold sgn
    by_cases h1 : x < 0
    · rw [if_pos h1]
      have : ¬ 0 < x := by omega
      simp [this]
    · rw [if_neg h1]
      by_cases h2 : x = 0
      · rw [if_pos h2]; subst h2; rfl
      · rw [if_neg h2]
        have : 0 < x := by omega
        simp [this]
  have HD := hide (hS (t * b' + -t' * b))
  have HU := hide (((St.start w).box [.int .i64 t, .int .i64 b] 39).box' [.int .i64 t', .int .i64 b'] 39 (b := w.heap.size + 1) (by simp))
  have wn : IntKind.i64.wrap (-t') = -t' := by rw [IntKind.wrap_i64]; omega
  clear m1 m2 m3 hS
  go_enter Try.func16, Try.ntmps16
  have SK : Hid (_ ∧ _ ∧ _ ∧ _) := ⟨HU.out.cell 1 rfl 0 rfl, HU.out.cell 1 rfl 1 rfl, HU.out.cell 0 rfl 0 rfl, HU.out.cell 0 rfl 1 rfl⟩
  go_upto_region 1 with fail
  go_region_held (fun (w' : World) => w'.cell? ⟨w.heap.size, 0, none⟩ = some (.int .i64 t) ∧ w'.cell? ⟨w.heap.size, 1, none⟩ = some (.int .i64 b) ∧ w'.cell? ⟨w.heap.size + 1, 0, none⟩ = some (.int .i64 t') ∧ w'.cell? ⟨w.heap.size + 1, 1, none⟩ = some (.int .i64 b'))
    (exact SK.out)
    (((first
      | (go_at_call 22; first | (with_reducible refine (c1 _).mono ?_) | (refine (c2 _ (by first | rfl | exact wn) _).mono ?_))
      | (go_at_call 23; refine (c3 _).mono ?_)
      | (go_at_call 24; refine (c4 _).mono ?_)); rintro e w5 ⟨rfl, hb5⟩; (first | replace HU := hide (HU.out.next hb5) | replace HU := hide (HU.out.drew.next hb5)); (replace SK : Hid (_ ∧ _ ∧ _ ∧ _) := ⟨HU.out.cell 1 rfl 0 rfl, HU.out.cell 1 rfl 1 rfl, HU.out.cell 0 rfl 0 rfl, HU.out.cell 0 rfl 1 rfl⟩); clear hb5))
  all_goals
    go_wp2_with fail
    go_ret
    refine ⟨?_, HU.out.below⟩
    rw [HC.out, ← HD.out]
    rfl

end Go.Proofs.Ytionmmmmmjjciaa

/- Leaves: the steps of a row, the program. -/
import Derived.Test.YtfpeobkncileiaaCpj
namespace Go.Proofs.Ytfpeobkncileiaa
open Go.RowKit

def jAd (Z : Nat) (a : Option Addr) (i : Nat) : Option Addr := if i = 1 then a else some ⟨Z, 0, none⟩
def jLn (n i : Nat) : Nat := if i = 1 then n else 1
def jCp (c i : Nat) : Nat := if i = 1 then c else 1
def jF (f : Nat → Int) (i q : Nat) : Int := if i = 1 then f q else 0
theorem j_sum (n : Nat) : sumN (jLn n) 3 = n + 2 := by show 0 + 1 + n + 1 = n + 2; omega
theorem j_cat (n : Nat) (f : Nat → Int) (q : Nat) (hq : q < n + 2) : (cat (jLn n) (jF f) 3).getD q 0 = rr f n q := by
  have e : cat (jLn n) (jF f) 3 = [0] ++ fl f n ++ [0] := by
    show (([] ++ fl (jF f 0) 1) ++ fl (jF f 1) n) ++ fl (jF f 2) 1 = _
    rfl
  rw [e]
  have hl := fl_len f n
  unfold rr
  by_cases h0 : q = 0
  · rw [if_pos h0, h0]; rfl
  · rw [if_neg h0]
    by_cases h1 : q ≤ n
    · rw [if_pos h1]
      rw [getD_app_lt (by simp [hl]; omega)]
      have := fl_at f n (q - 1) (by omega)
      simp only [List.getD] at this ⊢
      rw [List.getElem?_append_right (by simp; omega)]
      exact this
    · rw [if_neg h1]
      have : q = ([0] ++ fl f n).length := by simp [hl]; omega
      rw [this, getD_app_at]

set_option maxRecDepth 100000 in
set_option maxHeartbeats 16000000 in
theorem stepsOf_any (a : Option Addr) (n cap : Nat) (f : Nat → Int) (hn : n ≤ 64) (hf : ∀ k, k < n → 0 ≤ f k ∧ f k ≤ 1000) (w : World) (h : Px a n f w) :
    Calls Try.prog 17 #[.slice a n cap] w fun e w' => ∃ v1 v2, e = .returned (.tuple #[v1, v2]) ∧ w'.ownsRow w.heap.size 2 1 v1 (lvU n f).length (ints (lvU n f)) ∧ w'.ownsRow w.heap.size 2 1 v2 (lvD n f).length (ints (lvD n f)) ∧ Apart v1 v2 ∧ Below w.heap.size w w' := by
  have HR := hide (rr_bd (n := n) hf)
  have HS0 := hide (((St.start w).box [.int .i64 0] 2).box' [.slice (some ⟨w.heap.size, 0, none⟩) 1 1, .slice a n cap, .slice (some ⟨w.heap.size, 0, none⟩) 1 1] 24 (b := w.heap.size + 1) (by simp))
  have HPL : Hid (PxL (some ⟨w.heap.size + 1, 0, none⟩) 3 (jAd w.heap.size a) (jLn n) (jCp cap) (jF f) ((w.alloc (.cells #[.int .i64 0] 2)).alloc (.cells #[.slice (some ⟨w.heap.size, 0, none⟩) 1 1, .slice a n cap, .slice (some ⟨w.heap.size, 0, none⟩) 1 1] 24))) := by
    refine ⟨⟨w.heap.size + 1, 0, rfl, fun i hi => ?_⟩, fun i hi => ?_⟩
    · rw [Nat.zero_add]
      match i, hi with
      | 0, _ => exact HS0.out.cell 0 rfl 0 rfl
      | 1, _ => exact HS0.out.cell 0 rfl 1 rfl
      | 2, _ => exact HS0.out.cell 0 rfl 2 rfl
    · have hz : Px (some ⟨w.heap.size, 0, none⟩) 1 (fun _ => 0) ((w.alloc (.cells #[.int .i64 0] 2)).alloc (.cells #[.slice (some ⟨w.heap.size, 0, none⟩) 1 1, .slice a n cap, .slice (some ⟨w.heap.size, 0, none⟩) 1 1] 24)) := .inr ⟨w.heap.size, 0, rfl, fun k hk => by
        obtain rfl : k = 0 := by omega
        exact HS0.out.cell 1 rfl 0 rfl⟩
      match i, hi with
      | 0, _ => exact hz
      | 1, _ => exact h.below HS0.out.below
      | 2, _ => exact hz
  have cJ := joinRows_any (some ⟨w.heap.size + 1, 0, none⟩) 3 3 (jAd w.heap.size a) (jLn n) (jCp cap) (jF f) (by omega) (by rw [j_sum]; omega) _ HPL.out
  rw [j_sum] at cJ
  have HB0 := hide HS0.out.below
  clear h hf HS0 HPL
  go_enter Try.func17, Try.ntmps17
  go_wp2_with fail
  refine cJ.mono ?_
  rintro e w3 ⟨aj, cj, bj, rfl, hoj, -, hbj⟩
  have HB3 := hide (bnext HB0.out (Nat.le_refl _) hbj)
  have HAll : Hid (∀ w', Below w3.heap.size w3 w' → ∀ q, q < n + 2 → ∃ b off, aj = some ⟨b, off, none⟩ ∧ w'.cell? ⟨b, off + q, none⟩ = some (.int .i64 (rr f n q))) := fun w' hb q hq => by
    obtain ⟨b, off, ha, hc⟩ := (hoj.px.below hb).at hq
    exact ⟨b, off, ha, by rw [hc, j_cat n f q hq]⟩
  clear cJ hoj hbj HB0
  obtain ⟨bJ, oJ, rfl, -⟩ := HAll.out w3 (Below.refl _ _) 0 (by omega)
  have HAt : Hid (∀ w', Below w3.heap.size w3 w' → ∀ q, q < n + 2 → w'.cell? ⟨bJ, oJ + q, none⟩ = some (.int .i64 (rr f n q))) := fun w' hb q hq => by
    obtain ⟨b, off, ha, hc⟩ := HAll.out w' hb q hq
    cases ha
    exact hc
  clear HAll
  go_wp2_with fail
  go_loopw [2, 3, 6, 7, 17] (fun v4 v5 _ _ i wr => ∃ k : Nat, k ≤ n + 1 ∧ i = .int .i64 k ∧ wr.ownsRow w3.heap.size 2 1 v4 (upL (rr f n) k).length (ints (upL (rr f n) k)) ∧ wr.ownsRow w3.heap.size 2 1 v5 (dnL (rr f n) k).length (ints (dnL (rr f n) k)) ∧ Apart v4 v5 ∧ Below w3.heap.size w3 wr) (fun _ _ _ _ i _ => n + 1 - (intOf i).toNat)
  case atStart => exact ⟨0, by omega, rfl, World.ownsRow_nil _ _ _ _, World.ownsRow_nil _ _ _ _, (fun b hb => by cases hb), Below.refl _ _⟩
  case round =>
    obtain ⟨k, hk, rfl, ho4, ho5, hap, hb⟩ := hrel
    by_cases hlt : k < n + 1
    · have hkn : (k : Int) < (n : Int) + 1 := by omega
      have t0 := HAt.out wr hb k (by omega)
      have t1 := HAt.out wr hb (k + 1) (by omega)
      have hA := HR.out k
      have hC := HR.out (k + 1)
      have hu := up_bd HR.out k
      have hd := dn_bd HR.out k
      have HU : Hid (upL (rr f n) (k + 1) = upL (rr f n) k ++ List.replicate (rr f n (k + 1) - rr f n k).toNat (k : Int)) := rfl
      have HD : Hid (dnL (rr f n) (k + 1) = dnL (rr f n) k ++ List.replicate (rr f n k - rr f n (k + 1)).toNat (k : Int)) := rfl
      have HO4 := hide (fun d => ownsRow_below' ho4 (below_drewN (Below.refl wr.heap.size wr) d))
      have HO5 := hide (fun d => ownsRow_below' ho5 (below_drewN (Below.refl wr.heap.size wr) d))
      have HAp := hide hap
      have HB := hide (fun d => below_drewN hb d)
      obtain ⟨E, hE⟩ : ∃ E, rr f n (k + 1) - rr f n k = E := ⟨_, rfl⟩
      have hE' : rr f n k - rr f n (k + 1) = -E := by omega
      have hEb : -1000 ≤ E ∧ E ≤ 1000 := by omega
      have wE : IntKind.i64.wrap (rr f n (k + 1) - rr f n k) = E := by rw [hE, IntKind.wrap_i64]; omega
      have wE2 : IntKind.i64.wrap (-E) = -E := by rw [IntKind.wrap_i64]; omega
      rw [hE] at HU
      rw [hE'] at HD
      clear ho4 ho5 hap hb HAt HR hE hE' hA hC
      generalize rr f n (k + 1) = C at *
      generalize rr f n k = A at *
      go_wp2_with fail
      go_quiet (fail)
      have HO4 := hide (HO4.out nq)
      have HO5 := hide (HO5.out nq)
      have HB := hide (HB.out nq)
      clear t0 t1
      generalize wr.drewN nq = wd at *
      go_wp2_with fail
      go_loopw [2, 31] (fun v4 j wr => ∃ t : Nat, t ≤ E.toNat ∧ j = .int .i64 t ∧ wr.ownsRow w3.heap.size 2 1 v4 ((upL (rr f n) k).length + t) (ints (upL (rr f n) k ++ List.replicate t (k : Int))) ∧ wr.ownsRow w3.heap.size 2 1 u3 (dnL (rr f n) k).length (ints (dnL (rr f n) k)) ∧ Apart v4 u3 ∧ Below w3.heap.size w3 wr) (fun _ j _ => E.toNat - (intOf j).toNat)
      case atStart => exact ⟨0, by omega, rfl, by simpa using HO4.out, HO5.out, HAp.out, HB.out⟩
      case round =>
        clear HO4 HO5 HAp HB
        obtain ⟨t, ht, rfl, ho4, ho5, hap, hb⟩ := hrel
        have HO4 := hide ho4
        have HO5 := hide ho5
        have HAp := hide hap
        have HB := hide hb
        have HZs := hide hb.size
        clear ho4 ho5 hap hb
        by_cases htd : t < E.toNat
        · have hjc : (t : Int) < E := by omega
          have HNL : Hid ((upL (rr f n) k).length + t ≤ 1048576) := by show _ ≤ _; omega
          clear hu hd HU HD wE wE2
          go_wp2_with (refine growN _ rfl _ _ rfl w3.heap.size _ _ (upL (rr f n) k ++ List.replicate t (k : Int)) rfl w3 HO4.out HB.out HZs.out (k : Int) rfl HNL.out ?_)
          intro v' w7 ho1 hb1 hs1 hk1 hm1
          have HO1 : Hid (w7.ownsRow w3.heap.size 2 1 v' ((upL (rr f n) k).length + (t + 1)) (ints (upL (rr f n) k ++ List.replicate (t + 1) (k : Int)))) := by
            rw [← rep_step, List.append_assoc]; exact ho1
          have HB1 := hide hb1
          have HAp1 := hide (HAp.out.symm.moved hm1 HO5.out).symm
          have HO51 := hide (owns_side HO5.out hk1 HAp.out.symm)
          clear ho1 hb1 hs1 hk1 hm1 HO4 HO5 HAp HB HZs HNL
          go_wp2_with fail
          exact ⟨⟨t + 1, by omega, rfl, HO1.out, HO51.out, HAp1.out, HB1.out⟩, by simp [intOf]; omega⟩
        · have hte : t = E.toNat := by omega
          have HO4' : Hid (wr.ownsRow w3.heap.size 2 1 u2 (upL (rr f n) (k + 1)).length (ints (upL (rr f n) (k + 1)))) := by
            rw [HU.out, List.length_append, List.length_replicate, ← hte]; exact HO4.out
          have hjc : ¬ (t : Int) < E := by omega
          obtain ⟨J, hJ⟩ : ∃ J : Int, (t : Int) = J := ⟨_, rfl⟩
          rw [hJ] at hjc ⊢
          clear HO4 hte hJ ht htd
          go_wp2_with fail
          go_loopw [3, 40] (fun v5 j wr => ∃ t : Nat, t ≤ (-E).toNat ∧ j = .int .i64 t ∧ wr.ownsRow w3.heap.size 2 1 v5 ((dnL (rr f n) k).length + t) (ints (dnL (rr f n) k ++ List.replicate t (k : Int))) ∧ wr.ownsRow w3.heap.size 2 1 u2 (upL (rr f n) (k + 1)).length (ints (upL (rr f n) (k + 1))) ∧ Apart u2 v5 ∧ Below w3.heap.size w3 wr) (fun _ j _ => (-E).toNat - (intOf j).toNat)
          case atStart => exact ⟨0, by omega, rfl, by simpa using HO5.out, HO4'.out, HAp.out, HB.out⟩
          case round =>
            clear HO4' HO5 HAp HB HZs
            obtain ⟨t, ht, rfl, ho5, ho4, hap, hb⟩ := hrel
            have HO4 := hide ho4
            have HO5 := hide ho5
            have HAp := hide hap
            have HB := hide hb
            have HZs := hide hb.size
            clear ho4 ho5 hap hb
            by_cases htd : t < (-E).toNat
            · have hjc : (t : Int) < -E := by omega
              have HNL : Hid ((dnL (rr f n) k).length + t ≤ 1048576) := by show _ ≤ _; omega
              clear hu hd HU HD wE wE2
              go_wp2_with (refine growN _ rfl _ _ rfl w3.heap.size _ _ (dnL (rr f n) k ++ List.replicate t (k : Int)) rfl w3 HO5.out HB.out HZs.out (k : Int) rfl HNL.out ?_)
              intro v' w7 ho1 hb1 hs1 hk1 hm1
              have HO1 : Hid (w7.ownsRow w3.heap.size 2 1 v' ((dnL (rr f n) k).length + (t + 1)) (ints (dnL (rr f n) k ++ List.replicate (t + 1) (k : Int)))) := by
                rw [← rep_step, List.append_assoc]; exact ho1
              have HB1 := hide hb1
              have HAp1 := hide (HAp.out.moved hm1 HO4.out)
              have HO41 := hide (owns_side HO4.out hk1 HAp.out)
              clear ho1 hb1 hs1 hk1 hm1 HO4 HO5 HAp HB HZs HNL
              go_wp2_with fail
              exact ⟨⟨t + 1, by omega, rfl, HO1.out, HO41.out, HAp1.out, HB1.out⟩, by simp [intOf]; omega⟩
            · have hte : t = (-E).toNat := by omega
              have HO5' : Hid (wr.ownsRow w3.heap.size 2 1 u3 (dnL (rr f n) (k + 1)).length (ints (dnL (rr f n) (k + 1)))) := by
                rw [HD.out, List.length_append, List.length_replicate, ← hte]; exact HO5.out
              have hjc : ¬ (t : Int) < -E := by omega
              obtain ⟨J2, hJ2⟩ : ∃ J : Int, (t : Int) = J := ⟨_, rfl⟩
              rw [hJ2] at hjc ⊢
              clear HO5 hte hJ2 ht htd hu hd HU HD
              go_wp2_with fail
              exact ⟨⟨k + 1, by omega, rfl, HO4.out, HO5'.out, HAp.out, HB.out⟩, by simp [intOf]; omega⟩
    · obtain rfl : k = n + 1 := by omega
      have HE1 : Hid (∃ v1 v2, Ending.returned (.tuple #[u2, u3]) = .returned (.tuple #[v1, v2]) ∧ wr.ownsRow w.heap.size 2 1 v1 (lvU n f).length (ints (lvU n f)) ∧ wr.ownsRow w.heap.size 2 1 v2 (lvD n f).length (ints (lvD n f)) ∧ Apart v1 v2 ∧ Below w.heap.size w wr) := ⟨u2, u3, rfl, owns_mono ho4 HB3.out.size, owns_mono ho5 HB3.out.size, hap, bnext HB3.out (Nat.le_refl _) hb⟩
      clear ho4 ho5 hap hb HAt HR
      have hnl : ¬ ((n + 1 : Nat) : Int) < (n : Int) + 1 := by omega
      go_wp2_with fail
      exact bodyPost_ret (v := .tuple #[u2, u3]) (by simp [results, Try.results17, go_sem]) rfl HE1.out

end Go.Proofs.Ytfpeobkncileiaa

/- The law on agreement's answers, walked. -/
import Derived.Test.YtgemdhhofflhgaaDaj
import Derived.Test.YtgemdhhofflhgaaOfd
import Derived.Deep.QuietTactic
import Derived.BigQuiet
namespace Go.Proofs.Ytgemdhhofflhgaa
open Go.RowKit

theorem fstF_at (f g : Nat → Int) (n : Nat) : ∀ r k j, j < r → (∀ i, i < j → hasN g (f (k + i)) n = false) → hasN g (f (k + j)) n = true → fstF f g n k r = f (k + j)
  | 0, _, _, hj, _, _ => by omega
  | r + 1, k, 0, _, _, h => by
    rw [Nat.add_zero] at h
    simp only [fstF]
    rw [if_pos h, Nat.add_zero]
  | r + 1, k, j + 1, hj, hn, h => by
    have h0 := hn 0 (by omega)
    rw [Nat.add_zero] at h0
    simp only [fstF]
    rw [if_neg (by rw [h0]; decide), fstF_at f g n r (k + 1) j (by omega) (fun i hi => by have := hn (i + 1) (by omega); rwa [show k + (i + 1) = k + 1 + i by omega] at this) (by rwa [show k + (j + 1) = k + 1 + j by omega] at h), show k + (j + 1) = k + 1 + j by omega]
theorem agF_first {Bv : Nat → Int} {ln : Nat → Nat} {F : Nat → Nat → Int} {g : Nat → Int} {n i k : Nat} (hs : 0 ≤ agF Bv ln F g n i) (hk : k < ln i) (hn : ∀ j, j < k → hasN g (F i j) n = false) (h : hasN g (F i k) n = true) : agF Bv ln F g n i = F i k := by
  unfold agF at hs ⊢
  split at hs
  · rename_i hc
    rw [if_pos hc]
    have := fstF_at (F i) g n (ln i) 0 k hk (fun j hj => by rw [Nat.zero_add]; exact hn j hj) (by rw [Nat.zero_add]; exact h)
    rwa [Nat.zero_add] at this
  · omega
theorem agN_le' (m n : Nat) : agN m n ≤ m := by unfold agN; split <;> omega
/-- what the law reads -/
def AW (a1 : Option Addr) (m : Nat) (ad : Nat → Option Addr) (ln cp : Nat → Nat) (F : Nat → Nat → Int) (Bv : Nat → Int) (a2 : Option Addr) (n : Nat) (g : Nat → Int) (ra rb : Option Addr) (N : Nat) (s : Nat → Int) (w wr : World) : Prop :=
  Below w.heap.size w wr ∧ PxB a1 m ad ln cp F Bv wr ∧ Px a2 n g wr ∧ Px ra N s wr ∧ Px rb N s wr
theorem AW.drewN {a1 : Option Addr} {m : Nat} {ad : Nat → Option Addr} {ln cp : Nat → Nat} {F : Nat → Nat → Int} {Bv : Nat → Int} {a2 : Option Addr} {n : Nat} {g : Nat → Int} {ra rb : Option Addr} {N : Nat} {s : Nat → Int} {w wr : World} (h : AW a1 m ad ln cp F Bv a2 n g ra rb N s w wr) (d : Nat) : AW a1 m ad ln cp F Bv a2 n g ra rb N s w (wr.drewN d) := by
  obtain ⟨h1, h2, h3, h4, h5⟩ := h
  have hb : Below wr.heap.size wr (wr.drewN d) := below_drewN (Below.refl _ _) d
  exact ⟨below_drewN h1 d, h2.below hb, h3.below hb, h4.below hb, h5.below hb⟩
theorem Px.some {a : Option Addr} {n i : Nat} {f : Nat → Int} {w : World} (h : Px a n f w) (hi : i < n) : ∃ b off, a = some ⟨b, off, none⟩ ∧ ∀ k, k < n → w.cell? ⟨b, off + k, none⟩ = some (.int .i64 (f k)) := by
  rcases h with h | h
  · omega
  · exact h

set_option maxRecDepth 100000 in
set_option maxHeartbeats 4000000 in
theorem fnAgree_walk (a : Option Addr) (len cap : Nat) (w : World) (h : Bytes a len w) :
    Calls Try.prog 3 #[.slice a len cap] w fun e w' => e = .returned (.bool true) ∧ Below w.heap.size w w' := by
  have cB := big_any a len cap w
  have cD := drawAgree_any a len cap w h
  clear h
  by_cases hbig : 1048576 < len
  · rw [decide_eq_true hbig] at cB
    clear cD
    go_enter Try.func3, Try.ntmps3
    go_wp2_with fail
    refine cB.mono ?_
    rintro e w1 ⟨rfl, rfl⟩
    clear cB
    go_wp2_with fail
    go_ret
    exact ⟨rfl, Below.refl _ _⟩
  rw [decide_eq_false hbig] at cB
  clear hbig
  go_enter Try.func3, Try.ntmps3
  go_wp2_with fail
  refine cB.mono ?_
  rintro e w0 ⟨rfl, rfl⟩
  clear cB
  go_wp2_with fail
  refine cD.mono ?_
  rintro e w1 ⟨a1, m, c1, Bv, ad, ln, cp, F, a2, n, c2, g, rfl, hmc, hm, hP, hl, hK, hn, hb1⟩
  have cS := specAgree_any a1 m c1 ad ln cp F Bv (by omega) (fun i hi => by have := hl i hi; omega) a2 n c2 g (by omega) w1 hP hK
  have cI := fun w2 (hb : Below w1.heap.size w1 w2) => implAgree_any a1 m c1 ad ln cp F Bv (by omega) hmc (fun i hi => by have := hl i hi; omega) a2 n c2 g (by omega) w2 (hP.below hb) (hK.below hb)
  have HFst : Hid (∀ i k, 0 ≤ agF Bv ln F g n i → k < ln i → (∀ j, j < k → hasN g (F i j) n = false) → hasN g (F i k) n = true → agF Bv ln F g n i = F i k) := fun i k h1 h2 h3 h4 => agF_first h1 h2 h3 h4
  have hN : agN m n ≤ m := agN_le' m n
  have HP := hide hP
  have HK := hide hK
  have HB1 := hide hb1
  clear hP hK hb1 cD
  unfold LsR at cS cI
  generalize agN m n = N at *
  generalize agF Bv ln F g n = s at *
  go_wp2_with fail
  refine cS.mono ?_
  rintro e w2 ⟨ra, rc, rb, rfl, ho2, h12, hb2⟩
  have HP2 := hide (HP.out.below hb2)
  have HK2 := hide (HK.out.below hb2)
  have HO2 := hide ho2.px
  have HB2 := hide (bnext HB1.out (Nat.le_refl _) hb2)
  have cI2 := cI w2 hb2
  clear cI cS HP HK HB1 ho2 h12 hb2
  go_wp2_with fail
  refine cI2.mono ?_
  rintro e w3 ⟨rd, re, rf, rfl, ho3, h13, hb3⟩
  have HW3 : Hid (AW a1 m ad ln cp F Bv a2 n g ra rd N s w0 w3) := ⟨bnext HB2.out (Nat.le_refl _) hb3, HP2.out.below hb3, HK2.out.below hb3, HO2.out.below hb3, ho3.px⟩
  clear cI2 HP2 HK2 HO2 HB2 ho3 h13 hb3
  have qN : ((N : Int) != (N : Int)) = false := by simp
  go_wp2_with fail
  go_loopw [7] (fun v wr => ∃ i : Nat, i ≤ N ∧ v = .int .i64 i ∧ AW a1 m ad ln cp F Bv a2 n g ra rd N s w0 wr) (fun v _ => N - (intOf v).toNat)
  case atStart => exact ⟨0, by omega, rfl, HW3.out⟩
  case round =>
    obtain ⟨i, hi, rfl, hw⟩ := hrel
    clear HW3
    by_cases hiN : i < N
    · have HW := hide hw
      obtain ⟨b1, o1, rfl, hpb, hpx⟩ : ∃ b1 o1, a1 = some ⟨b1, o1, none⟩ ∧ (∀ wr, AW a1 m ad ln cp F Bv a2 n g ra rd N s w0 wr → wr.cell? ⟨b1, o1 + i * 2 + 1, none⟩ = some (.slice (ad i) (ln i) (cp i))) ∧ ∀ wr, AW a1 m ad ln cp F Bv a2 n g ra rd N s w0 wr → Px (ad i) (ln i) (F i) wr := by
        obtain ⟨b1, o1, e1, _, _⟩ := hw.2.1.at (i := i) (by omega)
        refine ⟨b1, o1, e1, fun wr h => ?_, fun wr h => h.2.1.2 i (by omega)⟩
        obtain ⟨b2, o2, e2, _, z⟩ := h.2.1.at (i := i) (by omega)
        rw [e1] at e2; cases e2; exact z
      obtain ⟨b5, o5, rfl, _⟩ := hw.2.2.2.1.some hiN
      obtain ⟨b6, o6, rfl, _⟩ := hw.2.2.2.2.some hiN
      have h5 : ∀ wr, AW (some ⟨b1, o1, none⟩) m ad ln cp F Bv a2 n g (some ⟨b5, o5, none⟩) (some ⟨b6, o6, none⟩) N s w0 wr → wr.cell? ⟨b5, o5 + i, none⟩ = some (.int .i64 (s i)) ∧ wr.cell? ⟨b6, o6 + i, none⟩ = some (.int .i64 (s i)) := fun wr h => by
        obtain ⟨c5, p5, e5, z5⟩ := h.2.2.2.1.some hiN
        obtain ⟨c6, p6, e6, z6⟩ := h.2.2.2.2.some hiN
        cases e5; cases e6
        exact ⟨z5 i hiN, z6 i hiN⟩
      have H5 := hide h5
      have HPB := hide hpb
      have HPX := hide hpx
      obtain ⟨z5, z6⟩ := h5 _ hw
      have HFi : Hid (∀ k, 0 ≤ s i → k < ln i → (∀ j, j < k → hasN g (F i j) n = false) → hasN g (F i k) n = true → s i = F i k) := fun k => HFst.out i k
      have hli : ln i ≤ 8 := hl i (by omega)
      have him : (i : Int) < m := by omega
      have hiN' : (i : Int) < N := by omega
      clear h5 hpb hpx hw
      generalize hS : s i = S at *
      clear hS
      have HWd := hide (fun d => HW.out.drewN d)
      go_upto_region 11 with fail
      go_quiet (fail)
      have HWq := hide (HWd.out nq)
      clear HWd HW z5 z6
      generalize wr.drewN nq = wq at *
      obtain ⟨z5, z6⟩ := H5.out _ HWq.out
      have zb := HPB.out _ HWq.out
      have HXw := hide (HPX.out _ HWq.out)
      have HKw := hide HWq.out.2.2.1
      clear HFst H5 HPB HPX
      generalize hA : ad i = A at *
      generalize hC : cp i = C at *
      generalize hL : ln i = l at *
      generalize hF : F i = f at *
      clear hA hC hL hF
      go_wp2_with fail
      go_loopw [8] (fun v wr => ∃ k : Nat, k ≤ l ∧ v = .int .i64 k ∧ (∀ j, j < k → hasN g (f j) n = false) ∧ wq = wr) (fun v _ => l - (intOf v).toNat)
      case atStart => exact ⟨0, by omega, rfl, fun j hj => by omega, rfl⟩
      case round =>
        obtain ⟨k, hk, rfl, hno, rfl⟩ := hrel
        have HNo := hide hno
        clear hno
        by_cases hkl : k < l
        · have hkl' : (k : Int) < l := by omega
          by_cases hS0 : S < 0
          · have hS1 : ¬ 0 ≤ S := by omega
            go_wp2_with fail
            go_roundw
            case rel => exact ⟨i + 1, by omega, by simp, HWq.out⟩
            case measure => simp [intOf]; omega
          · have hS1 : 0 ≤ S := by omega
            obtain ⟨b3, o3, rfl, hc3⟩ := HXw.out.some hkl
            have z3 := hc3 k hkl
            have HFk := hide (HFi.out k hS1 hkl HNo.out)
            clear hc3 HXw HFi
            generalize hX : f k = X at *
            go_wp2_with fail
            go_loopw [10, 11] (fun kn v wr => ∃ j : Nat, j ≤ n ∧ v = .int .i64 j ∧ kn = .bool (hasN g X j) ∧ wq = wr) (fun _ v _ => n - (intOf v).toNat)
            case atStart => exact ⟨0, by omega, rfl, rfl, rfl⟩
            case round =>
              obtain ⟨j, hj, rfl, rfl, rfl⟩ := hrel
              by_cases hjn : j < n
              · have hjn' : (j : Int) < n := by omega
                obtain ⟨b2, o2, rfl, hc2⟩ := HKw.out.some hjn
                have z2 := hc2 j hjn
                clear hc2
                cases hh : hasN g X j with
                | true =>
                  go_wp2_with fail
                  go_roundw
                  case rel => exact ⟨j + 1, by omega, by simp, by simp [hasN, hh], trivial⟩
                  case measure => simp [intOf]; omega
                | false =>
                  by_cases hy : g j = X
                  · have hn1 : hasN g X (j + 1) = true := by simp [hasN, hy]
                    rw [hy] at z2
                    go_wp2_with fail
                    go_roundw
                    case rel => exact ⟨j + 1, by omega, by simp, by rw [hn1], trivial⟩
                    case measure => simp [intOf]; omega
                  · have hn1 : hasN g X (j + 1) = false := by simp [hasN, hh, hy]
                    generalize g j = Y at *
                    have hy' : (Y == X) = false := by simp [hy]
                    go_wp2_with fail
                    go_roundw
                    case rel => exact ⟨j + 1, by omega, by simp, by rw [hn1], trivial⟩
                    case measure => simp [intOf]; omega
              · obtain rfl : j = n := by omega
                have hjn' : ¬ (j : Int) < j := by omega
                cases hh : hasN g X j with
                | true =>
                  obtain rfl : S = X := HFk.out hh
                  have hne : (S != S) = false := by simp
                  go_wp2_with fail
                  go_roundw
                  case rel => exact ⟨i + 1, by omega, by simp, HWq.out⟩
                  case measure => simp [intOf]; omega
                | false =>
                  have HNo' : Hid (∀ q, q < k + 1 → hasN g (f q) j = false) := fun q hq => by
                    by_cases e : q = k
                    · subst e; rw [hX]; exact hh
                    · exact HNo.out q (by omega)
                  go_wp2_with fail
                  go_roundw
                  case rel => exact ⟨k + 1, by omega, by simp, HNo'.out, trivial⟩
                  case measure => simp [intOf]; omega
        · obtain rfl : k = l := by omega
          have hkl' : ¬ (k : Int) < k := by omega
          go_wp2_with fail
          go_roundw
          case rel => exact ⟨i + 1, by omega, by simp, HWq.out⟩
          case measure => simp [intOf]; omega
    · obtain rfl : i = N := by omega
      have q : ¬ (i : Int) < i := by omega
      have HE := hide hw.1
      clear hw
      go_wp2_with fail
      go_ret
      exact ⟨rfl, HE.out⟩

end Go.Proofs.Ytgemdhhofflhgaa

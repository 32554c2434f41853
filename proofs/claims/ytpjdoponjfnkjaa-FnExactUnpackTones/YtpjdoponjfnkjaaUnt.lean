/- The specification's tones out of bytes, walked. -/
import Derived.Test.YtpjdoponjfnkjaaUns
import Derived.Test.YtpjdoponjfnkjaaKps
namespace Go.Proofs.Ytpjdoponjfnkjaa
open Go.RowKit

set_option maxHeartbeats 1000000 in
theorem specUnpackTones_any (a : Option Addr) (N cap : Nat) (g : Nat → Int) (hl : N ≤ 1048576) (hg : ∀ k, k < N → 0 ≤ g k ∧ g k ≤ 255) (n m : Int) (w : World) (h : PxU a N g w) :
    Calls Try.prog 14 #[.slice a N cap, .int .i64 n, .int .i64 m] w (LsF (unN g N n m) (unS g N m) (unB g N n m) w) := by
  have HP := hide h
  have HG := hide hg
  clear h hg
  have c1 := l1In_any n 0 65536 w
  have c2 := l1In_any m 1 16 w
  cases hI : inB n 0 65536 with
  | false =>
    have HN : Hid (unB g N n m = false) := by show _ = _; unfold unB; rw [hI]; simp
    rw [hI] at c1
    clear HP HG hI c2
    go_enter Try.func14, Try.ntmps14
    go_wp2_with fail
    refine c1.mono ?_
    rintro e w1 ⟨rfl, rfl⟩
    clear c1
    go_wp2_with fail
    go_ret2
    exact un_no HN.out _ _ _ _ (bnew _ _)
  | true =>
    rw [hI] at c1
    cases hM : inB m 1 16 with
    | false =>
      have HN : Hid (unB g N n m = false) := by show _ = _; unfold unB; rw [hM]; simp
      rw [hM] at c2
      clear HP HG hI hM
      go_enter Try.func14, Try.ntmps14
      go_wp2_with fail
      refine c1.mono ?_
      rintro e w1 ⟨rfl, rfl⟩
      clear c1
      go_wp2_with fail
      refine c2.mono ?_
      rintro e w1 ⟨rfl, rfl⟩
      clear c2
      go_wp2_with fail
      go_ret2
      exact un_no HN.out _ _ _ _ (bnew _ _)
    | true =>
      rw [hM] at c2
      obtain ⟨n, rfl, hn6⟩ : ∃ n' : Nat, n = n' ∧ n' ≤ 65536 := by
        simp only [inB, Bool.and_eq_true, decide_eq_true_eq] at hI
        exact ⟨n.toNat, by omega, by omega⟩
      obtain ⟨M, rfl, hM1, hM2⟩ : ∃ M : Nat, m = M ∧ 1 ≤ M ∧ M ≤ 16 := by
        simp only [inB, Bool.and_eq_true, decide_eq_true_eq] at hM
        exact ⟨m.toNat, by omega, by omega, by omega⟩
      have HU : Hid (unB g N n M = (decide (N = nB (n * M)) && padB g (n * M) (8 * N - n * M))) := by
        show _ = _
        unfold unB
        rw [hI, hM, Int.toNat_natCast, Int.toNat_natCast]
        rfl
      have hnM : n * M ≤ 65536 * 16 := Nat.mul_le_mul hn6 hM2
      have eM : (n : Int) * (M : Int) = ((n * M : Nat) : Int) := by simp
      have wM : IntKind.i64.wrap ((n : Int) * (M : Int)) = ((n * M : Nat) : Int) := by rw [eM, IntKind.wrap_i64]; omega
      have wN : wrap64 ((n : Int) * (M : Int)) = ((n * M : Nat) : Int) := by rw [eM]; unfold wrap64; omega
      clear hI hM
      by_cases hlen : N = nB (n * M)
      · have dN : (((N : Nat) : Int) != (((n * M : Nat) : Int) + 7) / 8) = false := by
          simp; rw [hlen]; unfold nB; omega
        have hz0 : 0 ≤ ((n * M : Nat) : Int) := by omega
        have h8N : n * M ≤ 8 * N := by rw [hlen]; unfold nB; omega
        have hN8 : N ≤ 131072 := by rw [hlen]; unfold nB; omega
        have HU2 : Hid (unB g N n M = padB g (n * M) (8 * N - n * M)) := by show _ = _; rw [HU.out, decide_eq_true hlen]; rfl
        have cB := fun i hi w' h => l13Bit_any a N cap g i hi hl HG.out w' h
        have HST : Hid ((w.alloc (.cells #[] 2)).ownsRow w.heap.size 2 1 (.slice (some ⟨w.heap.size, 0, none⟩) 0 0) 0 (ints [])) := World.ownsRow_lit w #[] 0 (Nat.le_refl _) (by unfold maxLen; omega) rfl
        have HW : Hid (Below w.heap.size w (w.alloc (.cells #[] 2))) := bnew _ _
        clear HU hlen HG eM
        generalize hnm : n * M = nm at *
        have HNM := hide hnm
        clear hnm
        go_enter Try.func14, Try.ntmps14
        go_wp2_with fail
        refine c1.mono ?_
        rintro e w1 ⟨rfl, rfl⟩
        clear c1
        go_wp2_with fail
        refine c2.mono ?_
        rintro e w1 ⟨rfl, rfl⟩
        clear c2
        go_wp2_with fail
        clear dN
        go_loopw [8, 9, 10, 11] (fun v i _ _ wr => ∃ k : Nat, k ≤ n ∧ i = .int .i64 k ∧ wr.ownsRow w1.heap.size 2 1 v k (ints (fl (unT g N M) k)) ∧ Below w1.heap.size w1 wr) (fun _ i _ _ _ => n - (intOf i).toNat)
        case atStart => exact ⟨0, by omega, rfl, HST.out, HW.out⟩
        case round =>
          obtain ⟨k, hk, rfl, ho, hb⟩ := hrel
          have HO := hide ho
          have HB := hide hb
          clear ho hb HST HW
          by_cases hlt : k < n
          · have hkM : (k + 1) * M ≤ nm := by rw [← HNM.out]; exact Nat.mul_le_mul_right _ hlt
            rw [Nat.add_mul, Nat.one_mul] at hkM
            have eK : (k : Int) * (M : Int) = ((k * M : Nat) : Int) := by simp
            have wK : wrap64 ((k : Int) * (M : Int)) = ((k * M : Nat) : Int) := by rw [eK]; unfold wrap64; omega
            clear eK wM wN
            have HTN : Hid (unT g N M k = sm (fun j => bitE g N (k * M + j)) M) := rfl
            have hsb := fun c => sm_bd (β := fun j => bitE g N (k * M + j)) (fun _ => bitE_01 g N _) c
            have HSM : Hid (∀ c, sm (fun j => bitE g N (k * M + j)) (c + 1) = sm (fun j => bitE g N (k * M + j)) c + bitE g N (k * M + c) * 2 ^ c) := fun c => rfl
            have HBE : Hid (∀ c, c < M → bitE g N (k * M + c) = bitU g (k * M + c)) := fun c hc => by unfold bitE; rw [if_pos (by omega)]
            have hpM : (2 : Int) ^ M ≤ 65536 := by
              have : (2 : Int) ^ M ≤ 2 ^ 16 := by exact_mod_cast Nat.pow_le_pow_right (by decide) hM2
              omega
            have HPX : Hid (∀ d, PxU a N g (wr.drewN d)) := fun d => (HP.out.below HB.out).below (below_drewN (Below.refl _ _) _)
            generalize hβ : (fun j => bitE g N (k * M + j)) = β at *
            have HBB : Hid (∀ c, c < M → β c = bitU g (k * M + c)) := fun c hc => by rw [← hβ]; exact HBE.out c hc
            have HSM2 : Hid (∀ c, sm β (c + 1) = sm β c + β c * 2 ^ c) := fun c => rfl
            clear hβ HBE HSM
            generalize hkm : k * M = kM at *
            clear hkm
            go_wp2_with fail
            go_loopw [10, 11] (fun v j ws => ∃ (c d : Nat) (V : Int), c ≤ M ∧ j = .int .i64 ((c : Int) - 1) ∧ v = .int .i64 V ∧ Hid (V * 2 ^ c + sm β c = sm β M) ∧ 0 ≤ V ∧ V ≤ 65535 ∧ ws = wr.drewN d) (fun _ j _ => (intOf j + 1).toNat)
            case atStart => exact ⟨M, 0, 0, by omega, rfl, rfl, hide (by show _ = _; rw [Int.zero_mul, Int.zero_add]), by omega, by omega, rfl⟩
            case round =>
              obtain ⟨c, d, V, hc, rfl, rfl, HV, hV0, hV1, rfl⟩ := hrel
              cases c with
              | zero =>
                have HVE : Hid (V = unT g N M k) := by
                  show _ = _
                  rw [HTN.out, ← HV.out]; simp [sm]
                have HO2 : Hid ((wr.drewN d).ownsRow w1.heap.size 2 1 u8 k (ints (fl (unT g N M) k))) := owns_same HO.out fun _ _ => rfl
                have HB2 : Hid (Below w1.heap.size w1 (wr.drewN d)) := below_drewN HB.out _
                have HS2 := hide HB2.out.size
                have HFL : Hid (fl (unT g N M) (k + 1) = fl (unT g N M) k ++ [V]) := by show _ = _; rw [HVE.out]; rfl
                clear HV HSM2 HBB HTN hsb HPX HO HB HVE
                generalize World.drewN wr d = wd at *
                generalize hY : fl (unT g N M) k = Y at *
                clear hY
                go_wp2_with (refine growL _ rfl _ _ rfl w1.heap.size u8 k Y rfl w1 HO2.out HB2.out HS2.out V rfl (by omega) ?_)
                intro v' w' ho hb hs
                have HO3 : Hid (w'.ownsRow w1.heap.size 2 1 v' (k + 1) (ints (fl (unT g N M) (k + 1)))) := by show World.ownsRow _ _ _ _ _ _ _; rw [HFL.out]; exact ho
                have HB3 := hide hb
                clear ho hb hs HO2 HB2 HS2 HFL
                go_wp2_with fail
                go_roundw
                case rel => exact ⟨k + 1, by omega, by go_num, HO3.out, HB3.out⟩
                case measure => simp [intOf]; omega
              | succ c =>
                have e1 : ((c + 1 : Nat) : Int) - 1 = (c : Int) := by omega
                have cC := cB (kM + c) (by omega) (wr.drewN d) (HPX.out d)
                rw [← HBB.out c (by omega), Int.natCast_add] at cC
                have hb01 : β c = 0 ∨ β c = 1 := by rw [HBB.out c (by omega)]; exact bitU_01 g _
                have HVN : Hid ((2 * V + β c) * 2 ^ c + sm β c = sm β M) := by
                  show _ = _
                  rw [← HV.out, HSM2.out c, Int.pow_succ, Int.add_mul]
                  have : 2 * V * 2 ^ c = V * (2 ^ c * 2) := by rw [Int.mul_comm 2 V, Int.mul_assoc, Int.mul_comm 2]
                  omega
                have hV2 : 2 * V + β c ≤ 65535 := by
                  have h1 := hsb c
                  have h2 := hsb M
                  have hpc := pow_pos2 c
                  have h3 : (2 * V + β c) * 1 ≤ (2 * V + β c) * 2 ^ c := Int.mul_le_mul_of_nonneg_left (by omega) (by omega)
                  have := HVN.out
                  omega
                rw [e1]
                clear HV HSM2 HBB HTN hsb HPX e1
                generalize β c = bt at *
                go_wp2_with fail
                refine cC.mono ?_
                rintro e w2 ⟨rfl, d2, rfl⟩
                clear cC
                go_wp2_with fail
                go_roundw
                case rel => exact ⟨c, _, 2 * V + bt, by omega, by go_num, by go_num, HVN, by omega, hV2, rfl⟩
                case measure => simp [intOf]
          · obtain rfl : k = n := by omega
            have HPX : Hid (∀ d, PxU a N g (wr.drewN d)) := fun d => (HP.out.below HB.out).below (below_drewN (Below.refl _ _) _)
            have HOD : Hid (∀ d, (wr.drewN d).ownsRow w1.heap.size 2 1 u8 k (ints (fl (unT g N M) k))) := fun d => owns_same HO.out fun _ _ => rfl
            have HBD : Hid (∀ d, Below w1.heap.size w1 (wr.drewN d)) := fun d => below_drewN HB.out _
            have HFN : Hid (unN g N k M = if unB g N k M = true then k else 0) := by show _ = _; unfold unN; rw [Int.toNat_natCast]
            have HFS : Hid (unS g N M = unT g N M) := by show _ = _; unfold unS; rw [Int.toNat_natCast]
            have HFU : Hid (unB g N k M = false → ∀ w' a2 c2, Below w1.heap.size w1 w' → LsF (unN g N k M) (unS g N M) (unB g N k M) w1 (.returned (.tuple #[.slice a2 0 c2, .bool false])) w') := fun h w' a2 c2 hb => un_no h w1 w' a2 c2 hb
            clear HO HB HP
            go_wp2_with fail
            go_loopw [12] (fun i ws => ∃ (j d : Nat), j ≤ 8 * N - nm ∧ i = .int .i64 ((nm : Int) + (j : Int)) ∧ Hid (padB g nm j = true) ∧ ws = wr.drewN d) (fun i _ => (8 * N - (intOf i).toNat))
            case atStart => exact ⟨0, 0, by omega, by go_num, hide rfl, rfl⟩
            case round =>
              obtain ⟨j, d, hj, rfl, HJ, rfl⟩ := hrel
              by_cases hlj : j < 8 * N - nm
              · have cC := cB (nm + j) (by omega) (wr.drewN d) (HPX.out d)
                rw [Int.natCast_add] at cC
                by_cases hbit : bitU g (nm + j) = 0
                · have HJ2 : Hid (padB g nm (j + 1) = true) := by
                    show _ = _
                    unfold padB at *
                    simp only [allG]
                    rw [HJ.out, decide_eq_true hbit]; rfl
                  rw [hbit] at cC
                  clear HJ hbit
                  go_wp2_with fail
                  refine cC.mono ?_
                  rintro e w2 ⟨rfl, d2, rfl⟩
                  clear cC
                  go_wp2_with fail
                  go_roundw
                  case rel => exact ⟨j + 1, _, by omega, by go_num, HJ2, rfl⟩
                  case measure => simp [intOf]; omega
                · have HUF : Hid (unB g N k M = false) := by
                    show _ = _
                    rw [HU2.out]
                    exact allG_no j hlj (by simp [hbit])
                  have h01 := bitU_01 g (nm + j)
                  have hb1 : bitU g (nm + j) = 1 := by omega
                  rw [hb1] at cC
                  clear HJ hbit h01 hb1
                  have HBX := hide (fun d2 => HBD.out d2)
                  go_wp2_with fail
                  refine cC.mono ?_
                  rintro e w2 ⟨rfl, d2, rfl⟩
                  clear cC
                  have HB9 : Hid (Below w1.heap.size w1 ((wr.drewN d).drewN d2)) := below_drewN (HBD.out d) _
                  generalize World.drewN (World.drewN wr d) d2 = wz at *
                  go_wp2_with fail
                  go_ret2
                  exact HFU.out HUF.out _ _ _ (HB9.out.alloc HB9.out.size _)
              · obtain rfl : j = 8 * N - nm := by omega
                have hU : unB g N k M = true := by rw [HU2.out]; exact HJ.out
                obtain ⟨a3, c3, b3, hv3, ho3, hb3⟩ := ow_fl (HOD.out d)
                subst hv3
                have HR : Hid (LsF (unN g N k M) (unS g N M) (unB g N k M) w1 (.returned (.tuple #[.slice a3 k c3, .bool true])) (wr.drewN d)) := by
                  show LsF _ _ _ _ _ _
                  rw [HFN.out, HFS.out, hU, if_pos rfl]
                  exact ⟨a3, c3, b3, rfl, ho3, hb3, HBD.out d⟩
                clear hU ho3 hb3 HJ HU2 HFN HFS HFU HOD HBD HPX
                generalize World.drewN wr d = wz at *
                go_wp2_with fail
                go_ret2
                exact HR.out
      · have HN : Hid (unB g N n M = false) := by show _ = _; rw [HU.out, decide_eq_false hlen]; rfl
        have dN : (((N : Nat) : Int) != (((n * M : Nat) : Int) + 7) / 8) = true := by
          simp; intro h9; apply hlen; unfold nB; omega
        have hz0 : 0 ≤ ((n * M : Nat) : Int) := by omega
        clear HP HG hlen HU eM
        generalize n * M = nm at *
        go_enter Try.func14, Try.ntmps14
        go_wp2_with fail
        refine c1.mono ?_
        rintro e w1 ⟨rfl, rfl⟩
        clear c1
        go_wp2_with fail
        refine c2.mono ?_
        rintro e w1 ⟨rfl, rfl⟩
        clear c2
        go_wp2_with fail
        go_ret2
        exact un_no HN.out _ _ _ _ (bnew _ _)

end Go.Proofs.Ytpjdoponjfnkjaa

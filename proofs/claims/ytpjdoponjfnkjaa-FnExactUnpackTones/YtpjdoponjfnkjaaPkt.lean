/- The specification's packed tones. -/
import Derived.Test.YtpjdoponjfnkjaaPks
namespace Go.Proofs.Ytpjdoponjfnkjaa
open Go.RowKit

/-- when tones can't be packed -/
theorem pk_no {f : Nat → Int} {n : Nat} {m : Int} (h : pkB f n m = false) (w w' : World) (a : Option Addr) (cap : Nat) (hb : Below w.heap.size w w') : LsU (pkN f n m) (pkS f n m) w (.returned (.slice a 0 cap)) w' := by
  have h0 : pkN f n m = 0 := by unfold pkN; rw [if_neg (by rw [h]; decide)]
  rw [h0]
  exact ⟨a, cap, 0, rfl, .inl rfl, .inl rfl, hb⟩
theorem pkB_tones {f : Nat → Int} {n : Nat} {m : Int} (h : pkB f n m = true) : (decide (n ≤ 65536) && allG (fun k => inB (f k) 0 65535) n) = true ∧ inB m 1 16 = true := by
  simp only [pkB, Bool.and_eq_true, decide_eq_true_eq] at h
  refine ⟨?_, h.1.2⟩
  have hm : m.toNat ≤ 16 := by have := h.1.2; simp only [inB, Bool.and_eq_true, decide_eq_true_eq] at this; omega
  have hp : (2 : Int) ^ m.toNat ≤ 2 ^ 16 := by exact_mod_cast Nat.pow_le_pow_right (by decide) hm
  simp only [Bool.and_eq_true, decide_eq_true_eq]
  refine ⟨h.1.1, allG_of fun k hk => ?_⟩
  have := allG_at h.2 k hk
  simp only [inB, Bool.and_eq_true, decide_eq_true_eq] at this ⊢
  omega

/-- the specification's packing -/
theorem specPackTones_any (a : Option Addr) (n cap : Nat) (f : Nat → Int) (hl : n ≤ 1048576) (m : Int) (w : World) (h : Px a n f w) :
    Calls Try.prog 6 #[.slice a n cap, .int .i64 m] w (LsU (pkN f n m) (pkS f n m) w) := by
  have HP := hide h
  have cT := l13Tones_any a n cap f hl w h
  have cI := l1In_any m 1 16 w
  have HPK := hide (@pkB_tones f n m)
  clear h
  cases hT : (decide (n ≤ 65536) && allG (fun k => inB (f k) 0 65535) n) with
  | false =>
    have HN : Hid (pkB f n m = false) := by
      show _ = _
      rw [Bool.eq_false_iff]; intro h9
      rw [hT] at HPK
      exact absurd (HPK.out h9).1 (by decide)
    rw [hT] at cT
    clear hT HPK cI
    go_enter Try.func6, Try.ntmps6
    go_wp2_with fail
    refine cT.mono ?_
    rintro e w1 ⟨rfl, rfl⟩
    clear cT
    go_wp2_with fail
    go_ret
    exact pk_no HN.out _ _ _ _ (bnew _ _)
  | true =>
    rw [hT] at cT
    cases hM : inB m 1 16 with
    | false =>
      have HN : Hid (pkB f n m = false) := by
        show _ = _
        rw [Bool.eq_false_iff]; intro h9
        rw [hM] at HPK
        exact absurd (HPK.out h9).2 (by decide)
      rw [hM] at cI
      clear hT hM HPK
      go_enter Try.func6, Try.ntmps6
      go_wp2_with fail
      refine cT.mono ?_
      rintro e w1 ⟨rfl, rfl⟩
      clear cT
      go_wp2_with fail
      refine cI.mono ?_
      rintro e w1 ⟨rfl, rfl⟩
      clear cI
      go_wp2_with fail
      go_ret
      exact pk_no HN.out _ _ _ _ (bnew _ _)
    | true =>
      rw [hM] at cI
      obtain ⟨M, rfl, hM1, hM2⟩ : ∃ M : Nat, m = M ∧ 1 ≤ M ∧ M ≤ 16 := by
        simp only [inB, Bool.and_eq_true, decide_eq_true_eq] at hM
        exact ⟨m.toNat, by omega, by omega, by omega⟩
      have hTT := hT
      simp only [Bool.and_eq_true, decide_eq_true_eq] at hTT
      have hn6 : n ≤ 65536 := hTT.1
      have HT := hide (allG_at hTT.2)
      have c2 := l13Two_any M (by omega)
      have hp : (2 : Int) ^ M ≤ 65536 := by
        have : (2 : Int) ^ M ≤ 2 ^ 16 := by exact_mod_cast Nat.pow_le_pow_right (by decide) hM2
        omega
      have hp0 := pow_pos2 M
      have HPD : Hid (pkB f n M = allG (fun k => inB (f k) 0 (2 ^ M - 1)) n) := by
        show _ = _
        unfold pkB
        rw [hM, decide_eq_true hn6, Int.toNat_natCast]
        rfl
      clear hT hM HPK hTT
      have HST : Hid ((w.alloc (.cells #[] 5)).ownsRow w.heap.size 5 1 (.slice (some ⟨w.heap.size, 0, none⟩) 0 0) 0 (bys [])) := World.ownsRow_lit w #[] 0 (Nat.le_refl _) (by unfold maxLen; omega) rfl
      have HW : Hid (Below w.heap.size w (w.alloc (.cells #[] 5))) := bnew _ _
      generalize hwa : w.alloc (.cells #[] 5) = wa at *
      have HSA : Hid (w.heap.size ≤ wa.heap.size) := HW.out.size
      go_enter Try.func6, Try.ntmps6
      go_wp2_with fail
      refine cT.mono ?_
      rintro e w1 ⟨rfl, rfl⟩
      clear cT
      go_wp2_with fail
      refine cI.mono ?_
      rintro e w1 ⟨rfl, rfl⟩
      clear cI
      go_wp2_with fail
      clear hwa
      go_loopw [5, 6, 7, 8] (fun v i _ _ wr => ∃ k : Nat, k ≤ n ∧ i = .int .i64 k ∧ wr.ownsRow w1.heap.size 5 1 v (k * M) (bys (tlB f M k)) ∧ Below w1.heap.size w1 wr ∧ Hid (allG (fun j => inB (f j) 0 (2 ^ M - 1)) k = true)) (fun _ i _ _ _ => n - (intOf i).toNat)
      case atStart => exact ⟨0, by omega, rfl, by rw [Nat.zero_mul]; exact HST.out, HW.out, hide rfl⟩
      case round =>
        obtain ⟨k, hk, rfl, ho, hb, HG⟩ := hrel
        have hkM : k * M ≤ 65536 * 16 := Nat.mul_le_mul (by omega) hM2
        by_cases hlt : k < n
        · obtain ⟨b, off, rfl, hz⟩ := (HP.out.below hb).at hlt
          have hv := HT.out k hlt
          simp only [inB, Bool.and_eq_true, decide_eq_true_eq] at hv
          have HO := hide ho
          have HB := hide hb
          by_cases hge : (2 : Int) ^ M ≤ f k
          · have HN : Hid (pkB f n M = false) := by
              show _ = _
              rw [HPD.out]
              refine allG_no k hlt ?_
              simp [inB]; omega
            clear HP HT HPD HST HW HSA HG HO ho hb
            generalize (2 : Int) ^ M = P at *
            go_wp2_with fail
            refine (c2 _).mono ?_
            rintro e w2 ⟨rfl, rfl⟩
            go_wp2_with fail
            go_ret
            exact pk_no HN.out _ _ _ _ (HB.out.alloc HB.out.size _)
          · have HG2 : Hid (allG (fun j => inB (f j) 0 (2 ^ M - 1)) (k + 1) = true) := by
              show _ = _
              simp only [allG]
              rw [HG.out]
              simp [inB]; omega
            clear HP HT HPD HST HW HSA HG ho hb
            generalize (2 : Int) ^ M = P at *
            go_wp2_with fail
            refine (c2 _).mono ?_
            rintro e w2 ⟨rfl, rfl⟩
            clear c2
            go_wp2_with fail
            have hf0 : 0 ≤ f k := hv.1
            have hf1 : f k ≤ 65535 := hv.2
            have HK : Hid (tlB f M (k + 1) = tlB f M k ++ bitK (f k) M) := rfl
            have hkm1 : k * M + M ≤ 1048576 := by
              have : (k + 1) * M ≤ 65536 * 16 := Nat.mul_le_mul (by omega) hM2
              rw [Nat.add_mul, Nat.one_mul] at this
              exact this
            have HKM : Hid ((k + 1) * M = k * M + M) := by show _ = _; rw [Nat.add_mul, Nat.one_mul]
            generalize tlB f M k = X at *
            generalize hkm : k * M = km at *
            clear hkm
            generalize hfk : f k = F at *
            go_loopw [5, 7, 8] (fun v x j wr => ∃ q : Nat, q ≤ M ∧ j = .int .i64 q ∧ x = .int .i64 (F / 2 ^ q) ∧ wr.ownsRow w1.heap.size 5 1 v (km + q) (bys (X ++ bitK F q)) ∧ Below w1.heap.size w1 wr) (fun _ _ j _ => M - (intOf j).toNat)
            case atStart => exact ⟨0, by omega, rfl, by congr 1; simp, by simpa [bitK, fl] using HO.out, HB.out⟩
            case round =>
              obtain ⟨q, hq, rfl, rfl, ho, hb⟩ := hrel
              by_cases hlq : q < M
              · have hx0 : 0 ≤ F / 2 ^ q := Int.ediv_nonneg hf0 (Int.le_of_lt (pow_pos2 q))
                have hx1 : F / 2 ^ q ≤ 65535 := Int.le_trans (Int.ediv_le_self _ hf0) hf1
                have HE : Hid (F / 2 ^ (q + 1) = F / 2 ^ q / 2) := by show _ = _; rw [Int.pow_succ, Int.ediv_ediv_of_nonneg (Int.le_of_lt (pow_pos2 q))]
                have HZ : Hid (X ++ bitK F (q + 1) = X ++ bitK F q ++ [F / 2 ^ q % 2]) := by show _ = _; rw [bitK_step, List.append_assoc]
                have HO2 := hide ho
                have HB2 := hide hb
                have HS2 := hide hb.size
                have hbw : IntKind.u8.wrap (F / 2 ^ q % 2) = F / 2 ^ q % 2 := by rw [IntKind.wrap_u8]; omega
                clear ho hb HO HB
                generalize hXq : X ++ bitK F q = Y at *
                generalize F / 2 ^ q = V at *
                clear hXq
                go_wp2_with (refine growU _ rfl _ _ rfl w1.heap.size _ (km + q) Y rfl w1 HO2.out HB2.out HS2.out [V % 2] 1 rfl rfl (by omega) ?_)
                intro v' w' ho hb hs
                have HO3 : Hid (w'.ownsRow w1.heap.size 5 1 v' (km + (q + 1)) (bys (X ++ bitK F (q + 1)))) := by show World.ownsRow _ _ _ _ _ _ _; rw [HZ.out]; exact ho
                have HB3 := hide hb
                clear ho hb hs HO2 HB2 HS2 HZ
                go_wp2
                go_roundw
                case rel => exact ⟨q + 1, by omega, by go_num, by rw [HE.out], HO3.out, HB3.out⟩
                case measure => simp [intOf]; omega
              · obtain rfl : q = M := by omega
                have HO2 := hide ho
                have HB2 := hide hb
                clear ho hb HO HB
                go_wp2
                go_roundw
                case rel => exact ⟨k + 1, by omega, by go_num, by rw [HK.out, HKM.out]; exact HO2.out, HB2.out, HG2⟩
                case measure => simp [intOf]; omega
        · obtain rfl : k = n := by omega
          obtain ⟨a2, cap2, b2, rfl, hu, hB2⟩ := own_u8 ho
          have hlen : (tlB f M k).length = k * M := tlB_len f M k
          have c8 := l13Bytes_any a2 (k * M) cap2 (tlB f M k) hlen.symm (by omega) (tlB_bits f M k) wr hu.pxU
          have HB := hide hb
          have HF : Hid (pkN f k M = nB (k * M) ∧ pkS f k M = byA (tlB f M k)) := by
            constructor
            · unfold pkN
              rw [HPD.out, HG.out, Int.toNat_natCast]
              rfl
            · unfold pkS
              rw [Int.toNat_natCast]
          clear ho hu hb HP HT HPD HST HW HSA HG hlen hB2
          generalize k * M = km at *
          generalize tlB f M k = X at *
          go_wp2_with fail
          refine c8.mono ?_
          rintro e w2 ⟨a3, cap3, b3, rfl, ho3, h3, hb3⟩
          have HR : Hid (LsU (nB km) (byA X) w1 (.returned (.slice a3 (nB km) cap3)) w2) := ⟨a3, cap3, b3, rfl, ho3, h3.imp id (Nat.le_trans HB.out.size), bnext HB.out (Nat.le_refl _) hb3⟩
          clear c8 ho3 h3 hb3
          go_wp2_with fail
          go_ret
          rw [HF.out.1, HF.out.2]
          exact HR.out

end Go.Proofs.Ytpjdoponjfnkjaa

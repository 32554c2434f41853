/- The name of signs: the specification. -/
import Derived.Test.YteadhhhhnihoaaaNmn
namespace Go.Proofs.Yteadhhhhnihoaaa
open Go.RowKit

theorem own_startU (w : World) (B : Nat) (hB : B ≤ w.heap.size) : (w.alloc (.cells #[] 5)).ownsRow B 5 1 (.slice (some ⟨w.heap.size, 0, none⟩) 0 0) 0 (bys []) := by
  refine ⟨rfl, .inr ⟨w.heap.size, 0, #[], rfl, hB, by show (w.heap.push _)[w.heap.size]? = _; exact Array.getElem?_push_size, by omega, by unfold maxLen; omega, rfl, by simp [bys]⟩⟩

set_option maxRecDepth 100000 in
set_option maxHeartbeats 4000000 in
theorem specNameOf_any (a : Option Addr) (len cap : Nat) (f : Nat → Int) (hl : len ≤ 1048576) (w : World) (h : Px a len f w) :
    Calls Try.prog 10 #[.slice a len cap] w fun e w' => e = .returned (.string (nmS (fl f len))) ∧ Below w.heap.size w w' := by
  have HP := hide h
  clear h
  by_cases hlong : 4096 < len
  · have hn := nmS_nil (L := fl f len) (nmA_long (by rw [fl_len]; exact hlong))
    rw [hn]
    go_enter Try.func10, Try.ntmps10
    go_wp2_with fail
    go_ret
    exact ⟨rfl, Below.refl _ _⟩
  · go_enter Try.func10, Try.ntmps10
    go_wp2_with fail
    go_loopw [3, 4, 5, 6] (fun nm sw i _ wr => ∃ k : Nat, k ≤ len ∧ i = .int .i64 k ∧ (∀ j, j < k → tell (f j) = true) ∧ sw = .bool (nst (fl f k)).1 ∧ wr.ownsRow w.heap.size 5 1 nm (nst (fl f k)).2.length (bys (nst (fl f k)).2) ∧ Below w.heap.size w wr) (fun _ _ i _ _ => len - (intOf i).toNat)
    case atStart => exact ⟨0, by omega, rfl, fun j hj => by omega, rfl, own_startU w w.heap.size (Nat.le_refl _), bnew _ _⟩
    case round =>
      obtain ⟨k, hk, rfl, ht, rfl, ho, hb⟩ := hrel
      have HT := hide ht
      have hX := nst_len (fl f k)
      rw [fl_len] at hX
      have hS : nst (fl f (k + 1)) = nst1 (nst (fl f k)) (f k) := nst_snoc _ _
      clear ht
      by_cases hlt : k < len
      · obtain ⟨ba, off, rfl, hz⟩ := (HP.out.below hb).at hlt
        cases htl : tell (f k) with
        | false =>
          have hn := nmS_nil (L := fl f len) (nmA_bad (k := k) (by rw [fl_len]; exact hlt) (by rw [fl_at f len k hlt]; exact htl))
          have htt : ¬ (f k ≠ 27 ∧ 0 ≤ f k ∧ f k ≤ 1114111 ∧ ¬ (55296 ≤ f k ∧ f k ≤ 57343)) := of_decide_eq_false htl
          have HN := hide hn
          have HB := hide hb
          clear ho hb HP HT hX hS hn htl
          generalize f k = V at *
          by_cases b1 : V = 27
          · subst b1
            go_wp2_with fail
            go_ret
            exact ⟨by rw [HN.out]; rfl, HB.out⟩
          · have q1 : (V == 27) = false := by simpa using b1
            by_cases b2 : V < 0
            · go_wp2_with fail
              go_ret
              exact ⟨by rw [HN.out]; rfl, HB.out⟩
            · by_cases b3 : 1114111 < V
              · go_wp2_with fail
                go_ret
                exact ⟨by rw [HN.out]; rfl, HB.out⟩
              · have b4 : 55296 ≤ V := by omega
                have b5 : V ≤ 57343 := by omega
                clear htt
                go_wp2_with fail
                go_ret
                exact ⟨by rw [HN.out]; rfl, HB.out⟩
        | true =>
          have htt : f k ≠ 27 ∧ 0 ≤ f k ∧ f k ≤ 1114111 ∧ ¬ (55296 ≤ f k ∧ f k ≤ 57343) := of_decide_eq_true htl
          have HT2 : Hid (∀ j, j < k + 1 → tell (f j) = true) := fun j hj => by
            by_cases e : j = k
            · rw [e]; exact htl
            · exact HT.out j (by omega)
          have HS := hide hb.size
          have HO := hide ho
          have HB := hide hb
          have HX := hide hX
          have HS1 := hide hS
          clear ho hb HT hX htl hS
          obtain ⟨sw, hsw⟩ : ∃ sw, sw = (nst (fl f k)).1 := ⟨_, rfl⟩
          obtain ⟨X, hX⟩ : ∃ X, X = (nst (fl f k)).2 := ⟨_, rfl⟩
          have e0 : nst (fl f k) = (sw, X) := by rw [hsw, hX]
          rw [← hX] at HO HX
          rw [e0] at HS1
          rw [← hsw]
          clear hsw hX
          generalize hV : f k = V at *
          have hXL : Hid (X.length ≤ 24576) := by
            have := HX.out
            show _ ≤ _
            omega
          clear HX
          have q1 : (V == 27) = false := by simpa using htt.1
          have q4 : V.tdiv 64 = V / 64 := Int.tdiv_eq_ediv_of_nonneg htt.2.1
          have q5 : V.tdiv 4096 = V / 4096 := Int.tdiv_eq_ediv_of_nonneg htt.2.1
          have q6 : V.tdiv 262144 = V / 262144 := Int.tdiv_eq_ediv_of_nonneg htt.2.1
          have q7 : V.tmod 64 = V % 64 := Int.tmod_eq_emod_of_nonneg htt.2.1
          have q8 : (V / 64).tmod 64 = V / 64 % 64 := Int.tmod_eq_emod_of_nonneg (by omega)
          have q9 : (V / 4096).tmod 64 = V / 4096 % 64 := Int.tmod_eq_emod_of_nonneg (by omega)
          by_cases hge : 128 ≤ V
          · have HG : Hid (decide (128 ≤ V) = true) := decide_eq_true hge
            have HG1 := hide hge
            cases sw with
            | false =>
              by_cases r0 : V < 2048
              · have HE := hide (Lib.encodeRuneZ_two (r := V) hge (by omega))
                have u0 : IntKind.u8.wrap (192 + V / 64) = 192 + V / 64 := by simp [IntKind.wrap, IntKind.signed, IntKind.bits]; omega
                have u1 : IntKind.u8.wrap (128 + V % 64) = 128 + V % 64 := by simp [IntKind.wrap, IntKind.signed, IntKind.bits]; omega
                have N0 : Hid (X.length + 2 ≤ 1048576) := by have := hXL.out; show _ ≤ _; omega
                go_wp2_with (refine growU _ rfl _ _ rfl w.heap.size _ X.length X rfl w HO.out HB.out HS.out [27, 50] 2 rfl rfl N0.out ?_)
                intro v1 w1 ho1 hb1 hs1
                have HO1 := hide ho1
                have HB1 := hide hb1
                have HS1' := hide hb1.size
                clear ho1 hb1 hs1 HO HB HS
                have N1 : Hid ((X.length + 2) + 1 ≤ 1048576) := by have := hXL.out; show _ ≤ _; omega
                have N2 : Hid ((X.length + 2) + 1 + 1 ≤ 1048576) := by have := hXL.out; show _ ≤ _; omega
                go_wp2_with (refine growU _ rfl _ _ rfl w.heap.size _ (X.length + 2) (X ++ [27, 50]) rfl w HO1.out HB1.out HS1'.out [192 + V / 64] 1 rfl rfl N1.out ?_)
                intro v2 w2 ho2 hb2 hs2
                have HO2 := hide ho2
                have HB2 := hide hb2
                have HS2 := hide hb2.size
                clear ho2 hb2 hs2 HO1 HB1 HS1'
                go_wp2_with (refine growU _ rfl _ _ rfl w.heap.size _ ((X.length + 2) + 1) (X ++ [27, 50, 192 + V / 64]) rfl w HO2.out HB2.out HS2.out [128 + V % 64] 1 rfl rfl N2.out ?_)
                intro v3 w3 ho3 hb3 hs3
                have HO3 := hide ho3
                have HB3 := hide hb3
                clear ho3 hb3 hs3 HO2 HB2 HS2
                go_wp2_with fail
                refine ⟨⟨k + 1, by omega, rfl, HT2.out, ?_, ?_, HB3.out⟩, by simp [intOf]; omega⟩
                · rw [HS1.out]; unfold nst1; rw [HG.out]; simp
                · have e : nst1 (false, X) V = (true, X ++ [27, 50, 192 + V / 64, 128 + V % 64]) := by unfold nst1; rw [HG.out, HE.out]; simp [HG1.out]
                  have el : (X ++ [27, 50, 192 + V / 64, 128 + V % 64]).length = (X.length + 2) + 1 + 1 := by rw [List.length_append]; rfl
                  rw [HS1.out, e, el]
                  exact HO3.out
              · skip
                by_cases r1 : V < 55296
                · have HE := hide (Lib.encodeRuneZ_three (r := V) (by omega))
                  have u0 : IntKind.u8.wrap (224 + V / 4096) = 224 + V / 4096 := by simp [IntKind.wrap, IntKind.signed, IntKind.bits]; omega
                  have u1 : IntKind.u8.wrap (128 + V / 64 % 64) = 128 + V / 64 % 64 := by simp [IntKind.wrap, IntKind.signed, IntKind.bits]; omega
                  have u2 : IntKind.u8.wrap (128 + V % 64) = 128 + V % 64 := by simp [IntKind.wrap, IntKind.signed, IntKind.bits]; omega
                  have N0 : Hid (X.length + 2 ≤ 1048576) := by have := hXL.out; show _ ≤ _; omega
                  go_wp2_with (refine growU _ rfl _ _ rfl w.heap.size _ X.length X rfl w HO.out HB.out HS.out [27, 50] 2 rfl rfl N0.out ?_)
                  intro v1 w1 ho1 hb1 hs1
                  have HO1 := hide ho1
                  have HB1 := hide hb1
                  have HS1' := hide hb1.size
                  clear ho1 hb1 hs1 HO HB HS
                  have N1 : Hid ((X.length + 2) + 2 ≤ 1048576) := by have := hXL.out; show _ ≤ _; omega
                  have N2 : Hid ((X.length + 2) + 2 + 1 ≤ 1048576) := by have := hXL.out; show _ ≤ _; omega
                  go_wp2_with (refine growU _ rfl _ _ rfl w.heap.size _ (X.length + 2) (X ++ [27, 50]) rfl w HO1.out HB1.out HS1'.out [224 + V / 4096, 128 + V / 64 % 64] 2 rfl rfl N1.out ?_)
                  intro v2 w2 ho2 hb2 hs2
                  have HO2 := hide ho2
                  have HB2 := hide hb2
                  have HS2 := hide hb2.size
                  clear ho2 hb2 hs2 HO1 HB1 HS1'
                  go_wp2_with (refine growU _ rfl _ _ rfl w.heap.size _ ((X.length + 2) + 2) (X ++ [27, 50, 224 + V / 4096, 128 + V / 64 % 64]) rfl w HO2.out HB2.out HS2.out [128 + V % 64] 1 rfl rfl N2.out ?_)
                  intro v3 w3 ho3 hb3 hs3
                  have HO3 := hide ho3
                  have HB3 := hide hb3
                  clear ho3 hb3 hs3 HO2 HB2 HS2
                  go_wp2_with fail
                  refine ⟨⟨k + 1, by omega, rfl, HT2.out, ?_, ?_, HB3.out⟩, by simp [intOf]; omega⟩
                  · rw [HS1.out]; unfold nst1; rw [HG.out]; simp
                  · have e : nst1 (false, X) V = (true, X ++ [27, 50, 224 + V / 4096, 128 + V / 64 % 64, 128 + V % 64]) := by unfold nst1; rw [HG.out, HE.out]; simp [HG1.out]
                    have el : (X ++ [27, 50, 224 + V / 4096, 128 + V / 64 % 64, 128 + V % 64]).length = (X.length + 2) + 2 + 1 := by rw [List.length_append]; rfl
                    rw [HS1.out, e, el]
                    exact HO3.out
                · skip
                  by_cases r2 : V < 65536
                  · have HE := hide (Lib.encodeRuneZ_three (r := V) (by omega))
                    have h57 : 57343 < V := by omega
                    have u0 : IntKind.u8.wrap (224 + V / 4096) = 224 + V / 4096 := by simp [IntKind.wrap, IntKind.signed, IntKind.bits]; omega
                    have u1 : IntKind.u8.wrap (128 + V / 64 % 64) = 128 + V / 64 % 64 := by simp [IntKind.wrap, IntKind.signed, IntKind.bits]; omega
                    have u2 : IntKind.u8.wrap (128 + V % 64) = 128 + V % 64 := by simp [IntKind.wrap, IntKind.signed, IntKind.bits]; omega
                    have N0 : Hid (X.length + 2 ≤ 1048576) := by have := hXL.out; show _ ≤ _; omega
                    go_wp2_with (refine growU _ rfl _ _ rfl w.heap.size _ X.length X rfl w HO.out HB.out HS.out [27, 50] 2 rfl rfl N0.out ?_)
                    intro v1 w1 ho1 hb1 hs1
                    have HO1 := hide ho1
                    have HB1 := hide hb1
                    have HS1' := hide hb1.size
                    clear ho1 hb1 hs1 HO HB HS
                    have N1 : Hid ((X.length + 2) + 2 ≤ 1048576) := by have := hXL.out; show _ ≤ _; omega
                    have N2 : Hid ((X.length + 2) + 2 + 1 ≤ 1048576) := by have := hXL.out; show _ ≤ _; omega
                    go_wp2_with (refine growU _ rfl _ _ rfl w.heap.size _ (X.length + 2) (X ++ [27, 50]) rfl w HO1.out HB1.out HS1'.out [224 + V / 4096, 128 + V / 64 % 64] 2 rfl rfl N1.out ?_)
                    intro v2 w2 ho2 hb2 hs2
                    have HO2 := hide ho2
                    have HB2 := hide hb2
                    have HS2 := hide hb2.size
                    clear ho2 hb2 hs2 HO1 HB1 HS1'
                    go_wp2_with (refine growU _ rfl _ _ rfl w.heap.size _ ((X.length + 2) + 2) (X ++ [27, 50, 224 + V / 4096, 128 + V / 64 % 64]) rfl w HO2.out HB2.out HS2.out [128 + V % 64] 1 rfl rfl N2.out ?_)
                    intro v3 w3 ho3 hb3 hs3
                    have HO3 := hide ho3
                    have HB3 := hide hb3
                    clear ho3 hb3 hs3 HO2 HB2 HS2
                    go_wp2_with fail
                    refine ⟨⟨k + 1, by omega, rfl, HT2.out, ?_, ?_, HB3.out⟩, by simp [intOf]; omega⟩
                    · rw [HS1.out]; unfold nst1; rw [HG.out]; simp
                    · have e : nst1 (false, X) V = (true, X ++ [27, 50, 224 + V / 4096, 128 + V / 64 % 64, 128 + V % 64]) := by unfold nst1; rw [HG.out, HE.out]; simp [HG1.out]
                      have el : (X ++ [27, 50, 224 + V / 4096, 128 + V / 64 % 64, 128 + V % 64]).length = (X.length + 2) + 2 + 1 := by rw [List.length_append]; rfl
                      rw [HS1.out, e, el]
                      exact HO3.out
                  · skip
                    have HE := hide (Lib.encodeRuneZ_four (r := V) (by omega) htt.2.2.1)
                    have h57 : 57343 < V := by omega
                    have h65 : ¬ V < 65536 := by omega
                    have u0 : IntKind.u8.wrap (240 + V / 262144) = 240 + V / 262144 := by simp [IntKind.wrap, IntKind.signed, IntKind.bits]; omega
                    have u1 : IntKind.u8.wrap (128 + V / 4096 % 64) = 128 + V / 4096 % 64 := by simp [IntKind.wrap, IntKind.signed, IntKind.bits]; omega
                    have u2 : IntKind.u8.wrap (128 + V / 64 % 64) = 128 + V / 64 % 64 := by simp [IntKind.wrap, IntKind.signed, IntKind.bits]; omega
                    have u3 : IntKind.u8.wrap (128 + V % 64) = 128 + V % 64 := by simp [IntKind.wrap, IntKind.signed, IntKind.bits]; omega
                    have N0 : Hid (X.length + 2 ≤ 1048576) := by have := hXL.out; show _ ≤ _; omega
                    go_wp2_with (refine growU _ rfl _ _ rfl w.heap.size _ X.length X rfl w HO.out HB.out HS.out [27, 50] 2 rfl rfl N0.out ?_)
                    intro v1 w1 ho1 hb1 hs1
                    have HO1 := hide ho1
                    have HB1 := hide hb1
                    have HS1' := hide hb1.size
                    clear ho1 hb1 hs1 HO HB HS
                    have N1 : Hid ((X.length + 2) + 3 ≤ 1048576) := by have := hXL.out; show _ ≤ _; omega
                    have N2 : Hid ((X.length + 2) + 3 + 1 ≤ 1048576) := by have := hXL.out; show _ ≤ _; omega
                    go_wp2_with (refine growU _ rfl _ _ rfl w.heap.size _ (X.length + 2) (X ++ [27, 50]) rfl w HO1.out HB1.out HS1'.out [240 + V / 262144, 128 + V / 4096 % 64, 128 + V / 64 % 64] 3 rfl rfl N1.out ?_)
                    intro v2 w2 ho2 hb2 hs2
                    have HO2 := hide ho2
                    have HB2 := hide hb2
                    have HS2 := hide hb2.size
                    clear ho2 hb2 hs2 HO1 HB1 HS1'
                    go_wp2_with (refine growU _ rfl _ _ rfl w.heap.size _ ((X.length + 2) + 3) (X ++ [27, 50, 240 + V / 262144, 128 + V / 4096 % 64, 128 + V / 64 % 64]) rfl w HO2.out HB2.out HS2.out [128 + V % 64] 1 rfl rfl N2.out ?_)
                    intro v3 w3 ho3 hb3 hs3
                    have HO3 := hide ho3
                    have HB3 := hide hb3
                    clear ho3 hb3 hs3 HO2 HB2 HS2
                    go_wp2_with fail
                    refine ⟨⟨k + 1, by omega, rfl, HT2.out, ?_, ?_, HB3.out⟩, by simp [intOf]; omega⟩
                    · rw [HS1.out]; unfold nst1; rw [HG.out]; simp
                    · have e : nst1 (false, X) V = (true, X ++ [27, 50, 240 + V / 262144, 128 + V / 4096 % 64, 128 + V / 64 % 64, 128 + V % 64]) := by unfold nst1; rw [HG.out, HE.out]; simp [HG1.out]
                      have el : (X ++ [27, 50, 240 + V / 262144, 128 + V / 4096 % 64, 128 + V / 64 % 64, 128 + V % 64]).length = (X.length + 2) + 3 + 1 := by rw [List.length_append]; rfl
                      rw [HS1.out, e, el]
                      exact HO3.out
            | true =>
              by_cases r0 : V < 2048
              · have HE := hide (Lib.encodeRuneZ_two (r := V) hge (by omega))
                have u0 : IntKind.u8.wrap (192 + V / 64) = 192 + V / 64 := by simp [IntKind.wrap, IntKind.signed, IntKind.bits]; omega
                have u1 : IntKind.u8.wrap (128 + V % 64) = 128 + V % 64 := by simp [IntKind.wrap, IntKind.signed, IntKind.bits]; omega
                have HO1 := HO
                have HB1 := HB
                have HS1' := HS
                clear HO HB HS
                have N1 : Hid (X.length + 1 ≤ 1048576) := by have := hXL.out; show _ ≤ _; omega
                have N2 : Hid (X.length + 1 + 1 ≤ 1048576) := by have := hXL.out; show _ ≤ _; omega
                go_wp2_with (refine growU _ rfl _ _ rfl w.heap.size _ X.length X rfl w HO1.out HB1.out HS1'.out [192 + V / 64] 1 rfl rfl N1.out ?_)
                intro v2 w2 ho2 hb2 hs2
                have HO2 := hide ho2
                have HB2 := hide hb2
                have HS2 := hide hb2.size
                clear ho2 hb2 hs2 HO1 HB1 HS1'
                go_wp2_with (refine growU _ rfl _ _ rfl w.heap.size _ (X.length + 1) (X ++ [192 + V / 64]) rfl w HO2.out HB2.out HS2.out [128 + V % 64] 1 rfl rfl N2.out ?_)
                intro v3 w3 ho3 hb3 hs3
                have HO3 := hide ho3
                have HB3 := hide hb3
                clear ho3 hb3 hs3 HO2 HB2 HS2
                go_wp2_with fail
                refine ⟨⟨k + 1, by omega, rfl, HT2.out, ?_, ?_, HB3.out⟩, by simp [intOf]; omega⟩
                · rw [HS1.out]; unfold nst1; rw [HG.out]; simp
                · have e : nst1 (true, X) V = (true, X ++ [192 + V / 64, 128 + V % 64]) := by unfold nst1; rw [HG.out, HE.out]; simp [HG1.out]
                  have el : (X ++ [192 + V / 64, 128 + V % 64]).length = X.length + 1 + 1 := by rw [List.length_append]; rfl
                  rw [HS1.out, e, el]
                  exact HO3.out
              · skip
                by_cases r1 : V < 55296
                · have HE := hide (Lib.encodeRuneZ_three (r := V) (by omega))
                  have u0 : IntKind.u8.wrap (224 + V / 4096) = 224 + V / 4096 := by simp [IntKind.wrap, IntKind.signed, IntKind.bits]; omega
                  have u1 : IntKind.u8.wrap (128 + V / 64 % 64) = 128 + V / 64 % 64 := by simp [IntKind.wrap, IntKind.signed, IntKind.bits]; omega
                  have u2 : IntKind.u8.wrap (128 + V % 64) = 128 + V % 64 := by simp [IntKind.wrap, IntKind.signed, IntKind.bits]; omega
                  have HO1 := HO
                  have HB1 := HB
                  have HS1' := HS
                  clear HO HB HS
                  have N1 : Hid (X.length + 2 ≤ 1048576) := by have := hXL.out; show _ ≤ _; omega
                  have N2 : Hid (X.length + 2 + 1 ≤ 1048576) := by have := hXL.out; show _ ≤ _; omega
                  go_wp2_with (refine growU _ rfl _ _ rfl w.heap.size _ X.length X rfl w HO1.out HB1.out HS1'.out [224 + V / 4096, 128 + V / 64 % 64] 2 rfl rfl N1.out ?_)
                  intro v2 w2 ho2 hb2 hs2
                  have HO2 := hide ho2
                  have HB2 := hide hb2
                  have HS2 := hide hb2.size
                  clear ho2 hb2 hs2 HO1 HB1 HS1'
                  go_wp2_with (refine growU _ rfl _ _ rfl w.heap.size _ (X.length + 2) (X ++ [224 + V / 4096, 128 + V / 64 % 64]) rfl w HO2.out HB2.out HS2.out [128 + V % 64] 1 rfl rfl N2.out ?_)
                  intro v3 w3 ho3 hb3 hs3
                  have HO3 := hide ho3
                  have HB3 := hide hb3
                  clear ho3 hb3 hs3 HO2 HB2 HS2
                  go_wp2_with fail
                  refine ⟨⟨k + 1, by omega, rfl, HT2.out, ?_, ?_, HB3.out⟩, by simp [intOf]; omega⟩
                  · rw [HS1.out]; unfold nst1; rw [HG.out]; simp
                  · have e : nst1 (true, X) V = (true, X ++ [224 + V / 4096, 128 + V / 64 % 64, 128 + V % 64]) := by unfold nst1; rw [HG.out, HE.out]; simp [HG1.out]
                    have el : (X ++ [224 + V / 4096, 128 + V / 64 % 64, 128 + V % 64]).length = X.length + 2 + 1 := by rw [List.length_append]; rfl
                    rw [HS1.out, e, el]
                    exact HO3.out
                · skip
                  by_cases r2 : V < 65536
                  · have HE := hide (Lib.encodeRuneZ_three (r := V) (by omega))
                    have h57 : 57343 < V := by omega
                    have u0 : IntKind.u8.wrap (224 + V / 4096) = 224 + V / 4096 := by simp [IntKind.wrap, IntKind.signed, IntKind.bits]; omega
                    have u1 : IntKind.u8.wrap (128 + V / 64 % 64) = 128 + V / 64 % 64 := by simp [IntKind.wrap, IntKind.signed, IntKind.bits]; omega
                    have u2 : IntKind.u8.wrap (128 + V % 64) = 128 + V % 64 := by simp [IntKind.wrap, IntKind.signed, IntKind.bits]; omega
                    have HO1 := HO
                    have HB1 := HB
                    have HS1' := HS
                    clear HO HB HS
                    have N1 : Hid (X.length + 2 ≤ 1048576) := by have := hXL.out; show _ ≤ _; omega
                    have N2 : Hid (X.length + 2 + 1 ≤ 1048576) := by have := hXL.out; show _ ≤ _; omega
                    go_wp2_with (refine growU _ rfl _ _ rfl w.heap.size _ X.length X rfl w HO1.out HB1.out HS1'.out [224 + V / 4096, 128 + V / 64 % 64] 2 rfl rfl N1.out ?_)
                    intro v2 w2 ho2 hb2 hs2
                    have HO2 := hide ho2
                    have HB2 := hide hb2
                    have HS2 := hide hb2.size
                    clear ho2 hb2 hs2 HO1 HB1 HS1'
                    go_wp2_with (refine growU _ rfl _ _ rfl w.heap.size _ (X.length + 2) (X ++ [224 + V / 4096, 128 + V / 64 % 64]) rfl w HO2.out HB2.out HS2.out [128 + V % 64] 1 rfl rfl N2.out ?_)
                    intro v3 w3 ho3 hb3 hs3
                    have HO3 := hide ho3
                    have HB3 := hide hb3
                    clear ho3 hb3 hs3 HO2 HB2 HS2
                    go_wp2_with fail
                    refine ⟨⟨k + 1, by omega, rfl, HT2.out, ?_, ?_, HB3.out⟩, by simp [intOf]; omega⟩
                    · rw [HS1.out]; unfold nst1; rw [HG.out]; simp
                    · have e : nst1 (true, X) V = (true, X ++ [224 + V / 4096, 128 + V / 64 % 64, 128 + V % 64]) := by unfold nst1; rw [HG.out, HE.out]; simp [HG1.out]
                      have el : (X ++ [224 + V / 4096, 128 + V / 64 % 64, 128 + V % 64]).length = X.length + 2 + 1 := by rw [List.length_append]; rfl
                      rw [HS1.out, e, el]
                      exact HO3.out
                  · skip
                    have HE := hide (Lib.encodeRuneZ_four (r := V) (by omega) htt.2.2.1)
                    have h57 : 57343 < V := by omega
                    have h65 : ¬ V < 65536 := by omega
                    have u0 : IntKind.u8.wrap (240 + V / 262144) = 240 + V / 262144 := by simp [IntKind.wrap, IntKind.signed, IntKind.bits]; omega
                    have u1 : IntKind.u8.wrap (128 + V / 4096 % 64) = 128 + V / 4096 % 64 := by simp [IntKind.wrap, IntKind.signed, IntKind.bits]; omega
                    have u2 : IntKind.u8.wrap (128 + V / 64 % 64) = 128 + V / 64 % 64 := by simp [IntKind.wrap, IntKind.signed, IntKind.bits]; omega
                    have u3 : IntKind.u8.wrap (128 + V % 64) = 128 + V % 64 := by simp [IntKind.wrap, IntKind.signed, IntKind.bits]; omega
                    have HO1 := HO
                    have HB1 := HB
                    have HS1' := HS
                    clear HO HB HS
                    have N1 : Hid (X.length + 3 ≤ 1048576) := by have := hXL.out; show _ ≤ _; omega
                    have N2 : Hid (X.length + 3 + 1 ≤ 1048576) := by have := hXL.out; show _ ≤ _; omega
                    go_wp2_with (refine growU _ rfl _ _ rfl w.heap.size _ X.length X rfl w HO1.out HB1.out HS1'.out [240 + V / 262144, 128 + V / 4096 % 64, 128 + V / 64 % 64] 3 rfl rfl N1.out ?_)
                    intro v2 w2 ho2 hb2 hs2
                    have HO2 := hide ho2
                    have HB2 := hide hb2
                    have HS2 := hide hb2.size
                    clear ho2 hb2 hs2 HO1 HB1 HS1'
                    go_wp2_with (refine growU _ rfl _ _ rfl w.heap.size _ (X.length + 3) (X ++ [240 + V / 262144, 128 + V / 4096 % 64, 128 + V / 64 % 64]) rfl w HO2.out HB2.out HS2.out [128 + V % 64] 1 rfl rfl N2.out ?_)
                    intro v3 w3 ho3 hb3 hs3
                    have HO3 := hide ho3
                    have HB3 := hide hb3
                    clear ho3 hb3 hs3 HO2 HB2 HS2
                    go_wp2_with fail
                    refine ⟨⟨k + 1, by omega, rfl, HT2.out, ?_, ?_, HB3.out⟩, by simp [intOf]; omega⟩
                    · rw [HS1.out]; unfold nst1; rw [HG.out]; simp
                    · have e : nst1 (true, X) V = (true, X ++ [240 + V / 262144, 128 + V / 4096 % 64, 128 + V / 64 % 64, 128 + V % 64]) := by unfold nst1; rw [HG.out, HE.out]; simp [HG1.out]
                      have el : (X ++ [240 + V / 262144, 128 + V / 4096 % 64, 128 + V / 64 % 64, 128 + V % 64]).length = X.length + 3 + 1 := by rw [List.length_append]; rfl
                      rw [HS1.out, e, el]
                      exact HO3.out
          · have HG : Hid (decide (128 ≤ V) = false) := decide_eq_false hge
            have HE := hide (Lib.encodeRuneZ_one (r := V) htt.2.1 (by omega))
            have u0 : IntKind.u8.wrap V = V := by simp [IntKind.wrap, IntKind.signed, IntKind.bits]; omega
            have N0 : Hid (X.length + 1 ≤ 1048576) := by have := hXL.out; show _ ≤ _; omega
            go_wp2_with (refine growU _ rfl _ _ rfl w.heap.size _ X.length X rfl w HO.out HB.out HS.out [V] 1 rfl rfl N0.out ?_)
            intro v1 w1 ho1 hb1 hs1
            have HO1 := hide ho1
            have HB1 := hide hb1
            clear ho1 hb1 hs1 HO HB HS
            go_wp2_with fail
            refine ⟨⟨k + 1, by omega, rfl, HT2.out, ?_, ?_, HB1.out⟩, by simp [intOf]; omega⟩
            · rw [HS1.out]; unfold nst1; rw [HG.out, Bool.or_false]
            · have e : nst1 (sw, X) V = (sw, X ++ [V]) := by
                unfold nst1
                rw [if_neg (by omega), HG.out, HE.out, Bool.or_false, List.append_nil]
              rw [HS1.out, e, List.length_append]
              exact HO1.out
      · obtain rfl : k = len := by omega
        have hA := nmA_all (L := fl f k) (by rw [fl_len]; omega) (fun j hj => by rw [fl_len] at hj; rw [fl_at f k j hj]; exact HT.out j hj)
        obtain ⟨a', cap', rfl, hcv⟩ := text_own ho rfl
        have hcv' := hcv wr (fun _ _ => rfl)
        have HB := hide hb
        clear hS HT hcv ho hb HP
        have HA := hide hA
        clear hA
        by_cases hbig : 4096 < (nst (fl f k)).2.length
        · have HE : Hid (nmS (fl f k) = ⟨#[]⟩) := nmS_nil (HA.out.trans (if_pos hbig))
          clear HA
          generalize (nst (fl f k)).2 = X at *
          go_wp2_with fail
          go_ret
          exact ⟨by rw [HE.out]; rfl, HB.out⟩
        · have HE : Hid (nmS (fl f k) = strOfNums (nst (fl f k)).2) := congrArg strOfNums (HA.out.trans (if_neg hbig))
          clear HA
          generalize (nst (fl f k)).2 = X at *
          go_wp2_with fail
          go_ret
          exact ⟨by rw [HE.out]; rfl, HB.out⟩

end Go.Proofs.Yteadhhhhnihoaaa

/- The name of signs: the program. -/
import Derived.Test.YteadhhhhnihoaaaNmn
import Derived.Test.YteadhhhhnihoaaaShf
namespace Go.Proofs.Yteadhhhhnihoaaa
open Go.RowKit

theorem canBeTold_any (v : Int) (w : World) : Calls Try.prog 29 #[.int .i64 v] w fun e w' => e = .returned (.bool (tell v)) ∧ w' = w := by
  have c1 := fun w' => within_any v 0 1114111 w'
  have c2 := fun w' => validRune_any v w'
  by_cases h : 0 ≤ v ∧ v ≤ 1114111
  · have e1 : inB v 0 1114111 = true := by simp [inB]; omega
    have e2 : IntKind.i32.wrap v = v := by simp [IntKind.wrap, IntKind.signed, IntKind.bits]; omega
    rw [e1] at c1
    by_cases hs : 55296 ≤ v ∧ v ≤ 57343
    · have e3 : Lib.validRune v = false := by unfold Lib.validRune; exact decide_eq_false (by omega)
      have e4 : tell v = false := by unfold tell; exact decide_eq_false (by omega)
      rw [e3] at c2
      rw [e4]
      go_enter Try.func29, Try.ntmps29
      go_wp2_with fail
      refine (c1 _).mono ?_
      rintro _ _ ⟨rfl, rfl⟩
      go_wp2_with fail
      refine (c2 _).mono ?_
      rintro _ _ ⟨rfl, rfl⟩
      go_wp2_with fail
      go_ret
      exact ⟨rfl, rfl⟩
    · have e3 : Lib.validRune v = true := by unfold Lib.validRune; exact decide_eq_true (by omega)
      have e4 : (v != 27) = tell v := by
        unfold tell
        by_cases h27 : v = 27
        · rw [decide_eq_false (by omega)]; simp [h27]
        · rw [decide_eq_true (by omega)]; simp [h27]
      rw [e3] at c2
      go_enter Try.func29, Try.ntmps29
      go_wp2_with fail
      refine (c1 _).mono ?_
      rintro _ _ ⟨rfl, rfl⟩
      go_wp2_with fail
      refine (c2 _).mono ?_
      rintro _ _ ⟨rfl, rfl⟩
      go_wp2_with fail
      go_ret
      exact ⟨rfl, rfl⟩
  · have e1 : inB v 0 1114111 = false := by simp [inB]; omega
    have e4 : tell v = false := by unfold tell; exact decide_eq_false (by omega)
    rw [e1] at c1
    rw [e4]
    go_enter Try.func29, Try.ntmps29
    go_wp2_with fail
    refine (c1 _).mono ?_
    rintro _ _ ⟨rfl, rfl⟩
    go_wp2_with fail
    go_ret
    exact ⟨rfl, rfl⟩

set_option maxRecDepth 100000 in
set_option maxHeartbeats 2000000 in
theorem implNameOf_any (a : Option Addr) (len cap : Nat) (f : Nat → Int) (hl : len ≤ 1048576) (w : World) (h : Px a len f w) :
    Calls Try.prog 11 #[.slice a len cap] w fun e w' => e = .returned (.string (nmS (fl f len))) ∧ Below w.heap.size w w' := by
  have HP := hide h
  clear h
  by_cases hlong : 4096 < len
  · have hn := nmS_nil (L := fl f len) (nmA_long (by rw [fl_len]; exact hlong))
    rw [hn]
    go_enter Try.func11, Try.ntmps11
    go_wp2_with fail
    go_ret
    exact ⟨rfl, Below.refl _ _⟩
  · go_enter Try.func11, Try.ntmps11
    go_wp2_with fail
    go_loopw [3, 4, 6, 12] (fun nm sw _ i wr => ∃ k : Nat, k ≤ len ∧ i = .int .i64 k ∧ (∀ j, j < k → tell (f j) = true) ∧ sw = .bool (nst (fl f k)).1 ∧ wr.ownsRow w.heap.size 5 1 nm (nst (fl f k)).2.length (bys (nst (fl f k)).2) ∧ Below w.heap.size w wr) (fun _ _ _ i _ => len - (intOf i).toNat)
    case atStart => exact ⟨0, by omega, rfl, fun j hj => by omega, rfl, World.ownsRow_nil _ _ _ _, Below.refl _ _⟩
    case round =>
      obtain ⟨k, hk, rfl, ht, rfl, ho, hb⟩ := hrel
      have HT := hide ht
      have hX := nst_len (fl f k)
      rw [fl_len] at hX
      have hS : nst (fl f (k + 1)) = nst1 (nst (fl f k)) (f k) := nst_snoc _ _
      clear ht
      by_cases hlt : k < len
      · obtain ⟨ba, off, rfl, hz⟩ := (HP.out.below hb).at hlt
        have cT := fun w' => canBeTold_any (f k) w'
        cases htl : tell (f k) with
        | false =>
          have hn := nmS_nil (L := fl f len) (nmA_bad (k := k) (by rw [fl_len]; exact hlt) (by rw [fl_at f len k hlt]; exact htl))
          rw [htl] at cT
          have HN := hide hn
          have HB := hide hb
          clear ho hb HP HT hX hS hn
          go_wp2_with fail
          refine (cT _).mono ?_
          rintro _ _ ⟨rfl, rfl⟩
          go_wp2_with fail
          go_ret
          exact ⟨by rw [HN.out]; rfl, HB.out⟩
        | true =>
          rw [htl] at cT
          have htt : f k ≠ 27 ∧ 0 ≤ f k ∧ f k ≤ 1114111 ∧ ¬ (55296 ≤ f k ∧ f k ≤ 57343) := of_decide_eq_true htl
          have HT2 : Hid (∀ j, j < k + 1 → tell (f j) = true) := fun j hj => by
            by_cases e : j = k
            · rw [e]; exact htl
            · exact HT.out j (by omega)
          have w32 : IntKind.i32.wrap (f k) = f k := by simp [IntKind.wrap, IntKind.signed, IntKind.bits]; omega
          have cA := fun (v : Value) (n : Nat) (L : List Int) (w' : World) => appendRune_any w.heap.size v n L (f k) htt.2.1 htt.2.2.1 w'
          have HS := hide hb.size
          have HO := hide ho
          have HB := hide hb
          have HX := hide hX
          have HS1 := hide hS
          clear ho hb HT hX htl hS
          obtain ⟨sw, hsw⟩ : ∃ sw, sw = (nst (fl f k)).1 := ⟨_, rfl⟩
          obtain ⟨X, hX⟩ : ∃ X, X = (nst (fl f k)).2 := ⟨_, rfl⟩
          have e0 : nst (fl f k) = (sw, X) := by rw [hsw, hX]
          rw [← hX] at HO HX
          rw [e0] at HS1
          rw [← hsw]
          clear hsw hX
          generalize hV : f k = V at *
          have hXL : Hid (X.length ≤ 24576) := by
            have := HX.out
            show _ ≤ _
            omega
          clear HX
          by_cases hge : 128 ≤ V
          · cases sw with
            | false =>
              go_wp2_with fail
              refine (cT _).mono ?_
              rintro _ _ ⟨rfl, rfl⟩
              clear cT
              go_wp2_with (refine growU _ rfl _ _ rfl w.heap.size _ X.length X rfl w HO.out HB.out HS.out [27, 50] 2 rfl rfl (by have := hXL.out; omega) ?_)
              intro v' w' ho' hb' hs'
              have HO' := hide ho'
              have HB' := hide hb'
              clear ho' hb'
              have HS' := hide HB'.out.size
              go_wp2_with fail
              refine (cA v' _ _ _ HO'.out (by have := hXL.out; omega) HS'.out).mono ?_
              rintro e w'' ⟨v'', rfl, ho'', hb''⟩
              have HO2 := hide ho''
              have HB2 := hide (HB'.out.trans hb'')
              clear ho'' hb'' cA HO HB HO' HB'
              go_wp2_with fail
              refine ⟨⟨k + 1, by omega, rfl, HT2.out, ?_, ?_, HB2.out⟩, by simp [intOf]; omega⟩
              · rw [HS1.out]; simp [nst1, hge]
              · have e : nst1 (false, X) V = (true, (X ++ [27, 50]) ++ Lib.encodeRuneZ V) := by simp [nst1, hge]
                rw [HS1.out, e, List.length_append, List.length_append]
                exact HO2.out
            | true =>
              go_wp2_with fail
              refine (cT _).mono ?_
              rintro _ _ ⟨rfl, rfl⟩
              clear cT
              go_wp2_with fail
              refine (cA _ _ _ _ HO.out (by have := hXL.out; omega) HS.out).mono ?_
              rintro e w'' ⟨v'', rfl, ho'', hb''⟩
              have HO2 := hide ho''
              have HB2 := hide (HB.out.trans hb'')
              clear ho'' hb'' cA HO HB
              go_wp2_with fail
              refine ⟨⟨k + 1, by omega, rfl, HT2.out, ?_, ?_, HB2.out⟩, by simp [intOf]; omega⟩
              · rw [HS1.out]; simp [nst1]
              · have e : nst1 (true, X) V = (true, X ++ Lib.encodeRuneZ V) := by simp [nst1]
                rw [HS1.out, e, List.length_append]
                exact HO2.out
          · go_wp2_with fail
            refine (cT _).mono ?_
            rintro _ _ ⟨rfl, rfl⟩
            clear cT
            go_wp2_with fail
            refine (cA _ _ _ _ HO.out (by have := hXL.out; omega) HS.out).mono ?_
            rintro e w'' ⟨v'', rfl, ho'', hb''⟩
            have HO2 := hide ho''
            have HB2 := hide (HB.out.trans hb'')
            clear ho'' hb'' cA HO HB
            go_wp2_with fail
            refine ⟨⟨k + 1, by omega, rfl, HT2.out, ?_, ?_, HB2.out⟩, by simp [intOf]; omega⟩
            · rw [HS1.out]; unfold nst1; rw [decide_eq_false (show ¬ 128 ≤ V by omega), Bool.or_false]
            · have e : nst1 (sw, X) V = (sw, X ++ Lib.encodeRuneZ V) := by
                unfold nst1
                rw [if_neg (by omega), decide_eq_false (show ¬ 128 ≤ V by omega), Bool.or_false, List.append_nil]
              rw [HS1.out, e, List.length_append]
              exact HO2.out
      · obtain rfl : k = len := by omega
        have hA := nmA_all (L := fl f k) (by rw [fl_len]; omega) (fun j hj => by rw [fl_len] at hj; rw [fl_at f k j hj]; exact HT.out j hj)
        obtain ⟨a', cap', rfl, hcv⟩ := text_own ho rfl
        have hcv' := hcv wr (fun _ _ => rfl)
        have HB := hide hb
        clear hS HT hcv ho hb HP
        have HA := hide hA
        clear hA
        by_cases hbig : 4096 < (nst (fl f k)).2.length
        · have HE : Hid (nmS (fl f k) = ⟨#[]⟩) := nmS_nil (HA.out.trans (if_pos hbig))
          clear HA
          generalize (nst (fl f k)).2 = X at *
          go_wp2_with fail
          go_ret
          exact ⟨by rw [HE.out]; rfl, HB.out⟩
        · have HE : Hid (nmS (fl f k) = strOfNums (nst (fl f k)).2) := congrArg strOfNums (HA.out.trans (if_neg hbig))
          clear HA
          generalize (nst (fl f k)).2 = X at *
          go_wp2_with fail
          go_ret
          exact ⟨by rw [HE.out]; rfl, HB.out⟩

end Go.Proofs.Yteadhhhhnihoaaa

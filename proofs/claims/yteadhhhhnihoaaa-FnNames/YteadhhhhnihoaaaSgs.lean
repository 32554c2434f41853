/- The signs of a name: the specification. -/
import Derived.Test.YteadhhhhnihoaaaSgv
import Derived.Test.YteadhhhhnihoaaaSgj
namespace Go.Proofs.Yteadhhhhnihoaaa
open Go.RowKit

theorem own_start0 (w : World) (B : Nat) (hB : B ≤ w.heap.size) : (w.alloc (.cells #[] 2)).ownsRow B 2 1 (.slice (some ⟨w.heap.size, 0, none⟩) 0 0) 0 (ints []) := by
  refine ⟨rfl, .inr ⟨w.heap.size, 0, #[], rfl, hB, by show (w.heap.push _)[w.heap.size]? = _; exact Array.getElem?_push_size, by omega, by unfold maxLen; omega, rfl, by simp [ints]⟩⟩

set_option maxRecDepth 100000 in
set_option maxHeartbeats 4000000 in
theorem specSigns_any (s : ByteArray) (w : World) :
    Calls Try.prog 19 #[.string s] w (LsL (if 4096 < s.size then [] else sig 0 (bl s)) w) := by
  by_cases hlong : 4096 < s.size
  · rw [if_pos hlong]
    have hl' : (4096 : Int) < s.size := by omega
    have HO0 := hide (own_start0 w w.heap.size (Nat.le_refl _))
    go_enter Try.func19, Try.ntmps19
    go_wp2_with fail
    go_ret
    exact ⟨_, rfl, HO0.out, bnew _ _⟩
  · rw [if_neg hlong]
    have hl' : ¬ (4096 : Int) < s.size := by omega
    have HO0 := hide (own_start0 w w.heap.size (Nat.le_refl _))
    go_enter Try.func19, Try.ntmps19
    go_wp2_with fail
    go_loopw [3, 4, 5, 6, 7, 8] (fun v st i _ _ _ wr => ∃ (k t : Nat) (L : List Int), k ≤ s.size ∧ i = .int .i64 k ∧ st = .int .i64 t ∧ t < 3 ∧ L.length ≤ k ∧ L ++ sig t ((bl s).drop k) = sig 0 (bl s) ∧ wr.ownsRow w.heap.size 2 1 v L.length (ints L) ∧ Below w.heap.size w wr) (fun _ _ i _ _ _ _ => s.size - (intOf i).toNat)
    case atStart => exact ⟨0, 0, [], by omega, rfl, rfl, by omega, Nat.le_refl _, rfl, HO0.out, bnew _ _⟩
    case round =>
      obtain ⟨k, t, L, hk, rfl, rfl, ht, hLk, hL, ho, hb⟩ := hrel
      have HO := hide ho
      have HB := hide hb
      have HZ := hide hb.size
      have HL := hide hL
      have HT := hide ht
      have NL : Hid (L.length ≤ 1048576) := by show _ ≤ _; omega
      clear ho hb hL HO0
      by_cases hlt : k < s.size
      · have x0 := fun w' => idx_str s k hlt w'
        have klt : (k : Int) < s.size := by omega
        have hdne : (bl s).drop k ≠ [] := by intro h; have := congrArg List.length h; rw [List.length_drop, bl_len] at this; simp at this; omega
        have g0 : ((bl s).drop k).getD 0 0 = (bl s).getD k 0 := drop_head _ _ _
        have g1 : ((bl s).drop k).getD 1 0 = (bl s).getD (k + 1) 0 := drop_head _ _ _
        have gl : ((bl s).drop k).length = s.size - k := by rw [List.length_drop, bl_len]
        have bX := bl_byte s k
        have wX : IntKind.i64.wrap (((bl s).getD k 0 : Nat) : Int) = ((bl s).getD k 0 : Nat) := by rw [IntKind.wrap_i64]; omega
        have k1 : IntKind.i64.wrap ((k : Int) + 1) = (k : Int) + 1 := by rw [IntKind.wrap_i64]; omega
        have k2 : IntKind.i64.wrap ((k : Int) + 2) = (k : Int) + 2 := by rw [IntKind.wrap_i64]; omega
        by_cases h27 : (bl s).getD k 0 = 27
        · rw [h27] at x0 wX
          by_cases hsw : swi ((bl s).drop k) = true
          · obtain ⟨_, s1, s2, s3⟩ := (swi_iff _).1 hsw
            rw [gl] at s1
            have HS2 := hide (sig_swi (set := t) hsw)
            rw [g1] at s2 s3 HS2
            have x1 := fun w' => idx_str1 s k (by omega) w'
            rw [List.drop_drop] at HS2
            obtain ⟨T, hT⟩ : ∃ T : Nat, T = (bl s).getD (k + 1) 0 - 48 := ⟨_, rfl⟩
            rw [← hT] at HS2
            have hY : (bl s).getD (k + 1) 0 = T + 48 := by omega
            rw [hY] at x1 s2 s3
            have u1 : IntKind.u8.wrap (((T + 48 : Nat) : Int) - 48) = T := by simp [IntKind.wrap, IntKind.signed, IntKind.bits]; omega
            have u2 : IntKind.i64.wrap (T : Int) = T := by rw [IntKind.wrap_i64]; omega
            have c1 : (k : Int) + 1 < s.size := by omega
            have HQ : Hid (L ++ sig T ((bl s).drop (k + 2)) = sig 0 (bl s)) := by show _ = _; rw [← HL.out, HS2.out]
            obtain ⟨Z, hZ⟩ : ∃ Z : Int, Z = ((T + 48 : Nat) : Int) := ⟨_, rfl⟩
            rw [← hZ] at x1 u1
            have c2 : 48 ≤ Z := by omega
            have c3 : Z ≤ 50 := by omega
            have HT3 : Hid (T < 3) := by show _ < _; omega
            have HKd : Hid (k + 2 ≤ s.size) := by show _ ≤ _; omega
            clear s2 s3 hY hT hZ hsw g0 g1 gl h27 bX HS2 HL
            go_wp2_with fail
            go_roundw
            case rel => exact ⟨k + 2, T, L, HKd.out, by simp, rfl, HT3.out, by omega, HQ.out, HO.out, HB.out⟩
            case measure => simp [intOf]; have := HKd.out; omega
          · rw [Bool.not_eq_true] at hsw
            have HL2 : Hid ((L ++ [65533]) ++ sig t ((bl s).drop (k + 1)) = sig 0 (bl s)) := by
              have h1 := sig_one (set := t) hdne hsw
              rw [show one t ((bl s).drop k) = (65533, 1) from by unfold one; rw [g0, if_pos h27], List.drop_drop] at h1
              show _ = _
              rw [← HL.out, h1, List.append_assoc]; rfl
            have HKd : Hid (k + 1 ≤ s.size) := by show _ ≤ _; omega
            have HLd : Hid ((L ++ [(65533 : Int)]).length ≤ k + 1) := by show _ ≤ _; rw [List.length_append]; simp; omega
            have hno : ¬ (k + 1 < s.size ∧ 48 ≤ (bl s).getD (k + 1) 0 ∧ (bl s).getD (k + 1) 0 ≤ 50) := fun x => by
              rw [(swi_iff _).2 ⟨by rw [g0]; exact h27, by rw [gl]; omega, by rw [g1]; exact x.2.1, by rw [g1]; exact x.2.2⟩] at hsw
              cases hsw
            clear g0 g1 gl h27 bX HL hsw
            by_cases c1 : k + 1 < s.size
            · have x1 := fun w' => idx_str1 s k c1 w'
              have c1' : (k : Int) + 1 < s.size := by omega
              have bY := bl_byte s (k + 1)
              obtain ⟨Z, hZ⟩ : ∃ Z : Int, Z = (((bl s).getD (k + 1) 0 : Nat) : Int) := ⟨_, rfl⟩
              rw [← hZ] at x1
              by_cases c2 : 48 ≤ Z
              · have c3 : ¬ Z ≤ 50 := by omega
                clear hno bY hZ
                go_wp2_with (refine growL _ rfl _ _ rfl w.heap.size _ L.length L rfl w HO.out HB.out HZ.out 65533 rfl NL.out ?_)
                intro v' w' ho' hb' hs'
                have HO' := hide ho'
                have HB' := hide hb'
                clear ho' hb' hs' HO HB HZ
                go_wp2_with fail
                go_roundw
                case rel => exact ⟨k + 1, t, L ++ [65533], HKd.out, by simp, rfl, HT.out, HLd.out, HL2.out, by rw [List.length_append]; exact HO'.out, HB'.out⟩
                case measure => simp [intOf]; have := HKd.out; omega
              · clear hno bY hZ
                go_wp2_with (refine growL _ rfl _ _ rfl w.heap.size _ L.length L rfl w HO.out HB.out HZ.out 65533 rfl NL.out ?_)
                intro v' w' ho' hb' hs'
                have HO' := hide ho'
                have HB' := hide hb'
                clear ho' hb' hs' HO HB HZ
                go_wp2_with fail
                go_roundw
                case rel => exact ⟨k + 1, t, L ++ [65533], HKd.out, by simp, rfl, HT.out, HLd.out, HL2.out, by rw [List.length_append]; exact HO'.out, HB'.out⟩
                case measure => simp [intOf]; have := HKd.out; omega
            · have c1' : ¬ (k : Int) + 1 < s.size := by omega
              clear hno
              go_wp2_with (refine growL _ rfl _ _ rfl w.heap.size _ L.length L rfl w HO.out HB.out HZ.out 65533 rfl NL.out ?_)
              intro v' w' ho' hb' hs'
              have HO' := hide ho'
              have HB' := hide hb'
              clear ho' hb' hs' HO HB HZ
              go_wp2_with fail
              go_roundw
              case rel => exact ⟨k + 1, t, L ++ [65533], HKd.out, by simp, rfl, HT.out, HLd.out, HL2.out, by rw [List.length_append]; exact HO'.out, HB'.out⟩
              case measure => simp [intOf]; have := HKd.out; omega
        · have hsw : swi ((bl s).drop k) = false := by
            rw [Bool.eq_false_iff]; intro h; exact h27 (by rw [← g0]; exact ((swi_iff _).1 h).1)
          have e27 : ((((bl s).getD k 0 : Nat) : Int) == 27) = false := beq_false_of_ne (by omega)
          by_cases t2 : t = 2
          · subst t2
            have cU := fun w' => l12Utf_any s k hlt (by omega) w'
            have HOne : Hid (one 2 ((bl s).drop k) = (((dec ((bl s).drop k)).1 : Int), (dec ((bl s).drop k)).2)) := by
              show _ = _
              unfold one
              rw [g0, if_neg h27, if_pos rfl]
            have hdl := dec_le ((bl s).drop k) hdne
            rw [gl] at hdl
            obtain ⟨Z, hZ⟩ : ∃ Z : Int, Z = (((bl s).getD k 0 : Nat) : Int) := ⟨_, rfl⟩
            rw [← hZ] at x0 wX e27
            clear hZ g0 g1 gl h27 bX
            go_wp2_with fail
            refine (cU _).mono ?_
            rintro e w9 ⟨rfl, V, n, rfl, hn4, hV⟩
            have HV := hide hV
            clear hV
            by_cases n0 : n = 0
            · subst n0
              have hd : dec ((bl s).drop k) = (65533, 1) := by
                rcases HV.out with h | h
                · exact h.2
                · omega
              have HL2 : Hid ((L ++ [65533]) ++ sig 2 ((bl s).drop (k + 1)) = sig 0 (bl s)) := by
                have h1 := sig_one (set := 2) hdne hsw
                rw [show one 2 ((bl s).drop k) = (65533, 1) from by rw [HOne.out, hd]; rfl, List.drop_drop] at h1
                show _ = _
                rw [← HL.out, h1, List.append_assoc]; rfl
              have HKd : Hid (k + 1 ≤ s.size) := by show _ ≤ _; omega
              have HLd : Hid ((L ++ [(65533 : Int)]).length ≤ k + 1) := by show _ ≤ _; rw [List.length_append]; simp; omega
              clear hd HV HOne HL hdne hsw hdl cU
              go_wp2_with (refine growL _ rfl _ _ rfl w.heap.size _ L.length L rfl w HO.out HB.out HZ.out 65533 rfl NL.out ?_)
              intro v' w' ho' hb' hs'
              have HO' := hide ho'
              have HB' := hide hb'
              clear ho' hb' hs' HO HB HZ
              go_wp2_with fail
              go_roundw
              case rel => exact ⟨k + 1, 2, L ++ [65533], HKd.out, by simp, rfl, HT.out, HLd.out, HL2.out, by rw [List.length_append]; exact HO'.out, HB'.out⟩
              case measure => simp [intOf]; have := HKd.out; omega
            · have hd : dec ((bl s).drop k) = (V, n) := by
                rcases HV.out with h | h
                · omega
                · exact h.2
              rw [hd] at hdl
              simp only at hdl
              have n1 : ((n : Int) == 0) = false := by simp; omega
              have kn : IntKind.i64.wrap ((k : Int) + n) = (k : Int) + n := by rw [IntKind.wrap_i64]; omega
              have npos : 0 < n := by omega
              have HL2 : Hid ((L ++ [(V : Int)]) ++ sig 2 ((bl s).drop (k + n)) = sig 0 (bl s)) := by
                have h1 := sig_one (set := 2) hdne hsw
                rw [show one 2 ((bl s).drop k) = ((V : Int), n) from by rw [HOne.out, hd], List.drop_drop] at h1
                show _ = _
                rw [← HL.out, h1, List.append_assoc]; rfl
              have HKd : Hid (k + n ≤ s.size) := by show _ ≤ _; omega
              have HLd : Hid ((L ++ [((V : Int) : Int)]).length ≤ k + n) := by show _ ≤ _; rw [List.length_append]; simp; omega
              clear hd HV HOne HL hdne hsw hdl cU n0
              go_wp2_with (refine growL _ rfl _ _ rfl w.heap.size _ L.length L rfl w HO.out HB.out HZ.out (V : Int) rfl NL.out ?_)
              intro v' w' ho' hb' hs'
              have HO' := hide ho'
              have HB' := hide hb'
              clear ho' hb' hs' HO HB HZ
              go_wp2_with fail
              go_roundw
              case rel => exact ⟨k + n, 2, L ++ [(V : Int)], HKd.out, by simp, rfl, HT.out, HLd.out, HL2.out, by rw [List.length_append]; exact HO'.out, HB'.out⟩
              case measure => simp [intOf]; have := HKd.out; omega
          · have HPl := hide (one_plain t2 ((bl s).drop k))
            rw [g0] at HPl
            have t2' : ((t : Int) == 2) = false := by simp; omega
            by_cases t0 : t = 0
            · subst t0
              by_cases h128 : 128 ≤ (bl s).getD k 0
              · have c7 : (127 : Int) < ((bl s).getD k 0 : Nat) := by omega
                have HL2 : Hid ((L ++ [65533]) ++ sig 0 ((bl s).drop (k + 1)) = sig 0 (bl s)) := by
                  have h1 := sig_one (set := 0) hdne hsw
                  rw [show one 0 ((bl s).drop k) = (65533, 1) from HPl.out.trans (by rw [if_pos (.inr ⟨rfl, h128⟩)]), List.drop_drop] at h1
                  show _ = _
                  rw [← HL.out, h1, List.append_assoc]; rfl
                have HKd : Hid (k + 1 ≤ s.size) := by show _ ≤ _; omega
                have HLd : Hid ((L ++ [(65533 : Int)]).length ≤ k + 1) := by show _ ≤ _; rw [List.length_append]; simp; omega
                obtain ⟨Z, hZ⟩ : ∃ Z : Int, Z = (((bl s).getD k 0 : Nat) : Int) := ⟨_, rfl⟩
                rw [← hZ] at x0 wX e27 c7
                clear hZ g0 g1 gl h27 bX HPl HL hdne hsw h128
                go_wp2_with (refine growL _ rfl _ _ rfl w.heap.size _ L.length L rfl w HO.out HB.out HZ.out 65533 rfl NL.out ?_)
                intro v' w' ho' hb' hs'
                have HO' := hide ho'
                have HB' := hide hb'
                clear ho' hb' hs' HO HB HZ
                go_wp2_with fail
                go_roundw
                case rel => exact ⟨k + 1, 0, L ++ [65533], HKd.out, by simp, rfl, HT.out, HLd.out, HL2.out, by rw [List.length_append]; exact HO'.out, HB'.out⟩
                case measure => simp [intOf]; have := HKd.out; omega
              · have c7 : ¬ (127 : Int) < ((bl s).getD k 0 : Nat) := by omega
                obtain ⟨Z, hZ⟩ : ∃ Z : Int, Z = (((bl s).getD k 0 : Nat) : Int) := ⟨_, rfl⟩
                have HL2 : Hid ((L ++ [Z]) ++ sig 0 ((bl s).drop (k + 1)) = sig 0 (bl s)) := by
                  have h1 := sig_one (set := 0) hdne hsw
                  rw [show one 0 ((bl s).drop k) = (Z, 1) from HPl.out.trans (by rw [if_neg (by omega), hZ]), List.drop_drop] at h1
                  show _ = _
                  rw [← HL.out, h1, List.append_assoc]; rfl
                have HKd : Hid (k + 1 ≤ s.size) := by show _ ≤ _; omega
                have HLd : Hid ((L ++ [(Z : Int)]).length ≤ k + 1) := by show _ ≤ _; rw [List.length_append]; simp; omega
                rw [← hZ] at x0 wX e27 c7
                clear hZ g0 g1 gl h27 bX HPl HL hdne hsw h128
                go_wp2_with (refine growL _ rfl _ _ rfl w.heap.size _ L.length L rfl w HO.out HB.out HZ.out Z rfl NL.out ?_)
                intro v' w' ho' hb' hs'
                have HO' := hide ho'
                have HB' := hide hb'
                clear ho' hb' hs' HO HB HZ
                go_wp2_with fail
                go_roundw
                case rel => exact ⟨k + 1, 0, L ++ [Z], HKd.out, by simp, rfl, HT.out, HLd.out, HL2.out, by rw [List.length_append]; exact HO'.out, HB'.out⟩
                case measure => simp [intOf]; have := HKd.out; omega
            · have t0' : ((t : Int) == 0) = false := by simp; omega
              obtain ⟨Z, hZ⟩ : ∃ Z : Int, Z = (((bl s).getD k 0 : Nat) : Int) := ⟨_, rfl⟩
              have HL2 : Hid ((L ++ [Z]) ++ sig t ((bl s).drop (k + 1)) = sig 0 (bl s)) := by
                have h1 := sig_one (set := t) hdne hsw
                rw [show one t ((bl s).drop k) = (Z, 1) from HPl.out.trans (by rw [if_neg (by omega), hZ]), List.drop_drop] at h1
                show _ = _
                rw [← HL.out, h1, List.append_assoc]; rfl
              have HKd : Hid (k + 1 ≤ s.size) := by show _ ≤ _; omega
              have HLd : Hid ((L ++ [(Z : Int)]).length ≤ k + 1) := by show _ ≤ _; rw [List.length_append]; simp; omega
              rw [← hZ] at x0 wX e27
              clear hZ g0 g1 gl h27 bX HPl HL hdne hsw t0 t2
              go_wp2_with (refine growL _ rfl _ _ rfl w.heap.size _ L.length L rfl w HO.out HB.out HZ.out Z rfl NL.out ?_)
              intro v' w' ho' hb' hs'
              have HO' := hide ho'
              have HB' := hide hb'
              clear ho' hb' hs' HO HB HZ
              go_wp2_with fail
              go_roundw
              case rel => exact ⟨k + 1, t, L ++ [Z], HKd.out, by simp, rfl, HT.out, HLd.out, HL2.out, by rw [List.length_append]; exact HO'.out, HB'.out⟩
              case measure => simp [intOf]; have := HKd.out; omega
      · obtain rfl : k = s.size := by omega
        have hL := HL.out
        rw [List.drop_eq_nil_of_le (by rw [bl_len]; exact Nat.le_refl _), sig_nil, List.append_nil] at hL
        have HF : Hid (LsL (sig 0 (bl s)) w (.returned u3) wr) := ⟨u3, rfl, by rw [← hL]; exact HO.out, HB.out⟩
        clear hL HL HO HB
        go_wp2_with fail
        go_ret
        exact HF.out

end Go.Proofs.Yteadhhhhnihoaaa

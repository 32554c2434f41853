/- The signs of a name: the program's pieces, and all of it. -/
import Derived.Test.YteadhhhhnihoaaaSgi
namespace Go.Proofs.Yteadhhhhnihoaaa
open Go.RowKit

theorem below_bytes (w : World) (s : ByteArray) : Below w.heap.size w (Lib.bytesWorld w 5 s) := by
  have h := ((Below.refl w.heap.size w).drew).alloc (Nat.le_refl _) (.cells (Lib.bytesCells w 5 s) 5)
  refine ⟨h.os, h.tape, h.output, ?_, ?_⟩
  · rw [Lib.bytesWorld_size]; omega
  · intro b hb; exact Lib.bytesWorld_at_old w 5 s b hb

theorem one_plain {st : Nat} (hst : st ≠ 2) (l : List Nat) : one st l = (if l.getD 0 0 = 27 ∨ (st = 0 ∧ 128 ≤ l.getD 0 0) then 65533 else (l.getD 0 0 : Int), 1) := by
  unfold one
  by_cases h : l.getD 0 0 = 27
  · rw [if_pos h, if_pos (.inl h)]
  · rw [if_neg h, if_neg hst]
    by_cases h2 : st = 0 ∧ 128 ≤ l.getD 0 0
    · rw [if_pos h2, if_pos (.inr h2)]
    · rw [if_neg h2, if_neg (fun x => x.elim h h2)]

set_option maxRecDepth 100000 in
set_option maxHeartbeats 1000000 in
theorem signsPlain_any (st : Nat) (hst : st < 2) (c : Int) (hc : c = 48 + st) (s : ByteArray) (hs : s.size ≤ 4096) (hn : ∀ k, swi ((bl s).drop k) = false) (w : World) :
    Calls Try.prog 32 #[.int .u8 c, .string s] w (LsL (sig st (bl s)) w) := by
  have HN := hide hn
  have hcv := Lib.run_convert_string_bytes (P := Try.prog) w 9 22 5 s Try.underlying9 Try.underlying22 Try.underlying5
  have HC : Hid (∀ j, j < s.size → (Lib.bytesWorld w 5 s).cell? ⟨w.heap.size, j, none⟩ = some (.int .u8 ((bl s).getD j 0 : Nat))) := fun j hj => by
    rw [Lib.bytesWorld_cell w 5 s j hj]
    congr 2
    have hj' : j < s.data.size := hj
    simp [bl, List.getD, List.getElem?_map, Array.getElem?_toList, Array.getElem?_eq_getElem hj']
  have HB0 := hide (below_bytes w s)
  have HZ0 : Hid ((Lib.bytesWorld w 5 s).heap.size = w.heap.size + 1) := Lib.bytesWorld_size w 5 s
  have e50 : (c == 50) = false := by simp; omega
  have HC0 := hide hc
  generalize Lib.bytesWorld w 5 s = W at *
  generalize grownCap w s.size 0 5 = cp at *
  clear hn hc
  go_enter Try.func32, Try.ntmps32
  go_wp2_with fail
  go_loopw [5, 7, 8, 16] (fun v _ _ i wr => ∃ (k : Nat) (L : List Int), k ≤ s.size ∧ i = .int .i64 k ∧ L.length ≤ k ∧ L ++ sig st ((bl s).drop k) = sig st (bl s) ∧ wr.ownsRow (w.heap.size + 1) 2 1 v L.length (ints L) ∧ Below (w.heap.size + 1) W wr) (fun _ _ _ i _ => s.size - (intOf i).toNat)
  case atStart => exact ⟨0, [], by omega, rfl, Nat.le_refl _, rfl, World.ownsRow_nil _ _ _ _, Below.refl _ _⟩
  case round =>
    obtain ⟨k, L, hk, rfl, hLk, hL, ho, hb⟩ := hrel
    have HO := hide ho
    have HB := hide hb
    have HL := hide hL
    have HZ : Hid (w.heap.size + 1 ≤ wr.heap.size) := by show _ ≤ _; have := hb.size; have := HZ0.out; omega
    clear ho hL hcv
    by_cases hlt : k < s.size
    · have hz := HC.out k hlt
      rw [← hb.cell (p := ⟨w.heap.size, k, none⟩) (Nat.lt_succ_self _)] at hz
      have hdne : (bl s).drop k ≠ [] := by intro h; have := congrArg List.length h; rw [List.length_drop, bl_len] at this; simp at this; omega
      have h1 := sig_one (set := st) hdne (HN.out k)
      rw [one_plain (by omega), drop_head, List.drop_drop] at h1
      have HL2 : Hid (∀ z, z = (if (bl s).getD k 0 = 27 ∨ (st = 0 ∧ 128 ≤ (bl s).getD k 0) then 65533 else ((bl s).getD k 0 : Int)) → (L ++ [z]) ++ sig st ((bl s).drop (k + 1)) = sig st (bl s)) := fun z hz => by
        rw [← HL.out, h1, hz, List.append_assoc]; rfl
      have bX := bl_byte s k
      clear h1 hdne HL HC hb
      generalize (bl s).getD k 0 = X at *
      have w64 : IntKind.i64.wrap (X : Int) = X := by rw [IntKind.wrap_i64]; omega
      have NL : Hid (L.length ≤ 1048576) := by show _ ≤ _; omega
      by_cases h27 : X = 27
      · have e1 : ((X : Int) == 27) = true := by simp [h27]
        go_wp2_with (refine growL _ rfl _ _ rfl (w.heap.size + 1) _ L.length L rfl W HO.out HB.out HZ.out 65533 rfl NL.out ?_)
        intro v' w' ho' hb' hs'
        have HO' := hide ho'
        have HB' := hide hb'
        clear ho' hb' hs'
        go_wp2_with fail
        go_roundw
        case rel =>
          have R : ∃ (k' : Nat) (L' : List Int), k' ≤ s.size ∧ Value.int .i64 ((k : Int) + 1) = .int .i64 k' ∧ L'.length ≤ k' ∧ L' ++ sig st ((bl s).drop k') = sig st (bl s) ∧ w'.ownsRow (w.heap.size + 1) 2 1 v' L'.length (ints L') ∧ Below (w.heap.size + 1) W w' := by
            refine ⟨k + 1, L ++ [65533], by omega, rfl, by simp; omega, HL2.out _ (by simp [h27]), ?_, HB'.out⟩
            rw [List.length_append]; exact HO'.out
          first | exact R | ((repeat apply Exists.intro); exact ⟨R, rfl⟩)
        case measure => simp [intOf]; omega
      · have e1 : ((X : Int) == 27) = false := by simp; omega
        by_cases hst0 : st = 0
        · subst hst0
          have e48 : (c == 48) = true := by have := HC0.out; simp; omega
          by_cases h128 : 128 ≤ X
          · have e3 : (128 : Int) ≤ X := by omega
            go_wp2_with (refine growL _ rfl _ _ rfl (w.heap.size + 1) _ L.length L rfl W HO.out HB.out HZ.out 65533 rfl NL.out ?_)
            intro v' w' ho' hb' hs'
            have HO' := hide ho'
            have HB' := hide hb'
            clear ho' hb' hs'
            go_wp2_with fail
            go_roundw
            case rel =>
              have R : ∃ (k' : Nat) (L' : List Int), k' ≤ s.size ∧ Value.int .i64 ((k : Int) + 1) = .int .i64 k' ∧ L'.length ≤ k' ∧ L' ++ sig 0 ((bl s).drop k') = sig 0 (bl s) ∧ w'.ownsRow (w.heap.size + 1) 2 1 v' L'.length (ints L') ∧ Below (w.heap.size + 1) W w' := by
                refine ⟨k + 1, L ++ [65533], by omega, rfl, by simp; omega, HL2.out _ (by simp [h128]), ?_, HB'.out⟩
                rw [List.length_append]; exact HO'.out
              first | exact R | ((repeat apply Exists.intro); exact ⟨R, rfl⟩)
            case measure => simp [intOf]; omega
          · have e3 : ¬ (128 : Int) ≤ X := by omega
            have HL3 := hide (HL2.out X (by rw [if_neg]; omega))
            go_wp2_with (refine growL _ rfl _ _ rfl (w.heap.size + 1) _ L.length L rfl W HO.out HB.out HZ.out X rfl NL.out ?_)
            intro v' w' ho' hb' hs'
            have HO' := hide ho'
            have HB' := hide hb'
            clear ho' hb' hs'
            go_wp2_with fail
            go_roundw
            case rel =>
              have R : ∃ (k' : Nat) (L' : List Int), k' ≤ s.size ∧ Value.int .i64 ((k : Int) + 1) = .int .i64 k' ∧ L'.length ≤ k' ∧ L' ++ sig 0 ((bl s).drop k') = sig 0 (bl s) ∧ w'.ownsRow (w.heap.size + 1) 2 1 v' L'.length (ints L') ∧ Below (w.heap.size + 1) W w' := by
                refine ⟨k + 1, L ++ [(X : Int)], by omega, rfl, by simp; omega, HL3.out, ?_, HB'.out⟩
                rw [List.length_append]; exact HO'.out
              first | exact R | ((repeat apply Exists.intro); exact ⟨R, rfl⟩)
            case measure => simp [intOf]; omega
        · have e48 : (c == 48) = false := by have := HC0.out; simp; omega
          have HL3 := hide (HL2.out X (by rw [if_neg]; omega))
          go_wp2_with (refine growL _ rfl _ _ rfl (w.heap.size + 1) _ L.length L rfl W HO.out HB.out HZ.out X rfl NL.out ?_)
          intro v' w' ho' hb' hs'
          have HO' := hide ho'
          have HB' := hide hb'
          clear ho' hb' hs'
          go_wp2_with fail
          go_roundw
          case rel =>
            have R : ∃ (k' : Nat) (L' : List Int), k' ≤ s.size ∧ Value.int .i64 ((k : Int) + 1) = .int .i64 k' ∧ L'.length ≤ k' ∧ L' ++ sig st ((bl s).drop k') = sig st (bl s) ∧ w'.ownsRow (w.heap.size + 1) 2 1 v' L'.length (ints L') ∧ Below (w.heap.size + 1) W w' := by
              refine ⟨k + 1, L ++ [(X : Int)], by omega, rfl, by simp; omega, HL3.out, ?_, HB'.out⟩
              rw [List.length_append]; exact HO'.out
            first | exact R | ((repeat apply Exists.intro); exact ⟨R, rfl⟩)
          case measure => simp [intOf]; omega
    · obtain rfl : k = s.size := by omega
      have hL := HL.out
      rw [List.drop_eq_nil_of_le (by rw [bl_len]; exact Nat.le_refl _), sig_nil, List.append_nil] at hL
      have HF : Hid (LsL (sig st (bl s)) w (.returned u5) wr) := ⟨u5, rfl, by rw [← hL]; exact owns_mono HO.out (Nat.le_succ _), HB0.out.trans (HB.out.mono (Nat.le_succ _))⟩
      clear hL HL HO HB HN HC hb
      go_wp2_with fail
      go_ret
      exact HF.out

set_option maxRecDepth 100000 in
theorem signsOfSet_any (st : Nat) (hst : st < 3) (c : Int) (hc : c = 48 + st) (s : ByteArray) (hs : s.size ≤ 4096) (hn : ∀ k, swi ((bl s).drop k) = false) (w : World) :
    Calls Try.prog 32 #[.int .u8 c, .string s] w (LsL (sig st (bl s)) w) := by
  by_cases h2 : st < 2
  · exact signsPlain_any st h2 c hc s hs hn w
  · obtain rfl : st = 2 := by omega
    have cF := fun w' => signsOfForms_any s hs hn w'
    obtain rfl : c = 50 := by omega
    clear hn hc
    go_enter Try.func32, Try.ntmps32
    go_wp2_with fail
    refine (cF _).mono ?_
    rintro e w' ⟨v, rfl, ho, hb⟩
    have HF : Hid (LsL (sig 2 (bl s)) w (.returned v) w') := ⟨v, rfl, ho, hb⟩
    clear ho hb cF
    go_wp2_with fail
    go_ret
    exact HF.out

end Go.Proofs.Yteadhhhhnihoaaa

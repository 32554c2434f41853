/- The signs of a name: the program. -/
import Derived.Test.YteadhhhhnihoaaaSgn
import Derived.Test.YteadhhhhnihoaaaGrk
import Derived.Lib.OthersKept
import Derived.Lib.ConvBytes
import Derived.Laws.AppendOwnNone
namespace Go.Proofs.Yteadhhhhnihoaaa
open Go.RowKit

/-- a list is answered, by its list -/
def LsL (L : List Int) (w : World) (e : Ending) (w' : World) : Prop := ∃ v, e = .returned v ∧ w'.ownsRow w.heap.size 2 1 v L.length (ints L) ∧ Below w.heap.size w w'

theorem idx_str (s : ByteArray) (k : Nat) (h : k < s.size) (w : World) : (Instr.index 9 (.string s) (.int .i64 (k : Int))).run Try.prog w = .ok (.int .u8 ((bl s).getD k 0 : Nat)) w := by
  rw [run_index_string w 9 s .i64 k Try.underlying9, dif_pos (show (0 : Int) ≤ k ∧ (k : Int) < s.size by omega)]
  congr 2
  have := congrArg (Nat.cast (R := Int)) (bl_at s k h)
  simpa using this
theorem idx_str1 (s : ByteArray) (k : Nat) (h : k + 1 < s.size) (w : World) : (Instr.index 9 (.string s) (.int .i64 ((k : Int) + 1))).run Try.prog w = .ok (.int .u8 ((bl s).getD (k + 1) 0 : Nat)) w := by
  have := idx_str s (k + 1) h w
  rw [Int.natCast_add] at this
  exact this

theorem bl_byte (s : ByteArray) (k : Nat) : (bl s).getD k 0 < 256 := by
  by_cases h : k < (bl s).length
  · rw [List.getD, List.getElem?_eq_getElem h]
    exact bl_lt s _ (List.getElem_mem h)
  · rw [List.getD, List.getElem?_eq_none (by omega)]; decide

theorem drop_head (l : List Nat) (k j : Nat) : (l.drop k).getD j 0 = l.getD (k + j) 0 := by simp [List.getD, List.getElem?_drop]

set_option maxRecDepth 100000 in
set_option maxHeartbeats 1000000 in
theorem switchIn_any (s : ByteArray) (hs : s.size ≤ 4096) (w : World) :
    Calls Try.prog 31 #[.string s] w fun e w' => w' = w ∧ ∃ k : Nat, e = .returned (.int .i64 k) ∧ k ≤ s.size ∧ (∀ j, j < k → swi ((bl s).drop j) = false) ∧ (k = s.size ∨ swi ((bl s).drop k) = true) := by
  go_enter Try.func31, Try.ntmps31
  have w1 : IntKind.i64.wrap ((s.size : Int) - 1) = (s.size : Int) - 1 := by rw [IntKind.wrap_i64]; omega
  go_wp2_with fail
  go_loopw [3, 7] (fun _ i wr => ∃ k : Nat, (k : Int) ≤ (s.size : Int) ∧ i = .int .i64 k ∧ (∀ j, j < k → swi ((bl s).drop j) = false) ∧ wr = w) (fun _ i _ => s.size - (intOf i).toNat)
  case atStart => exact ⟨0, by omega, rfl, fun j hj => by omega, rfl⟩
  case round =>
    obtain ⟨k, hk, rfl, hj, rfl⟩ := hrel
    have HJ := hide hj
    clear hj
    by_cases hlt : k + 1 < s.size
    · have x0 := fun w' => idx_str s k (by omega) w'
      have x1 := fun w' => idx_str1 s k (by omega) w'
      have g0 : ((bl s).drop k).getD 0 0 = (bl s).getD k 0 := drop_head _ _ _
      have g1 : ((bl s).drop k).getD 1 0 = (bl s).getD (k + 1) 0 := drop_head _ _ _
      have gl : ((bl s).drop k).length = s.size - k := by rw [List.length_drop, bl_len]
      have b1 := bl_byte s (k + 1)
      have HS : Hid (swi ((bl s).drop k) = true ↔ (bl s).getD k 0 = 27 ∧ 48 ≤ (bl s).getD (k + 1) 0 ∧ (bl s).getD (k + 1) 0 ≤ 50) := by
        show _ ↔ _
        rw [swi_iff, g0, g1, gl]
        constructor
        · rintro ⟨a, _, c, d⟩; exact ⟨a, c, d⟩
        · rintro ⟨a, c, d⟩; exact ⟨a, by omega, c, d⟩
      clear g0 g1 gl
      have hk2 : (k : Int) < (s.size : Int) - 1 := by omega
      generalize (bl s).getD k 0 = X at *
      generalize (bl s).getD (k + 1) 0 = Y at *
      by_cases h27 : X = 27
      · have e1 : ((X : Int) == 27) = true := by simp [h27]
        have wY : IntKind.i64.wrap (Y : Int) = Y := by rw [IntKind.wrap_i64]; omega
        have cW := fun w' => within_any (Y : Int) 48 50 w'
        by_cases hY : 48 ≤ Y ∧ Y ≤ 50
        · have e2 : inB (Y : Int) 48 50 = true := by simp [inB]; omega
          rw [e2] at cW
          go_wp2_with fail
          refine (cW _).mono ?_
          rintro _ _ ⟨rfl, rfl⟩
          go_wp2_with fail
          go_ret
          exact ⟨rfl, k, rfl, by omega, HJ.out, .inr (HS.out.2 ⟨h27, hY⟩)⟩
        · have e2 : inB (Y : Int) 48 50 = false := by simp [inB]; omega
          rw [e2] at cW
          go_wp2_with fail
          refine (cW _).mono ?_
          rintro _ _ ⟨rfl, rfl⟩
          go_wp2_with fail
          refine ⟨⟨k + 1, by omega, rfl, ?_, trivial⟩, by simp [intOf]; omega⟩
          intro j hj
          by_cases e : j = k
          · rw [e, Bool.eq_false_iff]; intro h; exact hY (HS.out.1 h).2
          · exact HJ.out j (by omega)
      · have e1 : ((X : Int) == 27) = false := by simp; omega
        go_wp2_with fail
        refine ⟨⟨k + 1, by omega, rfl, ?_, trivial⟩, by simp [intOf]; omega⟩
        intro j hj
        by_cases e : j = k
        · rw [e, Bool.eq_false_iff]; intro h; exact h27 (HS.out.1 h).1
        · exact HJ.out j (by omega)
    · have hk2 : ¬ (k : Int) < (s.size : Int) - 1 := by omega
      have HL : Hid (∀ j, j < s.size → swi ((bl s).drop j) = false) := fun j hj => by
        by_cases e : j < k
        · exact HJ.out j e
        · rw [Bool.eq_false_iff]; intro h
          have := ((swi_iff _).1 h).2.1
          rw [List.length_drop, bl_len] at this
          omega
      go_wp2_with fail
      go_ret
      exact ⟨rfl, s.size, rfl, Nat.le_refl _, HL.out, .inl rfl⟩

theorem dec_max (s : ByteArray) (k : Nat) : (dec ((bl s).drop k)).1 ≤ 2147483647 := by rw [← decode_bl]; exact decode_le s k

set_option maxRecDepth 100000 in
set_option maxHeartbeats 1000000 in
theorem signsOfForms_any (s : ByteArray) (hs : s.size ≤ 4096) (hn : ∀ k, swi ((bl s).drop k) = false) (w : World) :
    Calls Try.prog 45 #[.string s] w (LsL (sig 2 (bl s)) w) := by
  have HN := hide hn
  clear hn
  go_enter Try.func45, Try.ntmps45
  go_wp2_with fail
  go_loopw [3, 5] (fun v _ wr => ∃ (pos : Nat) (L : List Int), pos ≤ s.size ∧ wr.heap[w.heap.size]? = some (.stringIter s pos) ∧ L.length ≤ pos ∧ L ++ sig 2 ((bl s).drop pos) = sig 2 (bl s) ∧ wr.ownsRow (w.heap.size + 1) 2 1 v L.length (ints L) ∧ Below w.heap.size w wr) (fun _ _ wr => s.size - wr.iterPos w.heap.size)
  case atStart => exact ⟨0, [], by omega, World.iter_heap _ _ _, Nat.le_refl _, rfl, World.ownsRow_nil _ _ _ _, bnew _ _⟩
  case round =>
    obtain ⟨pos, L, hp, hit, hLp, hL, ho, hb⟩ := hrel
    have HO := hide ho
    have HB := hide hb
    have HL := hide hL
    have hws : w.heap.size < wr.heap.size := by
      rcases Nat.lt_or_ge w.heap.size wr.heap.size with h | h
      · exact h
      · rw [Array.getElem?_eq_none (by omega)] at hit; cases hit
    clear ho hb hL
    by_cases hlt : pos < s.size
    · have hnx := fun ty => Lib.run_next_any_at (P := Try.prog) wr w.heap.size s pos ty hit hlt
      rw [decode_bl] at hnx
      have hm := dec_max s pos
      have hdne : (bl s).drop pos ≠ [] := by intro h; have := congrArg List.length h; rw [List.length_drop, bl_len] at this; simp at this; omega
      have hdp := dec_pos ((bl s).drop pos)
      have hdl := dec_le ((bl s).drop pos) hdne
      rw [List.length_drop, bl_len] at hdl
      have h1 := sig_one (set := 2) hdne (HN.out pos)
      have hone : one 2 ((bl s).drop pos) = (if (dec ((bl s).drop pos)).1 = 27 then 65533 else ((dec ((bl s).drop pos)).1 : Int), (dec ((bl s).drop pos)).2) := by
        unfold one
        by_cases h27 : ((bl s).drop pos).getD 0 0 = 27
        · rw [if_pos h27, if_pos ((dec_27 _).2 h27)]
          have : dec ((bl s).drop pos) = (27, 1) := by unfold dec; rw [h27]; rfl
          rw [this]
        · rw [if_neg h27, if_pos rfl, if_neg (fun h => h27 ((dec_27 _).1 h))]
      rw [hone, List.drop_drop] at h1
      have HL2 : Hid (∀ z, z = (if (dec ((bl s).drop pos)).1 = 27 then 65533 else ((dec ((bl s).drop pos)).1 : Int)) → (L ++ [z]) ++ sig 2 ((bl s).drop (pos + (dec ((bl s).drop pos)).2)) = sig 2 (bl s)) := fun z hz => by
        rw [← HL.out, h1, hz, List.append_assoc]; rfl
      clear hone h1 hdne HL
      obtain ⟨D, d, hD⟩ : ∃ D d, dec ((bl s).drop pos) = (D, d) := ⟨_, _, rfl⟩
      rw [hD] at hnx hm hdp hdl HL2
      simp only at hm hdp hdl
      have w64 : IntKind.i64.wrap (D : Int) = D := by rw [IntKind.wrap_i64]; omega
      have HO1 := hide (owns_keep (w' := wr.iterAt w.heap.size s (pos + d)) HO.out (fun b hb => Lib.iterAt_other wr _ b s _ (by have := owns_ge HO.out b hb; omega)))
      have HI1 := hide (Lib.iterAt_heap wr w.heap.size s pos (pos + d) hit)
      have HB1 := hide (Lib.below_iterAt HB.out (Nat.le_refl _) s (pos + d))
      have HZ1 : Hid (w.heap.size + 1 ≤ (wr.iterAt w.heap.size s (pos + d)).heap.size) := by
        show _ ≤ _
        rw [Lib.iterAt_size]; omega
      have HM : Hid (s.size - (pos + d) < s.size - wr.iterPos w.heap.size) := by
        show _ < _
        have : wr.iterPos w.heap.size = pos := by simp [World.iterPos, hit]
        rw [this]; omega
      have NL : Hid (L.length ≤ 1048576) := by show _ ≤ _; omega
      clear HO HB hD hit
      obtain ⟨W, hW⟩ : ∃ W, W = wr.iterAt w.heap.size s (pos + d) := ⟨_, rfl⟩
      rw [← hW] at hnx HO1 HI1 HB1 HZ1
      clear hW
      by_cases h27 : D = 27
      · have e1 : ((D : Int) == 27) = true := by simp [h27]
        go_wp2_with (refine growL _ rfl _ _ rfl (w.heap.size + 1) _ L.length L rfl W HO1.out (Below.refl _ _) HZ1.out 65533 rfl NL.out ?_)
        intro v' w' ho' hb' hs'
        have HO' := hide ho'
        have HI' : Hid (w'.heap[w.heap.size]? = some (.stringIter s (pos + d))) := (hb'.block w.heap.size (by omega)).trans HI1.out
        have HB' := hide (HB1.out.trans (hb'.mono (Nat.le_succ _)))
        clear ho' hb' hs'
        go_wp2_with fail
        refine ⟨⟨pos + d, L ++ [65533], by omega, HI'.out, by simp; omega, HL2.out _ (by simp [h27]), ?_, HB'.out⟩, ?_⟩
        · rw [List.length_append]; exact HO'.out
        · have : w'.iterPos w.heap.size = pos + d := by simp [World.iterPos, HI'.out]
          rw [this]; exact HM.out
      · have e1 : ((D : Int) == 27) = false := by simp; omega
        go_wp2_with (refine growL _ rfl _ _ rfl (w.heap.size + 1) _ L.length L rfl W HO1.out (Below.refl _ _) HZ1.out D rfl NL.out ?_)
        intro v' w' ho' hb' hs'
        have HO' := hide ho'
        have HI' : Hid (w'.heap[w.heap.size]? = some (.stringIter s (pos + d))) := (hb'.block w.heap.size (by omega)).trans HI1.out
        have HB' := hide (HB1.out.trans (hb'.mono (Nat.le_succ _)))
        clear ho' hb' hs'
        go_wp2_with fail
        refine ⟨⟨pos + d, L ++ [(D : Int)], by omega, HI'.out, by simp; omega, HL2.out _ (by simp [h27]), ?_, HB'.out⟩, ?_⟩
        · rw [List.length_append]; exact HO'.out
        · have : w'.iterPos w.heap.size = pos + d := by simp [World.iterPos, HI'.out]
          rw [this]; exact HM.out
    · obtain rfl : pos = s.size := by omega
      have hnx := fun ty => Lib.run_next_end_at (P := Try.prog) wr w.heap.size s s.size ty hit (by omega)
      have hL := HL.out
      rw [List.drop_eq_nil_of_le (by rw [bl_len]; exact Nat.le_refl _), sig_nil, List.append_nil] at hL
      have HF : Hid (LsL (sig 2 (bl s)) w (.returned u3) wr) := ⟨u3, rfl, by rw [← hL]; exact owns_mono HO.out (Nat.le_succ _), HB.out⟩
      clear hL HL HO HB hit HN
      go_wp2_with fail
      go_ret
      exact HF.out

end Go.Proofs.Yteadhhhhnihoaaa

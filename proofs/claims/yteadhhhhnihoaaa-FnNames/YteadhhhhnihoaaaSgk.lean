/- The signs of a name: the program. -/
import Derived.Test.YteadhhhhnihoaaaSgj
import Derived.BigRegion
import Derived.Laws.Strings3
namespace Go.Proofs.Yteadhhhhnihoaaa
open Go.RowKit

/-- an append of what another list of the call's own holds -/
theorem growCat (w : World) {ops : Array Oper} {rest : List Oper} {o : Oper} {a : Act} {Q : Exit → Act → World → Prop} (hgd : o.guard = none) (s x : Operand)
    (ho : o.op = .call { callee := .builtin .append, args := #[s, x], argTypes := #[24, 24] }) (B : Nat) (v : Value) (n : Nat) (L : List Int) (hs : a.eval s = v) (w0 : World) (hown : w.ownsRow B 2 1 v n (ints L))
    (hb : Below B w0 w) (hB : B ≤ w.heap.size) (xv : Value) (B2 m : Nat) (M : List Int) (hx : a.eval x = xv) (hxo : w.ownsRow B2 2 1 xv m (ints M)) (hn : n + m ≤ 1048576)
    (h : ∀ v' w', w'.ownsRow B 2 1 v' (n + m) (ints (L ++ M)) → Below B w0 w' → wpList Try.prog ops Q rest (a.put o.dst v') w') :
    wpList Try.prog ops Q (o :: rest) a w := by
  obtain ⟨ti, hi1, hi2, hi3, hi4⟩ := info2
  have hxo' := hxo
  obtain ⟨hlen, hv | ⟨b, cap, cur, hv, hg, hcur, _, hm, _, _⟩⟩ := hxo'
  · obtain ⟨rfl, rfl⟩ := hv
    have hM : M = [] := List.eq_nil_of_length_eq_zero (by rw [ints_length] at hlen; omega)
    subst hM
    refine wpList_append_own_none hgd s x 24 ho B 2 ti 1 Try.underlying24 hi1 v n (ints L) hs hown hx ?_
    refine h v w ?_ hb
    rw [List.append_nil]; exact hown
  · subst hv
    have hM : M.length = m * 1 := by rw [ints_length] at hlen; exact hlen
    refine growFrom w hgd s x 24 ho B 2 ti (.int .i64 0) 1 8 Try.underlying24 hi1 hi2 hi3 hi4 rfl (by omega) v n L hs w0 hown hb hB M b m cap hx hM ?_ (by unfold maxLen; omega) (by omega) (fun v' w' h1 h2 _ => h v' w' h1 h2)
    intro j hj
    rw [hxo.cellAt j hj]
    exact ints_at M j (by omega)

theorem swi_take {l : List Nat} {k : Nat} (h : ∀ j, j < k → swi (l.drop j) = false) (j : Nat) : swi ((l.take k).drop j) = false := by
  rw [Bool.eq_false_iff]
  intro hh
  obtain ⟨a, b, c, d⟩ := (swi_iff _).1 hh
  rw [List.length_drop, List.length_take] at b
  have hj : j + 1 < k := by omega
  have g : ∀ i, j + i < k → ((l.take k).drop j).getD i 0 = (l.drop j).getD i 0 := fun i hi => by
    simp only [List.getD, List.getElem?_drop, List.getElem?_take]
    rw [if_pos hi]
  rw [g 0 (by omega)] at a
  rw [g 1 (by omega)] at c d
  have := (swi_iff _).2 ⟨a, by rw [List.length_drop]; omega, c, d⟩
  rw [h j (by omega)] at this
  cases this

/-- how long a text is -/
def strN : Value → Nat
  | .string b => b.size
  | _ => 0

set_option maxRecDepth 100000 in
set_option maxHeartbeats 2000000 in
theorem implSigns_any (s : ByteArray) (w : World) :
    Calls Try.prog 13 #[.string s] w (LsL (if 4096 < s.size then [] else sig 0 (bl s)) w) := by
  by_cases hlong : 4096 < s.size
  · rw [if_pos hlong]
    have hl' : (4096 : Int) < s.size := by omega
    go_enter Try.func13, Try.ntmps13
    go_wp2_with fail
    go_ret
    exact ⟨_, rfl, World.ownsRow_nil _ _ _ _, Below.refl _ _⟩
  · rw [if_neg hlong]
    have hl' : ¬ (4096 : Int) < s.size := by omega
    go_enter Try.func13, Try.ntmps13
    go_wp2_with fail
    go_loopw [0, 3, 4, 5] (fun nm v st _ wr => ∃ (s' : ByteArray) (t : Nat) (c : Int) (L : List Int), nm = .string s' ∧ st = .int .u8 c ∧ c = 48 + t ∧ t < 3 ∧ L.length + s'.size ≤ 4096 ∧ L ++ sig t (bl s') = sig 0 (bl s) ∧ wr.ownsRow w.heap.size 2 1 v L.length (ints L) ∧ Below w.heap.size w wr) (fun nm _ _ _ _ => strN nm)
    case atStart => exact ⟨s, 0, 48, [], rfl, rfl, rfl, by omega, by simp; omega, rfl, World.ownsRow_nil _ _ _ _, Below.refl _ _⟩
    case round =>
      obtain ⟨s', t, c, L, rfl, rfl, hc, ht, hsz, hL, ho, hb⟩ := hrel
      have HO := hide ho
      have HB := hide hb
      have HZ := hide hb.size
      have HL := hide hL
      have HC := hide hc
      have HS := hide hsz
      clear ho hb hL hc hsz
      have cW := fun w' => switchIn_any s' (by have := HS.out; omega) w'
      go_wp2_with fail
      refine (cW _).mono ?_
      rintro e w' ⟨rfl, k, rfl, hk, hj, hend⟩
      have hpl : bl (s'.extract 0 k) = (bl s').take k := by rw [bl_ext]; simp
      have hps : (s'.extract 0 k).size = k := by rw [← bl_len, hpl, List.length_take, bl_len]; omega
      have cS := fun w' => signsOfSet_any t ht c HC.out (s'.extract 0 k) (by have := HS.out; omega) (fun j => by rw [hpl]; exact swi_take hj j) w'
      rw [hpl] at cS
      have hcut := sig_cut (bl s').length t (bl s') k (Nat.le_refl _) (by rw [bl_len]; exact hk) hj (by rw [bl_len]; exact hend)
      rw [bl_len] at hcut
      have hsl := sig_len ((bl s').take k).length t ((bl s').take k) (Nat.le_refl _)
      rw [List.length_take, bl_len] at hsl
      have HCut : Hid ((L ++ sig t ((bl s').take k)) ++ (if k = s'.size then [] else sig ((bl s').getD (k + 1) 0 - 48) ((bl s').drop (k + 2))) = sig 0 (bl s)) := by
        show _ = _
        rw [← HL.out, hcut, List.append_assoc]
      have HEnd : Hid (k ≠ s'.size → 48 ≤ (bl s').getD (k + 1) 0 ∧ (bl s').getD (k + 1) 0 ≤ 50 ∧ k + 1 < s'.size) := fun hne => by
        have := (swi_iff _).1 (hend.resolve_left hne)
        rw [drop_head, drop_head, List.length_drop, bl_len] at this
        omega
      have HLen : Hid ((sig t ((bl s').take k)).length ≤ k) := by show _ ≤ _; omega
      clear hcut hj hend hpl hps hsl HL cW
      generalize sig t ((bl s').take k) = M at *
      have hk' : (k : Int) ≤ s'.size := by omega
      go_wp2_with fail
      refine (cS _).mono ?_
      rintro e w2 ⟨xv, rfl, hxo, hb2⟩
      have HO2 := hide (owns_keep HO.out (fun b hb => hb2.block b (owns_lt HO.out b hb)))
      have HX2 := hide hxo
      have HB2 := hide (bnext HB.out (Nat.le_refl _) hb2)
      have HZ2 := hide HB2.out.size
      have HN : Hid (L.length + M.length ≤ 1048576) := by
        have := HS.out
        have := HLen.out
        show _ ≤ _
        omega
      clear hxo hb2 HO HB HZ cS
      go_wp2_with (refine growCat _ rfl _ _ rfl w.heap.size _ L.length L rfl w HO2.out HB2.out HZ2.out xv _ M.length M rfl HX2.out HN.out ?_)
      intro v' w3 ho3 hb3
      have HO3 := hide ho3
      have HB3 := hide hb3
      clear ho3 hb3 HO2 HB2 HX2
      by_cases hke : k = s'.size
      · subst hke
        have hF := HCut.out
        rw [if_pos rfl, List.append_nil] at hF
        have HF : Hid (LsL (sig 0 (bl s)) w (.returned v') w3) := ⟨v', rfl, by rw [← hF, List.length_append]; exact HO3.out, HB3.out⟩
        clear hF HCut HEnd HO3 HB3
        go_wp2_with fail
        go_ret
        exact HF.out
      · have hee := HEnd.out hke
        have hF := HCut.out
        rw [if_neg hke] at hF
        have HF := hide hF
        have ek : ((k : Int) == (s'.size : Int)) = false := by simp; omega
        have x1 := fun w' => idx_str1 s' k (by omega) w'
        have x2 : ∀ w' : World, (Instr.slice 9 (.string s') (some (.int .i64 ((k : Int) + 2))) none none).run Try.prog w' = .ok (.string (s'.extract (k + 2) s'.size)) w' := fun w' => by
          rw [run_slice_string_from_if w' 9 s' .i64 ((k : Int) + 2) Try.underlying9, if_pos (by omega)]
          congr 2
        have hq : bl (s'.extract (k + 2) s'.size) = (bl s').drop (k + 2) := by
          rw [bl_ext, List.take_of_length_le (by rw [List.length_drop, bl_len]; omega)]
        have hqs : (s'.extract (k + 2) s'.size).size = s'.size - (k + 2) := by rw [← bl_len, hq, List.length_drop, bl_len]
        have HQ : Hid ((L ++ M) ++ sig ((bl s').getD (k + 1) 0 - 48) (bl (s'.extract (k + 2) s'.size)) = sig 0 (bl s)) := by show _ = _; rw [hq]; exact HF.out
        have HLn : Hid ((L ++ M).length + (s'.extract (k + 2) s'.size).size ≤ 4096) := by
          have := HS.out
          have := HLen.out
          show _ ≤ _
          rw [List.length_append, hqs]
          omega
        have HMs : Hid ((s'.extract (k + 2) s'.size).size < s'.size) := by show _ < _; omega
        have HC9 : Hid (((bl s').getD (k + 1) 0 : Int) = 48 + (((bl s').getD (k + 1) 0 - 48 : Nat) : Int)) := by show _ = _; omega
        have HT9 : Hid ((bl s').getD (k + 1) 0 - 48 < 3) := by show _ < _; omega
        clear hF HCut HEnd HF hq hqs HLen HN HC
        generalize s'.extract (k + 2) s'.size = q at *
        obtain ⟨Y, hY⟩ : ∃ Y, Y = (bl s').getD (k + 1) 0 := ⟨_, rfl⟩
        rw [← hY] at x1 HQ HC9 HT9
        have k1 : IntKind.i64.wrap ((k : Int) + 1) = (k : Int) + 1 := by rw [IntKind.wrap_i64]; have := HS.out; omega
        have k2 : IntKind.i64.wrap ((k : Int) + 2) = (k : Int) + 2 := by rw [IntKind.wrap_i64]; have := HS.out; omega
        have k3 : wrap64 ((k : Int) + 1) = (k : Int) + 1 := by have := HS.out; unfold wrap64; omega
        have k4 : wrap64 ((k : Int) + 2) = (k : Int) + 2 := by have := HS.out; unfold wrap64; omega
        clear hY hee
        go_wp2_with fail
        go_region
        go_wp2_with fail
        go_roundw
        case rel => exact ⟨q, Y - 48, Y, L ++ M, rfl, rfl, HC9.out, HT9.out, HLn.out, HQ.out, by rw [List.length_append]; exact HO3.out, HB3.out.drew⟩
        case measure => exact HMs.out

end Go.Proofs.Yteadhhhhnihoaaa

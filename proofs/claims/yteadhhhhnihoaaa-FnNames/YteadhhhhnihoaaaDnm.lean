/- The draw of signs. -/
import Derived.Test.YteadhhhhnihoaaaDpg
import Derived.Test.YteadhhhhnihoaaaGrk
namespace Go.Proofs.Yteadhhhhnihoaaa
open Go.RowKit

/-- what is known while a list of numbers is being drawn -/
structure DN (p : Nat) (a : Option Addr) (len cap : Nat) (w : World) (v : Value) (n : Nat) (L : List Int) (wr : World) : Prop where
  cur : Cur p a len cap wr
  kept : Kept p w wr
  own : wr.ownsRow w.heap.size 2 1 v n (ints L)
  lt : w.heap.size < wr.heap.size
theorem DN.step {p : Nat} {a : Option Addr} {len cap : Nat} {w : World} {v : Value} {n : Nat} {L : List Int} {wr w' : World} (h : DN p a len cap w v n L wr) (hp : p < w.heap.size) (hc : Cur p a len cap w') (hk : Kept p wr w') : DN p a len cap w v n L w' :=
  ⟨hc, h.kept.trans hk, owns_kept h.own hk hp, Nat.lt_of_lt_of_le h.lt hk.size⟩
theorem DN.grown {p : Nat} {a : Option Addr} {len cap : Nat} {w : World} {v v' : Value} {n n' : Nat} {L L' : List Int} {wr w' : World} (h : DN p a len cap w v n L wr) (hp : p < w.heap.size) (hab : len = 0 ∨ ∀ b off, a = some ⟨b, off, none⟩ → b < w.heap.size) (ho : w'.ownsRow w.heap.size 2 1 v' n' (ints L')) (hb : Below w.heap.size wr w') : DN p a len cap w v' n' L' w' :=
  ⟨h.cur.belowB hb hp hab, h.kept.belowB hb (Nat.le_refl _), ho, Nat.lt_of_lt_of_le h.lt hb.size⟩
/-- a literal of numbers: each cell of it -/
theorem lit_cell (w : World) (L : List Int) (t : TypeId) (m : Nat) (hm : m < L.length) : ∃ z : Int, (w.alloc (.cells (ints L).toArray t)).cell? ⟨w.heap.size, m, none⟩ = some (.int .i64 z) := by
  refine ⟨L.getD m 0, ?_⟩
  have := ints_at L m hm
  simp [go_sem, this]
theorem DN.lit {p : Nat} {a : Option Addr} {len cap : Nat} {w : World} {v : Value} {n : Nat} {L : List Int} {wr : World} (h : DN p a len cap w v n L wr) (M : List Int) :
    DN p a len cap w v n L (wr.alloc (.cells (ints M).toArray 2)) :=
  ⟨h.cur.below (bnew _ _), h.kept.trans (Kept.of_below (bnew _ _)), h.own.alloc _, by simpa using Nat.lt_succ_of_lt h.lt⟩

set_option maxRecDepth 100000 in
set_option maxHeartbeats 4000000 in
theorem drawNameOf_any (a : Option Addr) (len cap : Nat) (w : World) (h : Bytes a len w) :
    Calls Try.prog 9 #[.slice a len cap] w fun e w' => ∃ (L : List Int) (v : Value), e = .returned v ∧ L.length ≤ 9 ∧ w'.ownsRow w.heap.size 2 1 v L.length (ints L) ∧ Below w.heap.size w w' := by
  have hn := new_any a len cap w h
  have hcn := fun x => cur_new a len cap w h x
  have HAB0 : Hid (len = 0 ∨ ∀ b off, a = some ⟨b, off, none⟩ → b < w.heap.size) := by
    rcases h.2 with h0 | ⟨b, off, ha, hc⟩
    · exact .inl h0
    · by_cases h0 : len = 0
      · exact .inl h0
      · right
        intro b' off' ha'
        rw [ha] at ha'
        cases ha'
        obtain ⟨z, _, _, hz⟩ := hc 0 (by omega)
        exact World.block_lt_of_cell? w _ hz
  clear h
  go_enter Try.func9, Try.ntmps9
  go_wp2_with fail
  refine hn.mono ?_
  rintro e w1 ⟨hx, rfl, hw1⟩
  have hc1 := hcn hx
  rw [← hw1] at hc1
  have hs1 : w1.heap.size = w.heap.size + 1 := by rw [hw1]; simp
  have HB1 : Hid (Below w.heap.size w w1) := by show Below _ _ _; rw [hw1]; exact bnew _ _
  have hp : w.heap.size < w1.heap.size := by omega
  have HAB : Hid (len = 0 ∨ ∀ b off, a = some ⟨b, off, none⟩ → b < w1.heap.size) := HAB0.out.imp id (fun h b off e => Nat.lt_trans (h b off e) hp)
  clear hn hcn hw1 HAB0 hs1
  have HD0 : Hid (DN w.heap.size a len cap w1 (.slice (some ⟨w1.heap.size, 0, none⟩) 0 0) 0 [] (w1.alloc (.cells #[] 2))) :=
    ⟨hc1.below (bnew _ _), Kept.of_below (bnew _ _), World.ownsRow_lit w1 #[] 0 (Nat.le_refl _) (by unfold maxLen; omega) rfl, by simp⟩
  clear hc1
  have hd := below_any w.heap.size a len cap _ HD0.out.cur 8 (by omega) (by omega)
  go_wp2_with fail
  refine hd.mono ?_
  rintro e w2 ⟨m, rfl, m0, m1, hc, hk⟩
  have HD1 := hide (HD0.out.step hp hc hk)
  clear hd hc hk HD0
  obtain ⟨M, rfl⟩ : ∃ M : Nat, m = (M : Int) := ⟨m.toNat, by omega⟩
  go_wp2_with fail
  go_loopw [4, 5] (fun v i wr => ∃ (j : Nat) (L : List Int), i = .int .i64 j ∧ L.length + j ≤ 8 ∧ DN w.heap.size a len cap w1 v L.length L wr) (fun _ i _ => (intOf i).toNat)
  case atStart => exact ⟨M, [], rfl, by simp; omega, HD1.out⟩
  case round =>
    obtain ⟨j, L, rfl, hj, hD⟩ := hrel
    have HD := hide hD
    clear hD HD1
    by_cases hj0 : j = 0
    · subst hj0
      have hd := once_any w.heap.size a len cap _ HD.out.cur 10 (by omega) (by omega)
      go_wp2_with fail
      refine hd.mono ?_
      rintro e w3 ⟨q, rfl, hc, hk⟩
      have HD3 := hide (HD.out.step hp hc hk)
      clear hd hc hk HD
      cases q
      · have HF : Hid (w3.ownsRow w.heap.size 2 1 u4 L.length (ints L) ∧ Below w.heap.size w w3) := ⟨owns_mono HD3.out.own (Nat.le_of_lt hp), HB1.out.trans (HD3.out.kept.below (Nat.le_refl _) (Nat.le_of_lt hp))⟩
        clear HD3
        go_wp2_with fail
        go_ret
        exact ⟨L, _, rfl, by omega, HF.out.1, HF.out.2⟩
      · have HLit := hide (fun m hm => lit_cell w3 [27, -1, 1114112, 55296, 57343, 4611686018427387904] 2 m hm)
        have HDA := hide (HD3.out.lit [27, -1, 1114112, 55296, 57343, 4611686018427387904])
        have hd := below_any w.heap.size a len cap _ HDA.out.cur 6 (by omega) (by omega)
        have hs3 := HD3.out.lt
        clear HD3
        go_wp2_with fail
        refine hd.mono ?_
        rintro e w5 ⟨y5, rfl, y50, y51, hc, hk⟩
        obtain ⟨m5, rfl⟩ : ∃ i : Nat, y5 = (i : Int) := ⟨y5.toNat, by omega⟩
        have hm5 : m5 < 6 := by omega
        obtain ⟨z, hz⟩ := HLit.out m5 hm5
        have hz5 := hk.cell (a := ⟨w3.heap.size, m5, none⟩) (by show w3.heap.size ≠ w.heap.size; omega) hz
        have HD5 := hide (HDA.out.step hp hc hk)
        have HO5 := hide HD5.out.own
        have HS5 := hide (Nat.le_of_lt HD5.out.lt)
        have NL : Hid (L.length ≤ 1048576) := by show _ ≤ _; omega
        have hm5' : (m5 : Int) < 6 := by omega
        clear hd hc hk HDA HLit hz y50 y51
        go_wp2_with (refine growL _ rfl _ _ rfl w1.heap.size _ L.length L rfl w5 HO5.out (Below.refl _ _) HS5.out z rfl NL.out ?_)
        intro v' w' ho' hb' hs'
        have HD6 := hide (HD5.out.grown hp HAB.out ho' hb')
        clear ho' hb' hs'
        have HF : Hid (w'.ownsRow w.heap.size 2 1 v' (L ++ [z]).length (ints (L ++ [z])) ∧ Below w.heap.size w w') := by
          rw [List.length_append]
          exact ⟨owns_mono HD6.out.own (Nat.le_of_lt hp), HB1.out.trans (HD6.out.kept.below (Nat.le_refl _) (Nat.le_of_lt hp))⟩
        clear HD6 HD5 HO5 HS5
        go_wp2_with fail
        go_ret
        exact ⟨L ++ [z], _, rfl, by simp; omega, HF.out.1, HF.out.2⟩
    · have hj1 : (0 : Int) < (j : Int) := by omega
      have wj : IntKind.i64.wrap ((j : Int) - 1) = ((j - 1 : Nat) : Int) := by rw [IntKind.wrap_i64]; omega
      have hd := below_any w.heap.size a len cap _ HD.out.cur 26 (by omega) (by omega)
      go_wp2_with fail
      refine hd.mono ?_
      rintro e b1 ⟨x1, rfl, l1, r1, hc, hk⟩
      have HDb1 := hide (HD.out.step hp hc hk)
      clear hd hc hk HD
      have e1 : IntKind.i64.wrap (65 + x1) = 65 + x1 := by rw [IntKind.wrap_i64]; omega
      have hd := below_any w.heap.size a len cap _ HDb1.out.cur 128 (by omega) (by omega)
      go_wp2_with fail
      refine hd.mono ?_
      rintro e b2 ⟨x2, rfl, l2, r2, hc, hk⟩
      have HDb2 := hide (HDb1.out.step hp hc hk)
      clear hd hc hk HDb1
      have hd := below_any w.heap.size a len cap _ HDb2.out.cur 200 (by omega) (by omega)
      go_wp2_with fail
      refine hd.mono ?_
      rintro e b3 ⟨x3, rfl, l3, r3, hc, hk⟩
      have HDb3 := hide (HDb2.out.step hp hc hk)
      clear hd hc hk HDb2
      have e3 : IntKind.i64.wrap (128 + x3) = 128 + x3 := by rw [IntKind.wrap_i64]; omega
      have hd := below_any w.heap.size a len cap _ HDb3.out.cur 2 (by omega) (by omega)
      go_wp2_with fail
      refine hd.mono ?_
      rintro e b4 ⟨x4, rfl, l4, r4, hc, hk⟩
      have HDb4 := hide (HDb3.out.step hp hc hk)
      clear hd hc hk HDb3
      have e4 : IntKind.i64.wrap (2047 + x4) = 2047 + x4 := by rw [IntKind.wrap_i64]; omega
      have hd := below_any w.heap.size a len cap _ HDb4.out.cur 2 (by omega) (by omega)
      go_wp2_with fail
      refine hd.mono ?_
      rintro e b5 ⟨x5, rfl, l5, r5, hc, hk⟩
      have HDb5 := hide (HDb4.out.step hp hc hk)
      clear hd hc hk HDb4
      have e5 : IntKind.i64.wrap (65535 + x5) = 65535 + x5 := by rw [IntKind.wrap_i64]; omega
      have HLit := hide (fun m hm => lit_cell b5 [65 + x1, x2, 128 + x3, 2047 + x4, 65535 + x5, 1114111, 55295, 57344, 65533] 2 m hm)
      have HDA := hide (HDb5.out.lit [65 + x1, x2, 128 + x3, 2047 + x4, 65535 + x5, 1114111, 55295, 57344, 65533])
      have hd := below_any w.heap.size a len cap _ HDA.out.cur 9 (by omega) (by omega)
      have hs3 := HDb5.out.lt
      clear HDb5
      go_wp2_with fail
      refine hd.mono ?_
      rintro e w5 ⟨y5, rfl, y50, y51, hc, hk⟩
      obtain ⟨m5, rfl⟩ : ∃ i : Nat, y5 = (i : Int) := ⟨y5.toNat, by omega⟩
      have hm5 : m5 < 9 := by omega
      obtain ⟨z, hz⟩ := HLit.out m5 hm5
      have hz5 := hk.cell (a := ⟨b5.heap.size, m5, none⟩) (by show b5.heap.size ≠ w.heap.size; omega) hz
      have HD5 := hide (HDA.out.step hp hc hk)
      have HO5 := hide HD5.out.own
      have HS5 := hide (Nat.le_of_lt HD5.out.lt)
      have NL : Hid (L.length ≤ 1048576) := by show _ ≤ _; omega
      have hm5' : (m5 : Int) < 9 := by omega
      clear hd hc hk HDA HLit hz y50 y51 l1 r1 l2 r2 l3 r3 l4 r4 l5 r5
      go_wp2_with (refine growL _ rfl _ _ rfl w1.heap.size _ L.length L rfl w5 HO5.out (Below.refl _ _) HS5.out z rfl NL.out ?_)
      intro v' w' ho' hb' hs'
      have HD6 := hide (HD5.out.grown hp HAB.out ho' hb')
      clear ho' hb' hs'
      go_wp2_with fail
      go_roundw
      case rel => exact ⟨j - 1, L ++ [z], rfl, by simp; omega, by rw [List.length_append]; exact HD6.out⟩
      case measure => simp [intOf]; omega

end Go.Proofs.Yteadhhhhnihoaaa

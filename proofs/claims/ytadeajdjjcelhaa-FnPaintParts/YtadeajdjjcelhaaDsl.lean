/- The draw of a list of shapes, of a list and a size. -/
import Derived.Test.YtadeajdjjcelhaaDsh
import Derived.Test.YtadeajdjjcelhaaGro
namespace Go.Proofs.Ytadeajdjjcelhaa
open Go.RowKit

theorem info33 : ∃ i, Try.prog.info? 33 = some i ∧ i.zero = some (.agg #[.int .i64 0, .int .i64 0, .int .i64 0, .int .i64 0, .int .i64 0, .int .i64 0, .int .i64 0]) ∧ i.size = 7 ∧ i.bytes = 56 := ⟨_, rfl, rfl, rfl, rfl⟩

theorem Cur.belowB {p : Nat} {a : Option Addr} {len cap B : Nat} {w w' : World} (h : Cur p a len cap w) (hb : Below B w w') (hp : p < B) (hab : len = 0 ∨ ∀ b off, a = some ⟨b, off, none⟩ → b < B) : Cur p a len cap w' := by
  obtain ⟨h0, ⟨i, hi, h1⟩, ⟨y, h2⟩, f1, f2, hs, hby⟩ := h
  refine ⟨(hb.cell (p := ⟨p, 0, none⟩) hp).trans h0, ⟨i, hi, (hb.cell (p := ⟨p, 1, none⟩) hp).trans h1⟩, ⟨y, (hb.cell (p := ⟨p, 2, none⟩) hp).trans h2⟩, (hb.frozen (p := ⟨p, 1, none⟩) hp).trans f1, (hb.frozen (p := ⟨p, 2, none⟩) hp).trans f2, hs, ?_⟩
  rcases hab with h0 | hab
  · exact .inl h0
  rcases hby with hby | ⟨b, off, ha, hne, hby⟩
  · exact .inl hby
  · refine .inr ⟨b, off, ha, hne, fun k hk => ?_⟩
    obtain ⟨z, z0, z1, hz⟩ := hby k hk
    exact ⟨z, z0, z1, (hb.cell (p := ⟨b, off + k, none⟩) (hab b off ha)).trans hz⟩
theorem Kept.belowB {p B : Nat} {w wr w' : World} (h : Kept p w wr) (hb : Below B wr w') (hB : w.heap.size ≤ B) : Kept p w w' :=
  ⟨hb.os.trans h.os, hb.tape.trans h.tape, hb.output.trans h.output, Nat.le_trans h.size hb.size, fun k hk hkp => (hb.block k (by omega)).trans (h.block k hk hkp)⟩
theorem owns_kept {B p : Nat} {e : TypeId} {m : Nat} {v : Value} {n : Nat} {xs : List Value} {w w' : World} (h : w.ownsRow B e m v n xs) (hk : Kept p w w') (hp : p < B) : w'.ownsRow B e m v n xs := by
  refine ⟨h.1, ?_⟩
  rcases h.2 with hn | ⟨g, cap, cur, hv, hB, hg, rest⟩
  · exact .inl hn
  · refine .inr ⟨g, cap, cur, hv, hB, ?_, rest⟩
    have hlt : g < w.heap.size := by
      rcases Nat.lt_or_ge g w.heap.size with h | h
      · exact h
      · rw [Array.getElem?_eq_none (by omega)] at hg; cases hg
    rw [hk.block g hlt (by omega)]; exact hg
def lenOf : Value → Nat
  | .slice _ n _ => n
  | _ => 0
theorem lenOf_owns {B : Nat} {e : TypeId} {m : Nat} {v : Value} {n : Nat} {xs : List Value} {w : World} (h : w.ownsRow B e m v n xs) : ∃ a cap, v = .slice a n cap := by
  rcases h.2 with ⟨rfl, rfl⟩ | ⟨g, cap, cur, hv, _⟩
  · exact ⟨none, 0, rfl⟩
  · exact ⟨_, _, hv⟩

/-- what is known while a list of shapes is being drawn -/
structure DL (p : Nat) (a : Option Addr) (len cap : Nat) (w : World) (v : Value) (n : Nat) (L : List Int) (wr : World) : Prop where
  cur : Cur p a len cap wr
  kept : Kept p w wr
  own : wr.ownsRow w.heap.size 33 7 v n (ints L)
  lt : w.heap.size < wr.heap.size
  nn : ∃ g c, v = .slice (some ⟨g, 0, none⟩) n c
theorem DL.step {p : Nat} {a : Option Addr} {len cap : Nat} {w : World} {v : Value} {n : Nat} {L : List Int} {wr w' : World} (h : DL p a len cap w v n L wr) (hp : p < w.heap.size) (hc : Cur p a len cap w') (hk : Kept p wr w') : DL p a len cap w v n L w' :=
  ⟨hc, h.kept.trans hk, owns_kept h.own hk hp, Nat.lt_of_lt_of_le h.lt hk.size, h.nn⟩
theorem DL.grown {p : Nat} {a : Option Addr} {len cap : Nat} {w : World} {v v' : Value} {n n' : Nat} {L L' : List Int} {wr w' : World} (h : DL p a len cap w v n L wr) (hp : p < w.heap.size) (hab : len = 0 ∨ ∀ b off, a = some ⟨b, off, none⟩ → b < w.heap.size) (ho : w'.ownsRow w.heap.size 33 7 v' n' (ints L')) (hb : Below w.heap.size wr w') (hn' : 0 < n') : DL p a len cap w v' n' L' w' :=
  ⟨h.cur.belowB hb hp hab, h.kept.belowB hb (Nat.le_refl _), ho, Nat.lt_of_lt_of_le h.lt hb.size, by
    rcases ho.2 with ⟨_, h0⟩ | ⟨g, c, _, hv, _⟩
    · omega
    · exact ⟨g, c, hv⟩⟩

set_option maxRecDepth 20000 in
set_option maxHeartbeats 4000000 in
theorem drawShapes_any (p : Nat) (a : Option Addr) (len cap : Nat) (S : Int) (S1 : 1 ≤ S) (S2 : S ≤ 200) (w : World) (h : Cur p a len cap w) (hp : p < w.heap.size) (hab : len = 0 ∨ ∀ b off, a = some ⟨b, off, none⟩ → b < w.heap.size) :
    Calls Try.prog 36 #[.pointer (some ⟨p, 0, none⟩), .int .i64 S] w fun e w' => ∃ v n L, e = .returned v ∧ n ≤ 66 ∧ DL p a len cap w v n L w' := by
  obtain ⟨ti, hi1, hi2, hi3, hi4⟩ := info33
  have HI1 := hide hi1
  have HAB := hide hab
  have HD0 : Hid (DL p a len cap w (.slice (some ⟨w.heap.size, 0, none⟩) 0 0) 0 [] (w.alloc (.cells #[] 33))) :=
    ⟨h.below ((Below.refl _ _).alloc (Nat.le_refl _) _), Kept.of_below ((Below.refl _ _).alloc (Nat.le_refl _) _), World.ownsRow_lit w #[] 0 (Nat.le_refl _) (by unfold maxLen; omega) rfl, by simp, ⟨_, _, rfl⟩⟩
  have hd := below_any p a len cap _ HD0.out.cur 7 (by omega) (by omega)
  clear hi1 h hab
  go_enter Try.func36, Try.ntmps36
  go_wp2_with fail
  refine hd.mono ?_
  rintro e w1 ⟨m, rfl, m0, m1, hc, hk⟩
  have HD1 := hide (HD0.out.step hp hc hk)
  clear hd hc hk HD0
  go_wp2_with fail
  go_loopw [5, 6] (fun v i wr => ∃ (j n : Nat) (L : List Int), i = .int .i64 j ∧ n + j ≤ 6 ∧ DL p a len cap w v n L wr) (fun _ i _ => (intOf i).toNat)
  case atStart => exact ⟨m.toNat, 0, [], by congr 1; omega, by omega, HD1.out⟩
  case round =>
    obtain ⟨j, n, L, rfl, hn, hD⟩ := hrel
    have HD := hide hD
    clear hD HD1
    by_cases hj : j = 0
    · subst hj
      obtain ⟨b0, c0, hv⟩ := lenOf_owns HD.out.own
      subst hv
      have hd := once_any p a len cap _ HD.out.cur 60 (by omega) (by omega)
      go_wp2_with fail
      refine hd.mono ?_
      rintro e w2 ⟨q, rfl, hc, hk⟩
      have HD2 := hide (HD.out.step hp hc hk)
      clear hd hc hk HD
      cases q
      · go_wp2_with fail
        go_ret
        exact ⟨_, n, L, rfl, by omega, HD2.out⟩
      · go_wp2_with fail
        go_loopw [5] (fun v wr => ∃ (n : Nat) (L : List Int), n ≤ 65 ∧ DL p a len cap w v n L wr) (fun v _ => 66 - lenOf v)
        case atStart => exact ⟨n, L, by omega, HD2.out⟩
        case round =>
          obtain ⟨k, M, hk65, hD⟩ := hrel
          have HD := hide hD
          clear hD HD2
          obtain ⟨b1, c1, hv⟩ := lenOf_owns HD.out.own
          subst hv
          have hd := below_any p a len cap _ HD.out.cur 2 (by omega) (by omega)
          go_wp2_with fail
          refine hd.mono ?_
          rintro e w3 ⟨t, rfl, t0, t1, hc, hk⟩
          have HD3 := hide (HD.out.step hp hc hk)
          clear hd hc hk HD
          by_cases hlt : (k : Int) < 64 + t
          · have HS3 := hide (Nat.le_of_lt HD3.out.lt)
            go_wp2_with (refine grow _ rfl _ _ 24 rfl w.heap.size 33 ti (.agg #[.int .i64 0, .int .i64 0, .int .i64 0, .int .i64 0, .int .i64 0, .int .i64 0, .int .i64 0]) 7 56 Try.underlying24 HI1.out hi2 hi3 hi4 rfl (by omega) _ k M rfl _ HD3.out.own (Below.refl _ _) HS3.out [1, 0, 0, 1, 1, 0, 1] 1 1 rfl rfl (by unfold maxLen; omega) (by omega) ?_)
            intro v4 w4 ho hb hs
            have HD4 := hide (HD3.out.grown hp HAB.out ho hb (by omega))
            clear ho hb hs HD3 HS3
            obtain ⟨b4, c4, hv⟩ := lenOf_owns HD4.out.own
            subst hv
            go_wp2_with fail
            exact ⟨⟨k + 1, _, by omega, HD4.out⟩, by simp [lenOf]; omega⟩
          · go_wp2_with fail
            go_ret
            exact ⟨_, k, M, rfl, by omega, HD3.out⟩
    · have hd := drawShape_any p a len cap S S1 S2 _ HD.out.cur (Nat.lt_of_lt_of_le hp HD.out.kept.size) (HAB.out.imp id fun hh b off e => Nat.lt_of_lt_of_le (hh b off e) HD.out.kept.size)
      have hj' : (0 : Int) < j := by omega
      go_wp2_with fail
      refine hd.mono ?_
      rintro e w2 ⟨x0, x1, x2, x3, x4, x5, x6, rfl, hc, hk⟩
      have HD2 := hide (HD.out.step hp hc hk)
      have HS2 := hide (Nat.le_of_lt HD2.out.lt)
      clear hd hc hk HD
      go_wp2_with (refine grow _ rfl _ _ 24 rfl w.heap.size 33 ti (.agg #[.int .i64 0, .int .i64 0, .int .i64 0, .int .i64 0, .int .i64 0, .int .i64 0, .int .i64 0]) 7 56 Try.underlying24 HI1.out hi2 hi3 hi4 rfl (by omega) _ n L rfl _ HD2.out.own (Below.refl _ _) HS2.out [x0, x1, x2, x3, x4, x5, x6] 1 1 rfl rfl (by unfold maxLen; omega) (by omega) ?_)
      intro v4 w4 ho hb hs
      have HD4 := hide (HD2.out.grown hp HAB.out ho hb (by omega))
      clear ho hb hs HD2 HS2
      go_wp2_with fail
      exact ⟨⟨j - 1, n + 1, _, by congr 1; omega, by omega, HD4.out⟩, by simp [intOf]; omega⟩

end Go.Proofs.Ytadeajdjjcelhaa

/- The draw of a phase: numbers of any kind, a half, a list. -/
import Derived.Test.YtlfpiifbbicbpaaDrw
import Derived.Test.YtlfpiifbbicbpaaUnw
namespace Go.Proofs.Ytlfpiifbbicbpaa
open Go.RowKit

/-- a draw gives some number -/
def DrawnI (p : Nat) (a : Option Addr) (len cap : Nat) (w : World) (e : Ending) (w' : World) : Prop :=
  ∃ x : Int, e = .returned (.int .i64 x) ∧ Cur p a len cap w' ∧ Kept p w w'

set_option maxRecDepth 100000 in
theorem belowG (p : Nat) (a : Option Addr) (len cap : Nat) (w : World) (h : Cur p a len cap w) (n : Int) :
    Calls Try.prog 47 #[.pointer (some ⟨p, 0, none⟩), .int .i64 n] w (DrawnI p a len cap w) := by
  by_cases h0 : n ≤ 0
  · have HC := hide h
    clear h
    go_enter Try.func47, Try.ntmps47
    go_wp2_with fail
    go_ret
    exact ⟨_, rfl, HC.out, Kept.refl _ _⟩
  by_cases h1 : n ≤ 256
  · exact (below_any p a len cap w h n (by omega) h1).mono fun e w' ⟨x, he, _, _, hc, hk⟩ => ⟨x, he, hc, hk⟩
  have hn0 : (n == 0) = false := by simp; omega
  have hn1 : ¬ n = 0 := by omega
  have hd := byte_any p a len cap w h
  clear h
  go_enter Try.func47, Try.ntmps47
  go_wp2_with fail
  refine hd.mono ?_
  rintro e w1 ⟨x1, rfl, l1, u1, hc, hk⟩
  have HK1 := hide hk
  clear hd hk
  have hd := byte_any p a len cap w1 hc
  clear hc
  go_wp2_with fail
  refine hd.mono ?_
  rintro e w2 ⟨x2, rfl, l2, u2, hc, hk⟩
  have HK2 := hide (HK1.out.trans hk)
  clear hd hk HK1
  have hd := byte_any p a len cap w2 hc
  clear hc
  go_wp2_with fail
  refine hd.mono ?_
  rintro e w3 ⟨x3, rfl, l3, u3, hc, hk⟩
  have HK3 := hide (HK2.out.trans hk)
  clear hd hk HK2
  have hd := byte_any p a len cap w3 hc
  clear hc
  go_wp2_with fail
  refine hd.mono ?_
  rintro e w4 ⟨x4, rfl, l4, u4, hc, hk⟩
  have HK4 := hide (HK3.out.trans hk)
  have HC := hide hc
  clear hd hk HK3 hc
  go_wp2_with fail
  go_ret
  exact ⟨_, rfl, HC.out, HK4.out⟩

theorem fromG (p : Nat) (a : Option Addr) (len cap : Nat) (w : World) (h : Cur p a len cap w) (lo hi : Int) :
    Calls Try.prog 48 #[.pointer (some ⟨p, 0, none⟩), .int .i64 lo, .int .i64 hi] w (DrawnI p a len cap w) := by
  have hb := fun n => belowG p a len cap w h n
  clear h
  go_enter Try.func48, Try.ntmps48
  go_wp2_with fail
  refine (hb _).mono ?_
  rintro e w' ⟨x, rfl, hc, hk⟩
  clear hb
  go_wp2_with fail
  go_ret
  exact ⟨_, rfl, hc, hk⟩

theorem min_any (x y : Int) (w : World) : Calls Try.prog 49 #[.int .i64 x, .int .i64 y] w fun e w' => (∃ z : Int, e = .returned (.int .i64 z)) ∧ w' = w := by
  by_cases h : x < y
  · go_enter Try.func49, Try.ntmps49
    go_wp2
    go_ret
    exact ⟨⟨_, rfl⟩, rfl⟩
  · go_enter Try.func49, Try.ntmps49
    go_wp2
    go_ret
    exact ⟨⟨_, rfl⟩, rfl⟩

theorem Cur.belowB {p : Nat} {a : Option Addr} {len cap B : Nat} {w w' : World} (h : Cur p a len cap w) (hb : Below B w w') (hp : p < B) (hab : len = 0 ∨ ∀ b off, a = some ⟨b, off, none⟩ → b < B) : Cur p a len cap w' := by
  obtain ⟨h0, ⟨i, hi, h1⟩, ⟨y, h2⟩, f1, f2, hs, hby⟩ := h
  refine ⟨(hb.cell (p := ⟨p, 0, none⟩) hp).trans h0, ⟨i, hi, (hb.cell (p := ⟨p, 1, none⟩) hp).trans h1⟩, ⟨y, (hb.cell (p := ⟨p, 2, none⟩) hp).trans h2⟩, (hb.frozen (p := ⟨p, 1, none⟩) hp).trans f1, (hb.frozen (p := ⟨p, 2, none⟩) hp).trans f2, hs, ?_⟩
  rcases hab with h0 | hab
  · exact .inl h0
  rcases hby with hby | ⟨b, off, ha, hne, hby⟩
  · exact .inl hby
  · refine .inr ⟨b, off, ha, hne, fun k hk => ?_⟩
    obtain ⟨z, z0, z1, hz⟩ := hby k hk
    exact ⟨z, z0, z1, (hb.cell (p := ⟨b, off + k, none⟩) (hab b off ha)).trans hz⟩
theorem Kept.belowB {p B : Nat} {w wr w' : World} (h : Kept p w wr) (hb : Below B wr w') (hB : w.heap.size ≤ B) : Kept p w w' :=
  ⟨hb.os.trans h.os, hb.tape.trans h.tape, hb.output.trans h.output, Nat.le_trans h.size hb.size, fun k hk hkp => (hb.block k (by omega)).trans (h.block k hk hkp)⟩
theorem owns_kept {B p : Nat} {e : TypeId} {m : Nat} {v : Value} {n : Nat} {xs : List Value} {w w' : World} (h : w.ownsRow B e m v n xs) (hk : Kept p w w') (hp : p < B) : w'.ownsRow B e m v n xs := by
  refine ⟨h.1, ?_⟩
  rcases h.2 with hn | ⟨g, cap, cur, hv, hB, hg, rest⟩
  · exact .inl hn
  · refine .inr ⟨g, cap, cur, hv, hB, ?_, rest⟩
    have hlt : g < w.heap.size := by
      rcases Nat.lt_or_ge g w.heap.size with h | h
      · exact h
      · rw [Array.getElem?_eq_none (by omega)] at hg; cases hg
    rw [hk.block g hlt (by omega)]; exact hg

/-- what is known while a list of numbers is being drawn -/
structure DN (p : Nat) (a : Option Addr) (len cap : Nat) (w : World) (v : Value) (n : Nat) (L : List Int) (wr : World) : Prop where
  cur : Cur p a len cap wr
  kept : Kept p w wr
  own : wr.ownsRow w.heap.size 2 1 v n (ints L)
  lt : w.heap.size < wr.heap.size
theorem DN.step {p : Nat} {a : Option Addr} {len cap : Nat} {w : World} {v : Value} {n : Nat} {L : List Int} {wr w' : World} (h : DN p a len cap w v n L wr) (hp : p < w.heap.size) (hc : Cur p a len cap w') (hk : Kept p wr w') : DN p a len cap w v n L w' :=
  ⟨hc, h.kept.trans hk, owns_kept h.own hk hp, Nat.lt_of_lt_of_le h.lt hk.size⟩
theorem DN.grown {p : Nat} {a : Option Addr} {len cap : Nat} {w : World} {v v' : Value} {n n' : Nat} {L L' : List Int} {wr w' : World} (h : DN p a len cap w v n L wr) (hp : p < w.heap.size) (hab : len = 0 ∨ ∀ b off, a = some ⟨b, off, none⟩ → b < w.heap.size) (ho : w'.ownsRow w.heap.size 2 1 v' n' (ints L')) (hb : Below w.heap.size wr w') : DN p a len cap w v' n' L' w' :=
  ⟨h.cur.belowB hb hp hab, h.kept.belowB hb (Nat.le_refl _), ho, Nat.lt_of_lt_of_le h.lt hb.size⟩

/-- a literal of numbers: each cell of it -/
theorem lit_cell (w : World) (L : List Int) (t : TypeId) (m : Nat) (hm : m < L.length) : ∃ z : Int, (w.alloc (.cells (ints L).toArray t)).cell? ⟨w.heap.size, m, none⟩ = some (.int .i64 z) := by
  refine ⟨L.getD m 0, ?_⟩
  have := ints_at L m hm
  simp [go_sem, this]

set_option maxRecDepth 100000 in
set_option maxHeartbeats 1000000 in
theorem drawHalf_any (p : Nat) (a : Option Addr) (len cap : Nat) (w : World) (h : Cur p a len cap w) (hp : p < w.heap.size) :
    Calls Try.prog 31 #[.pointer (some ⟨p, 0, none⟩)] w (DrawnI p a len cap w) := by
  have hd := below_any p a len cap w h 40 (by omega) (by omega)
  clear h
  go_enter Try.func31, Try.ntmps31
  go_wp2_with fail
  refine hd.mono ?_
  rintro e w1 ⟨x, rfl, x0, x1, hc, hk⟩
  have HK1 := hide hk
  have hs1 := hk.size
  clear hd hk
  have hd := once_any p a len cap w1 hc 20 (by omega) (by omega)
  clear hc
  go_wp2_with fail
  refine hd.mono ?_
  rintro e w2 ⟨q, rfl, hc, hk⟩
  have HK2 := hide (HK1.out.trans hk)
  have hs2 := hk.size
  clear hd hk HK1
  cases q
  · have HC := hide hc
    clear hc
    go_wp2_with fail
    go_ret
    exact ⟨_, rfl, HC.out, HK2.out⟩
  · have HB : Hid (Below w2.heap.size w2 (w2.alloc (.cells #[.int .i64 0, .int .i64 1, .int .i64 1000000, .int .i64 1000001, .int .i64 (-1), .int .i64 4611686018427387904] 2))) := bnew _ _
    have hd := below_any p a len cap _ (hc.below HB.out) 6 (by omega) (by omega)
    have hlit := fun m hm => lit_cell w2 [0, 1, 1000000, 1000001, -1, 4611686018427387904] 2 m hm
    have HLit := hide hlit
    clear hc hlit
    go_wp2_with fail
    refine hd.mono ?_
    rintro e w3 ⟨y, rfl, y0, y1, hc, hk⟩
    obtain ⟨m, rfl⟩ : ∃ m : Nat, y = (m : Int) := ⟨y.toNat, by omega⟩
    have hm6 : m < 6 := by omega
    obtain ⟨z, hz⟩ := HLit.out m hm6
    have hz3 := hk.cell (a := ⟨w2.heap.size, m, none⟩) (by show w2.heap.size ≠ p; omega) hz
    have HK3 := hide ((HK2.out.trans (Kept.of_below HB.out)).trans hk)
    have HC := hide hc
    clear hd hk HK2 hz HLit HB hc y0 y1
    have hm6' : (m : Int) < 6 := by omega
    go_wp2_with fail
    go_ret
    exact ⟨_, rfl, HC.out, HK3.out⟩

end Go.Proofs.Ytlfpiifbbicbpaa

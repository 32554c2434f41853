/- Draws of numbers of any kind; the cursor behind other work. -/
import Derived.Test.YtjdbiaoheoialaaDrw
import Derived.Test.YtjdbiaoheoialaaHom
namespace Go.Proofs.Ytjdbiaoheoialaa
open Go.RowKit

/-- a draw gives some number -/
def DrawnI (p : Nat) (a : Option Addr) (len cap : Nat) (w : World) (e : Ending) (w' : World) : Prop :=
  ∃ x : Int, e = .returned (.int .i64 x) ∧ Cur p a len cap w' ∧ Kept p w w'

set_option maxRecDepth 100000 in
theorem belowG (p : Nat) (a : Option Addr) (len cap : Nat) (w : World) (h : Cur p a len cap w) (n : Int) :
    Calls Try.prog 31 #[.pointer (some ⟨p, 0, none⟩), .int .i64 n] w (DrawnI p a len cap w) := by
  by_cases h0 : n ≤ 0
  · have HC := hide h
    clear h
    go_enter Try.func31, Try.ntmps31
    go_wp2_with fail
    go_ret
    exact ⟨_, rfl, HC.out, Kept.refl _ _⟩
  by_cases h1 : n ≤ 256
  · exact (below_any p a len cap w h n (by omega) h1).mono fun e w' ⟨x, he, _, _, hc, hk⟩ => ⟨x, he, hc, hk⟩
  have hn0 : (n == 0) = false := by simp; omega
  have hn1 : ¬ n = 0 := by omega
  have hd := byte_any p a len cap w h
  clear h
  go_enter Try.func31, Try.ntmps31
  go_wp2_with fail
  refine hd.mono ?_
  rintro e w1 ⟨x1, rfl, l1, u1, hc, hk⟩
  have HK1 := hide hk
  clear hd hk
  have hd := byte_any p a len cap w1 hc
  clear hc
  go_wp2_with fail
  refine hd.mono ?_
  rintro e w2 ⟨x2, rfl, l2, u2, hc, hk⟩
  have HK2 := hide (HK1.out.trans hk)
  clear hd hk HK1
  have hd := byte_any p a len cap w2 hc
  clear hc
  go_wp2_with fail
  refine hd.mono ?_
  rintro e w3 ⟨x3, rfl, l3, u3, hc, hk⟩
  have HK3 := hide (HK2.out.trans hk)
  clear hd hk HK2
  have hd := byte_any p a len cap w3 hc
  clear hc
  go_wp2_with fail
  refine hd.mono ?_
  rintro e w4 ⟨x4, rfl, l4, u4, hc, hk⟩
  have HK4 := hide (HK3.out.trans hk)
  have HC := hide hc
  clear hd hk HK3 hc
  go_wp2_with fail
  go_ret
  exact ⟨_, rfl, HC.out, HK4.out⟩

theorem fromG (p : Nat) (a : Option Addr) (len cap : Nat) (w : World) (h : Cur p a len cap w) (lo hi : Int) :
    Calls Try.prog 46 #[.pointer (some ⟨p, 0, none⟩), .int .i64 lo, .int .i64 hi] w (DrawnI p a len cap w) := by
  have hb := fun n => belowG p a len cap w h n
  clear h
  go_enter Try.func46, Try.ntmps46
  go_wp2_with fail
  refine (hb _).mono ?_
  rintro e w' ⟨x, rfl, hc, hk⟩
  clear hb
  go_wp2_with fail
  go_ret
  exact ⟨_, rfl, hc, hk⟩

theorem Cur.belowB {p : Nat} {a : Option Addr} {len cap B : Nat} {w w' : World} (h : Cur p a len cap w) (hb : Below B w w') (hp : p < B) (hab : len = 0 ∨ ∀ b off, a = some ⟨b, off, none⟩ → b < B) : Cur p a len cap w' := by
  obtain ⟨h0, ⟨i, hi, h1⟩, ⟨y, h2⟩, f1, f2, hs, hby⟩ := h
  refine ⟨(hb.cell (p := ⟨p, 0, none⟩) hp).trans h0, ⟨i, hi, (hb.cell (p := ⟨p, 1, none⟩) hp).trans h1⟩, ⟨y, (hb.cell (p := ⟨p, 2, none⟩) hp).trans h2⟩, (hb.frozen (p := ⟨p, 1, none⟩) hp).trans f1, (hb.frozen (p := ⟨p, 2, none⟩) hp).trans f2, hs, ?_⟩
  rcases hab with h0 | hab
  · exact .inl h0
  rcases hby with hby | ⟨b, off, ha, hne, hby⟩
  · exact .inl hby
  · refine .inr ⟨b, off, ha, hne, fun k hk => ?_⟩
    obtain ⟨z, z0, z1, hz⟩ := hby k hk
    exact ⟨z, z0, z1, (hb.cell (p := ⟨b, off + k, none⟩) (hab b off ha)).trans hz⟩
theorem Kept.belowB {p B : Nat} {w wr w' : World} (h : Kept p w wr) (hb : Below B wr w') (hB : w.heap.size ≤ B) : Kept p w w' :=
  ⟨hb.os.trans h.os, hb.tape.trans h.tape, hb.output.trans h.output, Nat.le_trans h.size hb.size, fun k hk hkp => (hb.block k (by omega)).trans (h.block k hk hkp)⟩
theorem owns_kept {B p : Nat} {e : TypeId} {m : Nat} {v : Value} {n : Nat} {xs : List Value} {w w' : World} (h : w.ownsRow B e m v n xs) (hk : Kept p w w') (hp : p < B) : w'.ownsRow B e m v n xs := by
  refine ⟨h.1, ?_⟩
  rcases h.2 with hn | ⟨g, cap, cur, hv, hB, hg, rest⟩
  · exact .inl hn
  · refine .inr ⟨g, cap, cur, hv, hB, ?_, rest⟩
    have hlt : g < w.heap.size := by
      rcases Nat.lt_or_ge g w.heap.size with h | h
      · exact h
      · rw [Array.getElem?_eq_none (by omega)] at hg; cases hg
    rw [hk.block g hlt (by omega)]; exact hg

end Go.Proofs.Ytjdbiaoheoialaa

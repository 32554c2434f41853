/- The draw of a brush, right or not; of a mask and a brush. -/
import Derived.Test.YtchbaegmkaibcaaDbr
import Derived.Test.YtchbaegmkaibcaaDmr
import Derived.Test.YtchbaegmkaibcaaBxs
import Derived.Test.YtchbaegmkaibcaaRgv
import Derived.Deep.CutBlock
import Derived.Deep.DeepCutAuto
import Derived.Deep.RegionHeld
import Derived.Deep.RegionWith
namespace Go.Proofs.Ytchbaegmkaibcaa
open Go.RowKit

/-- a list of spots of the call's own, while it is drawn -/
def LBs (p : Nat) (a : Option Addr) (len cap N : Nat) (w : World) (v : Value) (wr : World) : Prop :=
  ∃ m L, m ≤ N ∧ wr.ownsRow w.heap.size 35 2 v m (ints L) ∧ Cur p a len cap wr ∧ Kept p w wr
/-- some brush is drawn -/
def DrawnT (p : Nat) (a : Option Addr) (len cap N : Nat) (w : World) (e : Ending) (w' : World) : Prop := ∃ v, e = .returned v ∧ LBs p a len cap N w v w'
theorem own_isS {w : World} {B n m : Nat} {e : TypeId} {v : Value} {xs : List Value} (h : w.ownsRow B e m v n xs) : ∃ a cap, v = .slice a n cap ∧ n ≤ cap := by
  obtain ⟨_, ⟨rfl, rfl⟩ | ⟨g, cap, cur, hv, _, _, hc, _⟩⟩ := h
  · exact ⟨none, 0, rfl, Nat.le_refl _⟩
  · exact ⟨_, cap, hv, hc⟩
/-- a spot is appended -/
theorem growT (w : World) {ops : Array Oper} {rest : List Oper} {o : Oper} {a : Act} {Q : Exit → Act → World → Prop} (hgd : o.guard = none) (s x : Operand)
    (ho : o.op = .call { callee := .builtin .append, args := #[s, x], argTypes := #[27, 27] }) (p : Nat) (a0 : Option Addr) (len cap N : Nat) (w0 : World) (v : Value) (hs : a.eval s = v) (hown : LBs p a0 len cap N w0 v w) (hp : p < w0.heap.size) (hab : len = 0 ∨ ∀ b off, a0 = some ⟨b, off, none⟩ → b < w0.heap.size) (hN : N ≤ 1000)
    (x0 x1 : Int) (hx : a.eval x = .slice (some ⟨w.heap.size, 0, none⟩) 1 1)
    (h : ∀ v' w', LBs p a0 len cap (N + 1) w0 v' w' → wpList Try.prog ops Q rest (a.put o.dst v') w') :
    wpList Try.prog ops Q (o :: rest) a (w.alloc (.cells #[.int .i64 x0, .int .i64 x1] 35)) := by
  obtain ⟨m, L, hm, ho', hc, hk⟩ := hown
  obtain ⟨ti, hi1, hi2, hi3, hi4⟩ := infoS
  refine grow w hgd s x 27 ho w0.heap.size 35 ti (vSpot2 0 0) 2 16 Try.underlying27 hi1 hi2 hi3 hi4 rfl (by omega) v m L hs w ho' (Below.refl _ _) hk.size [x0, x1] 1 1 hx rfl (by unfold maxLen; omega) (by omega) ?_
  intro v' w' g1 g2 _
  exact h v' w' ⟨m + 1, _, by omega, g1, hc.belowB g2 hp hab, hk.belowB g2 (Nat.le_refl _)⟩
theorem LBs.step {p : Nat} {a : Option Addr} {len cap N : Nat} {w : World} {v : Value} {wr w' : World} (h : LBs p a len cap N w v wr) (hp : p < w.heap.size) (hc : Cur p a len cap w') (hk : Kept p wr w') : LBs p a len cap N w v w' := by
  obtain ⟨m, L, hm, ho, _, hk'⟩ := h
  exact ⟨m, L, hm, owns_kept ho hk hp, hc, hk'.trans hk⟩
theorem LBs.cur {p : Nat} {a : Option Addr} {len cap N : Nat} {w : World} {v : Value} {wr : World} (h : LBs p a len cap N w v wr) : Cur p a len cap wr := by
  obtain ⟨m, L, hm, ho, hc, _⟩ := h
  exact hc
theorem LBs.more {p : Nat} {a : Option Addr} {len cap N N' : Nat} {w : World} {v : Value} {wr : World} (h : LBs p a len cap N w v wr) (hN : N ≤ N') : LBs p a len cap N' w v wr := by
  obtain ⟨m, L, hm, hr⟩ := h
  exact ⟨m, L, Nat.le_trans hm hN, hr⟩

set_option maxRecDepth 100000 in
set_option maxHeartbeats 4000000 in
theorem drawAnyBrush_any (p : Nat) (a : Option Addr) (len cap : Nat) (w : World) (h : Cur p a len cap w) (hp : p < w.heap.size) (hab : len = 0 ∨ ∀ b off, a = some ⟨b, off, none⟩ → b < w.heap.size) :
    Calls Try.prog 15 #[.pointer (some ⟨p, 0, none⟩)] w (DrawnT p a len cap 27 w) := by
  have c0 := drawBrush_any p a len cap w h hp hab
  have HAB := hide hab
  clear h hab
  go_enter Try.func15, Try.ntmps15
  go_wp2_with fail
  refine c0.mono ?_
  rintro e w1 ⟨v, m, f, rfl, hm, ho, hc, hk⟩
  have HL1 : Hid (LBs p a len cap 5 w v w1) := ⟨m, _, hm, ho, hc, hk⟩
  clear c0 ho hc hk hm
  have hd := once_any p a len cap _ HL1.out.cur 12 (by omega) (by omega)
  go_upto_if 8 with (first | (refine hd.mono ?_; rintro e w2 ⟨q, rfl, hc, hk⟩; have HL2 := hide (HL1.out.step hp hc hk); clear hd hc hk HL1))
  go_cut [3] (fun s wc => LBs p a len cap 6 w s wc)
  case first =>
    cases q
    · go_wp2_with fail
      go_meet
      exact HL2.out.more (by omega)
    · have c2 := fromG p a len cap _ HL2.out.cur (-6) 6
      go_wp2_with fail
      refine c2.mono ?_
      rintro e w3 ⟨x0, rfl, hc, hk⟩
      have HL3 := hide (HL2.out.step hp hc hk)
      have c3 := fromG p a len cap _ hc (-6) 6
      clear c2 hc hk HL2
      go_wp2_with fail
      refine c3.mono ?_
      rintro e w4 ⟨x1, rfl, hc, hk⟩
      have HL4 := hide (HL3.out.step hp hc hk)
      clear c3 hc hk HL3
      go_wp2_with (refine growT w4 rfl _ _ rfl p a len cap 5 w v rfl HL4.out hp HAB.out (by omega) x0 x1 rfl ?_)
      intro v' w' hL
      have HL := hide hL
      clear hL HL4
      go_wp2_with fail
      go_meet
      exact HL.out
  case rest =>
  have HL3 := hide hcut
  clear hcut HL2
  obtain ⟨m3, L3, hm3, ho3, -, -⟩ := HL3.out
  obtain ⟨a3, c3', rfl, -⟩ := own_isS ho3
  have HO3 := hide ho3
  clear ho3 hm3
  go_upto_region 4 with fail
  go_cut [23] (fun s wc => ∃ bq : Bool, s = .bool bq ∧ (bq = true → 0 < m3) ∧ LBs p a len cap 6 w (.slice a3 m3 c3') wc)
  case first =>
    have hd := once_any p a len cap _ HL3.out.cur 16 (by omega) (by omega)
    go_wp2_with fail
    refine hd.mono ?_
    rintro e w4 ⟨q, rfl, hc, hk⟩
    have HL4 := hide (HL3.out.step hp hc hk)
    clear hd hc hk HL3 HO3
    cases q
    · go_wp2_with fail
      go_meet
      exact ⟨_, rfl, fun h => by simp at h, HL4.out⟩
    · by_cases h0 : 0 < m3
      · have hni : (0 : Int) < (m3 : Int) := by omega
        go_wp2_with fail
        go_meet
        exact ⟨_, rfl, fun _ => h0, HL4.out⟩
      · obtain rfl : m3 = 0 := by omega
        go_wp2_with fail
        go_meet
        exact ⟨_, rfl, fun h => by simp at h, HL4.out⟩
  case rest =>
  obtain ⟨bq, rfl, hq0, hL⟩ := hcut
  have HL4 := hide hL
  clear hL HL3 HO3
  go_upto_if 23 with fail
  go_cut [3] (fun s wc => LBs p a len cap 7 w s wc)
  case first =>
    cases bq
    · go_wp2_with fail
      go_meet
      exact HL4.out.more (by omega)
    · have h0 := hq0 rfl
      have hni : (0 : Int) < (m3 : Int) := by omega
      obtain ⟨x0, x1, b3, hb3, y0, y1⟩ : ∃ x0 x1 b3, a3 = some ⟨b3, 0, none⟩ ∧ wc.cell? ⟨b3, 0, none⟩ = some (.int .i64 x0) ∧ wc.cell? ⟨b3, 1, none⟩ = some (.int .i64 x1) := by
        obtain ⟨m', L', _, ho, -, -⟩ := HL4.out
        obtain ⟨ac, cc, hv, -⟩ := own_isS ho
        obtain ⟨-, rfl, -⟩ := Value.slice.inj hv
        obtain ⟨hlen, ⟨h1, rfl⟩ | ⟨g, cap', cur, h1, _⟩⟩ := id ho
        · omega
        · obtain ⟨rfl, -, rfl⟩ := Value.slice.inj h1
          rw [ints_length] at hlen
          refine ⟨L'.getD 0 0, L'.getD 1 0, g, rfl, ?_, ?_⟩
          · rw [ho.cellAt 0 (by omega), ints_at _ _ (by omega)]
          · rw [ho.cellAt 1 (by omega), ints_at _ _ (by omega)]
      subst hb3
      go_wp2_with (refine growT wc rfl _ _ rfl p a len cap 6 w (.slice (some ⟨b3, 0, none⟩) m3 c3') rfl HL4.out hp HAB.out (by omega) x0 x1 rfl ?_)
      intro v' w' hL
      have HL := hide hL
      clear hL HL4 y0 y1
      go_wp2_with fail
      go_meet
      exact HL.out
  case rest =>
  have HL5 := hide hcut
  clear hcut HL4
  have hd := once_any p a len cap _ HL5.out.cur 40 (by omega) (by omega)
  go_wp2_with fail
  refine hd.mono ?_
  rintro e w6 ⟨q, rfl, hc, hk⟩
  have HL6 := hide (HL5.out.step hp hc hk)
  clear hd hc hk HL5
  cases q
  · go_wp2_with fail
    go_ret
    exact ⟨_, rfl, HL6.out.more (by omega)⟩
  · have HN : Hid (LBs p a len cap 0 w (.slice (some ⟨w6.heap.size, 0, none⟩) 0 0) (w6.alloc (.cells #[] 35))) := by
      obtain ⟨m, L, _, _, hc, hk⟩ := HL6.out
      exact ⟨0, [], Nat.le_refl _, World.ownsRow_lit w6 #[] 0 hk.size (by unfold maxLen; omega) rfl, hc.below (bnew _ _), hk.trans (Kept.of_below (bnew _ _))⟩
    clear HL6
    go_upto_region 8 with fail
    generalize hv6 : Value.slice (some ⟨w6.heap.size, 0, none⟩) 0 0 = v6 at *
    generalize hw7 : w6.alloc (.cells #[] 35) = w7 at *
    clear hv6 hw7
    go_wp2_with fail
    go_loopw [3, 4] (fun s i wr => ∃ k : Nat, i = .int .i64 k ∧ k ≤ 26 ∧ LBs p a len cap k w s wr) (fun _ i _ => 26 - (intOf i).toNat)
    case atStart => exact ⟨0, rfl, by omega, HN.out⟩
    case round =>
      obtain ⟨k, rfl, hk26, hL⟩ := hrel
      have HL := hide hL
      clear hL HN
      have hd := below_any p a len cap _ HL.out.cur 2 (by omega) (by omega)
      go_wp2_with fail
      refine hd.mono ?_
      rintro e w8 ⟨y, rfl, y0, y1, hc, hk⟩
      have HL8 := hide (HL.out.step hp hc hk)
      have hwy : IntKind.i64.wrap (25 + y) = 25 + y := by rw [IntKind.wrap_i64]; omega
      clear hd hc hk HL
      by_cases hlt : (k : Int) < 25 + y
      · have HK1 : Hid (k + 1 ≤ 26) := by show _ ≤ _; omega
        have HMe : Hid (26 - (k + 1) < 26 - k) := by show _ < _; omega
        have hkw : IntKind.i64.wrap ((k : Int) + 1) = (k : Int) + 1 := by rw [IntKind.wrap_i64]; omega
        have HkB : Hid (k ≤ 1000) := by show _ ≤ _; omega
        obtain ⟨X0, hX0⟩ : ∃ X0, IntKind.i64.wrap ((k : Int).tmod 11 - 5) = X0 := ⟨_, rfl⟩
        obtain ⟨X1, hX1⟩ : ∃ X1, IntKind.i64.wrap (IntKind.i64.wrap ((k : Int).tdiv 11) - 1) = X1 := ⟨_, rfl⟩
        go_wp2_with (refine growT w8 rfl _ _ rfl p a len cap k w u3 rfl HL8.out hp HAB.out HkB.out _ _ rfl ?_)
        intro v' w' hL
        have HL := hide hL
        clear hL HL8 hX0 hX1 hwy
        go_wp2_with fail
        go_roundw
        case rel => exact ⟨k + 1, by simp, HK1.out, HL.out⟩
        case measure => simpa [intOf] using HMe.out
      · go_wp2_with fail
        go_ret
        exact ⟨_, rfl, HL8.out.more (by omega)⟩

end Go.Proofs.Ytchbaegmkaibcaa

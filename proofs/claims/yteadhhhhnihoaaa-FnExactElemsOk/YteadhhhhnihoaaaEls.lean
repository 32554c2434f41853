/- Lists of elements: the law's own sizes, copies, comparisons. -/
import Derived.Test.YteadhhhhnihoaaaHom
import Derived.Deep.RegionHeld
import Derived.BigRegion
namespace Go.Proofs.Yteadhhhhnihoaaa
open Go.RowKit

/-- an element: what it says -/
structure El where
  g : Int
  n : Int
  k : Int
  t : ByteArray
  ln : Nat
  f : Nat → Int
  s : Int
/-- an element as a value -/
abbrev vE (g n k : Int) (t : ByteArray) (x : Option Addr) (l c : Nat) (s : Int) : Value := .agg #[.int .i64 g, .int .i64 n, .int .i64 k, .string t, .slice x l c, .int .i64 s]
/-- the sum of the lengths -/
def sumN (ln : Nat → Nat) : Nat → Nat
  | 0 => 0
  | m + 1 => sumN ln m + ln m
theorem sumN_le {ln : Nat → Nat} : ∀ {k m : Nat}, k < m → ln k ≤ sumN ln m
  | k, m + 1, h => by
    unfold sumN
    by_cases e : k = m
    · subst e; omega
    · have := sumN_le (ln := ln) (k := k) (m := m) (by omega); omega
theorem cell_kept {w w' : World} {b j : Nat} {v : Value} (hb : Below w.heap.size w w') (h : w.cell? ⟨b, j, none⟩ = some v) : w'.cell? ⟨b, j, none⟩ = some v :=
  (hb.cell (p := ⟨b, j, none⟩) (World.block_lt_of_cell? w _ h)).trans h
/-- the six cells of an element at a place -/
def C6 (b o : Nat) (e : El) (x : Option Addr) (c : Nat) (w : World) : Prop :=
  w.cell? ⟨b, o, none⟩ = some (.int .i64 e.g) ∧ w.cell? ⟨b, o + 1, none⟩ = some (.int .i64 e.n) ∧ w.cell? ⟨b, o + 2, none⟩ = some (.int .i64 e.k) ∧ w.cell? ⟨b, o + 3, none⟩ = some (.string e.t) ∧ w.cell? ⟨b, o + 4, none⟩ = some (.slice x e.ln c) ∧ w.cell? ⟨b, o + 5, none⟩ = some (.int .i64 e.s)
theorem C6.below {b o : Nat} {e : El} {x : Option Addr} {c : Nat} {w w' : World} (h : C6 b o e x c w) (hb : Below w.heap.size w w') : C6 b o e x c w' := by
  obtain ⟨h0, h1, h2, h3, h4, h5⟩ := h
  exact ⟨cell_kept hb h0, cell_kept hb h1, cell_kept hb h2, cell_kept hb h3, cell_kept hb h4, cell_kept hb h5⟩
/-- a list of elements is there -/
def PxE (a : Option Addr) (m : Nat) (ad : Nat → Option Addr) (cp : Nat → Nat) (E : Nat → El) (w : World) : Prop :=
  (m = 0 ∨ ∃ b off, a = some ⟨b, off, none⟩ ∧ ∀ i, i < m → C6 b (off + i * 6) (E i) (ad i) (cp i) w) ∧ ∀ i, i < m → Px (ad i) (E i).ln (E i).f w
theorem PxE.below {a : Option Addr} {m : Nat} {ad : Nat → Option Addr} {cp : Nat → Nat} {E : Nat → El} {w w' : World} (h : PxE a m ad cp E w) (hb : Below w.heap.size w w') : PxE a m ad cp E w' := by
  obtain ⟨h1, h2⟩ := h
  refine ⟨?_, fun i hi => (h2 i hi).below hb⟩
  rcases h1 with h1 | ⟨b, off, ha, hc⟩
  · exact .inl h1
  · exact .inr ⟨b, off, ha, fun i hi => (hc i hi).below hb⟩
theorem PxE.at {a : Option Addr} {m i : Nat} {ad : Nat → Option Addr} {cp : Nat → Nat} {E : Nat → El} {w : World} (h : PxE a m ad cp E w) (hi : i < m) :
    ∃ b off, a = some ⟨b, off, none⟩ ∧ C6 b (off + i * 6) (E i) (ad i) (cp i) w := by
  rcases h.1 with h1 | ⟨b, off, ha, hc⟩
  · omega
  · exact ⟨b, off, ha, hc i hi⟩

set_option maxRecDepth 100000 in
set_option maxHeartbeats 1000000 in
theorem szElem_any (g n k : Int) (t : ByteArray) (x : Option Addr) (l c : Nat) (s left : Int) (h0 : 0 ≤ left) (h1 : left ≤ 1048576) (ht : t.size ≤ maxLen) (hl : (l : Int) ≤ 9223372036854775807) (w : World) :
    Calls Try.prog 33 #[vE g n k t x l c s, .int .i64 left] w fun e w' => e = .returned (.int .i64 (if left < (t.size : Int) + l then -1 else left - ((t.size : Int) + l))) ∧ Below w.heap.size w w' := by
  unfold maxLen at ht
  have HB := hide (bnew w (.cells #[.int .i64 g, .int .i64 n, .int .i64 k, .string t, .slice x l c, .int .i64 s] 51))
  have wl : IntKind.i64.wrap (left - (t.size : Int)) = left - (t.size : Int) := by rw [IntKind.wrap_i64]; omega
  by_cases hq : left < (t.size : Int)
  · rw [if_pos (by omega)]
    have h9 : left - (t.size : Int) < 0 := by omega
    go_enter Try.func33, Try.ntmps33
    go_wp2_with fail
    go_ret
    exact ⟨rfl, HB.out⟩
  · have h8 : ¬ left - (t.size : Int) < 0 := by omega
    have cz := sz_any x l c (left - (t.size : Int)) (by omega) (by omega) hl
    by_cases hq2 : left - (t.size : Int) < (l : Int)
    · rw [if_pos hq2] at cz
      rw [if_pos (by omega)]
      go_enter Try.func33, Try.ntmps33
      go_wp2_with fail
      refine (cz _).mono ?_
      rintro e w1 ⟨rfl, rfl⟩
      go_wp2_with fail
      go_ret
      exact ⟨rfl, HB.out⟩
    · rw [if_neg hq2] at cz
      rw [if_neg (by omega)]
      obtain ⟨R, hR⟩ : ∃ R, R = left - (t.size : Int) - (l : Int) := ⟨_, rfl⟩
      rw [← hR] at cz
      have h9 : ¬ R < 0 := by omega
      rw [show left - ((t.size : Int) + l) = R by omega]
      clear hR
      go_enter Try.func33, Try.ntmps33
      go_wp2_with fail
      refine (cz _).mono ?_
      rintro e w1 ⟨rfl, rfl⟩
      go_wp2_with fail
      go_ret
      exact ⟨rfl, HB.out⟩

/-- how much an element's text and numbers are -/
def elN (E : Nat → El) (i : Nat) : Nat := (E i).t.size + (E i).ln

set_option maxRecDepth 100000 in
set_option maxHeartbeats 2000000 in
theorem szElemS_any (a : Option Addr) (m cap : Nat) (ad : Nat → Option Addr) (cp : Nat → Nat) (E : Nat → El) (hm : m ≤ maxLen) (hl : ∀ i, (E i).ln ≤ maxLen ∧ (E i).t.size ≤ maxLen) (w : World) (h : PxE a m ad cp E w) :
    Calls Try.prog 14 #[.slice a m cap, .int .i64 1048576] w fun e w' => Below w.heap.size w w' ∧ ∃ v : Int, e = .returned (.int .i64 v) ∧ (v < 0 ∨ (0 ≤ v ∧ m + sumN (elN E) m ≤ 1048576)) := by
  unfold maxLen at hm
  by_cases hb : (1048576 : Int) < m
  · have h1 : 1048576 - (m : Int) < 0 := by omega
    clear h
    go_enter Try.func14, Try.ntmps14
    go_wp2_with fail
    go_ret
    exact ⟨Below.refl _ _, _, rfl, .inl (by decide)⟩
  · have h1 : ¬ 1048576 - (m : Int) < 0 := by omega
    have HP := hide h
    have HL := hide hl
    clear h hl
    go_enter Try.func14, Try.ntmps14
    go_wp2_with fail
    go_loopw [1, 5] (fun l i wr => ∃ k : Nat, k ≤ m ∧ i = .int .i64 k ∧ l = .int .i64 (1048576 - (m : Int) - (sumN (elN E) k : Int)) ∧ m + sumN (elN E) k ≤ 1048576 ∧ Below w.heap.size w wr) (fun _ i _ => m - (intOf i).toNat)
    case atStart => exact ⟨0, by omega, rfl, by simp [sumN], by simp [sumN]; omega, Below.refl _ _⟩
    case round =>
      obtain ⟨k, hk, rfl, rfl, hs, hbw⟩ := hrel
      by_cases hlt : k < m
      · obtain ⟨b, off, rfl, z0, z1, z2, z3, z4, z5⟩ := (HP.out.below hbw).at hlt
        have hlk := HL.out k
        have cz := fun w' => szElem_any (E k).g (E k).n (E k).k (E k).t (ad k) (E k).ln (cp k) (E k).s (1048576 - (m : Int) - (sumN (elN E) k : Int)) (by omega) (by omega) hlk.2 (by have := hlk.1; unfold maxLen at this; omega) w'
        have e1 : sumN (elN E) (k + 1) = sumN (elN E) k + ((E k).t.size + (E k).ln) := rfl
        have E1 := hide e1
        have HB := hide hbw
        generalize sumN (elN E) k = S at *
        generalize (E k).ln = K at *
        generalize (E k).t = T at *
        generalize (E k).g = x0 at *
        generalize (E k).n = x1 at *
        generalize (E k).k = x2 at *
        generalize (E k).s = x5 at *
        clear HP HL e1 hbw hlk
        by_cases hq : 1048576 - (m : Int) - (S : Int) < (T.size : Int) + (K : Int)
        · simp only [if_pos hq] at cz
          clear hq
          go_wp2_with fail
          refine (cz _).mono ?_
          rintro e w1 ⟨rfl, hb1⟩
          have HB1 := hide (bnext HB.out (Nat.le_refl _) hb1)
          clear cz hb1
          go_wp2_with fail
          go_ret
          exact ⟨HB1.out, _, rfl, .inl (by decide)⟩
        · simp only [if_neg hq] at cz
          obtain ⟨R, hR⟩ : ∃ R, R = 1048576 - (m : Int) - (S : Int) - ((T.size : Int) + (K : Int)) := ⟨_, rfl⟩
          rw [← hR] at cz
          have h9 : ¬ R < 0 := by omega
          have HR := hide hR
          have HQ : Hid (m + (S + (T.size + K)) ≤ 1048576) := by show _ ≤ _; omega
          clear hR hq
          go_wp2_with fail
          refine (cz _).mono ?_
          rintro e w1 ⟨rfl, hb1⟩
          have HB1 := hide (bnext HB.out (Nat.le_refl _) hb1)
          clear cz hb1
          go_wp2_with fail
          exact ⟨⟨k + 1, by omega, rfl, by rw [E1.out, HR.out]; congr 1; omega, by rw [E1.out]; exact HQ.out, HB1.out⟩, by simp [intOf]; omega⟩
      · obtain rfl : k = m := by omega
        have hs0 : (0 : Int) ≤ 1048576 - (k : Int) - (sumN (elN E) k : Int) := by omega
        have HS := hide hs
        have HS0 := hide hs0
        clear HP HL hs hs0
        go_wp2
        go_ret
        exact ⟨hbw, 1048576 - (k : Int) - (sumN (elN E) k : Int), rfl, .inr ⟨HS0.out, HS.out⟩⟩

set_option maxRecDepth 100000 in
set_option maxHeartbeats 4000000 in
theorem toElem_any (g n k : Int) (t : ByteArray) (x : Option Addr) (l c : Nat) (f : Nat → Int) (s : Int) (hl : l ≤ 1048576) (w : World) (h : Px x l f w) :
    Calls Try.prog 35 #[vE g n k t x l c s] w fun e w' => ∃ b, e = .returned (vE g n k t (some ⟨b, 0, none⟩) l l s) ∧ w.heap.size ≤ b ∧ b < w'.heap.size ∧ Row b l f w' ∧ Below w.heap.size w w' := by
  have HS0 := hide ((((St.start w).box [.int .i64 g, .int .i64 n, .int .i64 k, .string t, .slice x l c, .int .i64 s] 51).box' [.int .i64 0, .int .i64 0, .int .i64 0, .string ⟨#[]⟩, .slice none 0 0, .int .i64 0] 53 (b := w.heap.size + 1) (by simp)).box' [.int .i64 g, .int .i64 n, .int .i64 k, .string t, .slice none 0 0, .int .i64 0] 53 (b := w.heap.size + 2) (by simp))
  have cT := fun w' (hx : Px x l f w') => toInts_any x l c f hl w' hx
  have HP := hide (h.below HS0.out.below)
  clear h
  go_enter Try.func35, Try.ntmps35
  go_wp2_with fail
  refine (cT _ HP.out).mono ?_
  rintro e w1 ⟨rfl, hr, hb, hs⟩
  have HS1 := hide (HS0.out.own hb hr.v (.inr (Nat.le_refl _)))
  have hg : w.heap.size ≤ (((w.alloc (.cells #[.int .i64 g, .int .i64 n, .int .i64 k, .string t, .slice x l c, .int .i64 s] 51)).alloc (.cells #[.int .i64 0, .int .i64 0, .int .i64 0, .string ⟨#[]⟩, .slice none 0 0, .int .i64 0] 53)).alloc (.cells #[.int .i64 g, .int .i64 n, .int .i64 k, .string t, .slice none 0 0, .int .i64 0] 53)).heap.size := by simp; omega
  have HE := hide (St.fill (L1 := [_]) (St.fill (L1 := [_]) (St.fill (L1 := [_]) (St.fill (L1 := [_]) (St.fill (L1 := [_]) (St.fill (L1 := [_]) (St.fill (L1 := []) (St.fill (L1 := []) HS1.out 4 (.slice (some ⟨(((w.alloc (.cells #[.int .i64 g, .int .i64 n, .int .i64 k, .string t, .slice x l c, .int .i64 s] 51)).alloc (.cells #[.int .i64 0, .int .i64 0, .int .i64 0, .string ⟨#[]⟩, .slice none 0 0, .int .i64 0] 53)).alloc (.cells #[.int .i64 g, .int .i64 n, .int .i64 k, .string t, .slice none 0 0, .int .i64 0] 53)).heap.size, 0, none⟩) l l)) 5 (.int .i64 s)) 0 (.int .i64 g)) 1 (.int .i64 n)) 2 (.int .i64 k)) 3 (.string t)) 4 (.slice (some ⟨(((w.alloc (.cells #[.int .i64 g, .int .i64 n, .int .i64 k, .string t, .slice x l c, .int .i64 s] 51)).alloc (.cells #[.int .i64 0, .int .i64 0, .int .i64 0, .string ⟨#[]⟩, .slice none 0 0, .int .i64 0] 53)).alloc (.cells #[.int .i64 g, .int .i64 n, .int .i64 k, .string t, .slice none 0 0, .int .i64 0] 53)).heap.size, 0, none⟩) l l)) 5 (.int .i64 s))
  have i0 := HS1.out.cell 2 rfl 0 rfl
  have i1 := HS1.out.cell 2 rfl 1 rfl
  have i2 := HS1.out.cell 2 rfl 2 rfl
  have i3 := HS1.out.cell 2 rfl 3 rfl
  have i4 := HS1.out.cell 2 rfl 4 rfl
  have i5 := HS1.out.cell 2 rfl 5 rfl
  have j0 := HS1.out.cell 0 rfl 0 rfl
  have j1 := HS1.out.cell 0 rfl 1 rfl
  have j2 := HS1.out.cell 0 rfl 2 rfl
  have j3 := HS1.out.cell 0 rfl 3 rfl
  have j4 := HS1.out.cell 0 rfl 4 rfl
  have j5 := HS1.out.cell 0 rfl 5 rfl
  have k0 := HS1.out.cell 1 rfl 0 rfl
  have k1 := HS1.out.cell 1 rfl 1 rfl
  have k2 := HS1.out.cell 1 rfl 2 rfl
  have k3 := HS1.out.cell 1 rfl 3 rfl
  have k4 := HS1.out.cell 1 rfl 4 rfl
  have k5 := HS1.out.cell 1 rfl 5 rfl
  have f0 := HS1.out.free 0 rfl 0 rfl
  have f1 := HS1.out.free 0 rfl 1 rfl
  have f2 := HS1.out.free 0 rfl 2 rfl
  have f3 := HS1.out.free 0 rfl 3 rfl
  have f4 := HS1.out.free 0 rfl 4 rfl
  have f5 := HS1.out.free 0 rfl 5 rfl
  have g0 := HS1.out.free 1 rfl 0 rfl
  have g1 := HS1.out.free 1 rfl 1 rfl
  have g2 := HS1.out.free 1 rfl 2 rfl
  have g3 := HS1.out.free 1 rfl 3 rfl
  have g4 := HS1.out.free 1 rfl 4 rfl
  have g5 := HS1.out.free 1 rfl 5 rfl
  have HG := hide hs
  clear cT HP HS0 hr hb HS1 hs
  generalize (((w.alloc (.cells #[.int .i64 g, .int .i64 n, .int .i64 k, .string t, .slice x l c, .int .i64 s] 51)).alloc (.cells #[.int .i64 0, .int .i64 0, .int .i64 0, .string ⟨#[]⟩, .slice none 0 0, .int .i64 0] 53)).alloc (.cells #[.int .i64 g, .int .i64 n, .int .i64 k, .string t, .slice none 0 0, .int .i64 0] 53)).heap.size = G at *
  go_wp2_with fail
  refine bodyPost_ret (v := vE g n k t (some ⟨G, 0, none⟩) l l s) (by simp [results, Try.results35, go_sem, k0, k1, k2, k3, k4, k5]) rfl ⟨G, rfl, hg, by simpa using HG.out, ?_, HE.out.below⟩
  rcases HE.out.nthO 0 rfl with h0 | ⟨-, h0⟩
  · intro k hk; omega
  · exact h0

end Go.Proofs.Yteadhhhhnihoaaa

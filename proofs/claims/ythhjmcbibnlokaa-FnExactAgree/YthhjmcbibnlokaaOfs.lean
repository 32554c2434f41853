/- Lists of offers: the law's own sizes, copies, comparisons. -/
import Derived.Test.YthhjmcbibnlokaaHom
import Derived.Deep.RegionHeld
import Derived.BigRegion
namespace Go.Proofs.Ythhjmcbibnlokaa
open Go.RowKit

/-- a offer as a value -/
abbrev vOf (x : Option Addr) (l c : Nat) (b : Int) : Value := .agg #[.int .i64 b, .slice x l c]
/-- the sum of the lengths -/
def sumN (ln : Nat → Nat) : Nat → Nat
  | 0 => 0
  | m + 1 => sumN ln m + ln m
theorem sumN_le {ln : Nat → Nat} : ∀ {k m : Nat}, k < m → ln k ≤ sumN ln m
  | k, m + 1, h => by
    unfold sumN
    by_cases e : k = m
    · subst e; omega
    · have := sumN_le (ln := ln) (k := k) (m := m) (by omega); omega
theorem cell_kept {w w' : World} {b j : Nat} {v : Value} (hb : Below w.heap.size w w') (h : w.cell? ⟨b, j, none⟩ = some v) : w'.cell? ⟨b, j, none⟩ = some v :=
  (hb.cell (p := ⟨b, j, none⟩) (World.block_lt_of_cell? w _ h)).trans h
/-- a list of offers is there -/
def PxB (a : Option Addr) (m : Nat) (ad : Nat → Option Addr) (ln cp : Nat → Nat) (F : Nat → Nat → Int) (Bv : Nat → Int) (w : World) : Prop :=
  (m = 0 ∨ ∃ b off, a = some ⟨b, off, none⟩ ∧ ∀ i, i < m → w.cell? ⟨b, off + i * 2, none⟩ = some (.int .i64 (Bv i)) ∧ w.cell? ⟨b, off + i * 2 + 1, none⟩ = some (.slice (ad i) (ln i) (cp i))) ∧ ∀ i, i < m → Px (ad i) (ln i) (F i) w
theorem PxB.below {a : Option Addr} {m : Nat} {ad : Nat → Option Addr} {ln cp : Nat → Nat} {F : Nat → Nat → Int} {Bv : Nat → Int} {w w' : World} (h : PxB a m ad ln cp F Bv w) (hb : Below w.heap.size w w') : PxB a m ad ln cp F Bv w' := by
  obtain ⟨h1, h2⟩ := h
  refine ⟨?_, fun i hi => (h2 i hi).below hb⟩
  rcases h1 with h1 | ⟨b, off, ha, hc⟩
  · exact .inl h1
  · exact .inr ⟨b, off, ha, fun i hi => ⟨cell_kept hb (hc i hi).1, cell_kept hb (hc i hi).2⟩⟩
theorem PxB.at {a : Option Addr} {m i : Nat} {ad : Nat → Option Addr} {ln cp : Nat → Nat} {F : Nat → Nat → Int} {Bv : Nat → Int} {w : World} (h : PxB a m ad ln cp F Bv w) (hi : i < m) :
    ∃ b off, a = some ⟨b, off, none⟩ ∧ w.cell? ⟨b, off + i * 2, none⟩ = some (.int .i64 (Bv i)) ∧ w.cell? ⟨b, off + i * 2 + 1, none⟩ = some (.slice (ad i) (ln i) (cp i)) := by
  rcases h.1 with h1 | ⟨b, off, ha, hc⟩
  · omega
  · exact ⟨b, off, ha, (hc i hi).1, (hc i hi).2⟩

set_option maxRecDepth 100000 in
set_option maxHeartbeats 1000000 in
theorem szOffer_any (x : Option Addr) (l c : Nat) (b left : Int) (h0 : 0 ≤ left) (h1 : left ≤ 1048576) (hl : (l : Int) ≤ 9223372036854775807) (w : World) :
    Calls Try.prog 30 #[vOf x l c b, .int .i64 left] w fun e w' => e = .returned (.int .i64 (if left < (l : Int) then -1 else left - l)) ∧ Below w.heap.size w w' := by
  have cz := sz_any x l c left h0 h1 hl
  have HB := hide (bnew w (.cells #[.int .i64 b, .slice x l c] 59))
  by_cases hq : left < (l : Int)
  · rw [if_pos hq] at cz ⊢
    clear hq
    go_enter Try.func30, Try.ntmps30
    go_wp2_with fail
    refine (cz _).mono ?_
    rintro e w1 ⟨rfl, rfl⟩
    go_wp2_with fail
    go_ret
    exact ⟨rfl, HB.out⟩
  · rw [if_neg hq] at cz ⊢
    have h9 : ¬ left - (l : Int) < 0 := by omega
    go_enter Try.func30, Try.ntmps30
    go_wp2_with fail
    refine (cz _).mono ?_
    rintro e w1 ⟨rfl, rfl⟩
    go_wp2_with fail
    go_ret
    exact ⟨rfl, HB.out⟩

set_option maxRecDepth 100000 in
set_option maxHeartbeats 2000000 in
theorem szOfferS_any (a : Option Addr) (m cap : Nat) (ad : Nat → Option Addr) (ln cp : Nat → Nat) (F : Nat → Nat → Int) (Bv : Nat → Int) (hm : m ≤ maxLen) (hl : ∀ i, ln i ≤ maxLen) (w : World) (h : PxB a m ad ln cp F Bv w) :
    Calls Try.prog 6 #[.slice a m cap, .int .i64 1048576] w fun e w' => Below w.heap.size w w' ∧ ∃ v : Int, e = .returned (.int .i64 v) ∧ (v < 0 ∨ (0 ≤ v ∧ m + sumN ln m ≤ 1048576)) := by
  unfold maxLen at hm hl
  by_cases hb : (1048576 : Int) < m
  · have h1 : 1048576 - (m : Int) < 0 := by omega
    clear h
    go_enter Try.func6, Try.ntmps6
    go_wp2_with fail
    go_ret
    exact ⟨Below.refl _ _, _, rfl, .inl (by decide)⟩
  · have h1 : ¬ 1048576 - (m : Int) < 0 := by omega
    have HP := hide h
    have HL := hide hl
    clear h hl
    go_enter Try.func6, Try.ntmps6
    go_wp2_with fail
    go_loopw [1, 5] (fun l i wr => ∃ k : Nat, k ≤ m ∧ i = .int .i64 k ∧ l = .int .i64 (1048576 - (m : Int) - (sumN ln k : Int)) ∧ m + sumN ln k ≤ 1048576 ∧ Below w.heap.size w wr) (fun _ i _ => m - (intOf i).toNat)
    case atStart => exact ⟨0, by omega, rfl, by simp [sumN], by simp [sumN]; omega, Below.refl _ _⟩
    case round =>
      obtain ⟨k, hk, rfl, rfl, hs, hbw⟩ := hrel
      by_cases hlt : k < m
      · obtain ⟨b, off, rfl, z0, z1⟩ := (HP.out.below hbw).at hlt
        have hlk := HL.out k
        have cz := fun w' => szOffer_any (ad k) (ln k) (cp k) (Bv k) (1048576 - (m : Int) - (sumN ln k : Int)) (by omega) (by omega) (by omega) w'
        have e1 : sumN ln (k + 1) = sumN ln k + ln k := rfl
        have E1 := hide e1
        have HB := hide hbw
        generalize sumN ln k = S at *
        generalize ln k = K at *
        clear HP HL e1 hbw
        by_cases hq : 1048576 - (m : Int) - (S : Int) < (K : Int)
        · simp only [if_pos hq] at cz
          clear hq
          go_wp2_with fail
          refine (cz _).mono ?_
          rintro e w1 ⟨rfl, hb1⟩
          have HB1 := hide (bnext HB.out (Nat.le_refl _) hb1)
          clear cz hb1
          go_wp2_with fail
          go_ret
          exact ⟨HB1.out, _, rfl, .inl (by decide)⟩
        · simp only [if_neg hq] at cz
          have h9 : ¬ 1048576 - (m : Int) - (S : Int) - (K : Int) < 0 := by omega
          go_wp2_with fail
          refine (cz _).mono ?_
          rintro e w1 ⟨rfl, hb1⟩
          have HB1 := hide (bnext HB.out (Nat.le_refl _) hb1)
          clear cz hb1
          go_wp2_with fail
          exact ⟨⟨k + 1, by omega, rfl, by rw [E1.out]; congr 1; omega, by rw [E1.out]; omega, HB1.out⟩, by simp [intOf]; omega⟩
      · obtain rfl : k = m := by omega
        have hs0 : (0 : Int) ≤ 1048576 - (k : Int) - (sumN ln k : Int) := by omega
        have HS := hide hs
        have HS0 := hide hs0
        clear HP HL hs hs0
        go_wp2
        go_ret
        exact ⟨hbw, 1048576 - (k : Int) - (sumN ln k : Int), rfl, .inr ⟨HS0.out, HS.out⟩⟩

set_option maxRecDepth 100000 in
set_option maxHeartbeats 2000000 in
theorem toOffer_any (x : Option Addr) (l c : Nat) (f : Nat → Int) (b : Int) (hl : l ≤ 1048576) (w : World) (h : Px x l f w) :
    Calls Try.prog 33 #[vOf x l c b] w fun e w' => ∃ g, e = .returned (vOf (some ⟨g, 0, none⟩) l l b) ∧ w.heap.size ≤ g ∧ g < w'.heap.size ∧ Row g l f w' ∧ Below w.heap.size w w' := by
  have HS0 := hide ((((St.start w).box [.int .i64 b, .slice x l c] 59).box' [.int .i64 0, .slice none 0 0] 60 (b := w.heap.size + 1) (by simp)).box' [.int .i64 b, .slice none 0 0] 60 (b := w.heap.size + 1 + 1) (by simp))
  have cT := fun w' (hx : Px x l f w') => toInts_any x l c f hl w' hx
  have HP := hide (h.below HS0.out.below)
  clear h
  go_enter Try.func33, Try.ntmps33
  go_wp2_with fail
  refine (cT _ HP.out).mono ?_
  rintro e w1 ⟨rfl, hr, hb, hs⟩
  have HS1 := hide (HS0.out.own hb hr.v (.inr (Nat.le_refl _)))
  have HE := hide (St.fill (L1 := [_]) (St.fill (L1 := [_]) (St.fill (L1 := []) HS1.out 1 (.slice (some ⟨(((w.alloc (.cells #[.int .i64 b, .slice x l c] 59)).alloc (.cells #[.int .i64 0, .slice none 0 0] 60)).alloc (.cells #[.int .i64 b, .slice none 0 0] 60)).heap.size, 0, none⟩) l l)) 0 (.int .i64 b)) 1 (.slice (some ⟨(((w.alloc (.cells #[.int .i64 b, .slice x l c] 59)).alloc (.cells #[.int .i64 0, .slice none 0 0] 60)).alloc (.cells #[.int .i64 b, .slice none 0 0] 60)).heap.size, 0, none⟩) l l))
  have hg : w.heap.size ≤ (((w.alloc (.cells #[.int .i64 b, .slice x l c] 59)).alloc (.cells #[.int .i64 0, .slice none 0 0] 60)).alloc (.cells #[.int .i64 b, .slice none 0 0] 60)).heap.size := by simp; omega
  have j0 := HS1.out.cell 0 rfl 0 rfl
  have j1 := HS1.out.cell 0 rfl 1 rfl
  have k0 := HS1.out.cell 1 rfl 0 rfl
  have k1 := HS1.out.cell 1 rfl 1 rfl
  have f0 := HS1.out.free 0 rfl 0 rfl
  have f1 := HS1.out.free 0 rfl 1 rfl
  have g0 := HS1.out.free 1 rfl 0 rfl
  have g1 := HS1.out.free 1 rfl 1 rfl
  have HG := hide hs
  clear cT HP HS0 hr hb HS1 hs
  generalize (((w.alloc (.cells #[.int .i64 b, .slice x l c] 59)).alloc (.cells #[.int .i64 0, .slice none 0 0] 60)).alloc (.cells #[.int .i64 b, .slice none 0 0] 60)).heap.size = G at *
  go_wp2_with fail
  refine bodyPost_ret (v := vOf (some ⟨G, 0, none⟩) l l b) (by simp [results, Try.results33, go_sem, k0, k1]) rfl ⟨G, rfl, hg, by simpa using HG.out, ?_, HE.out.below⟩
  rcases HE.out.nthO 0 rfl with h0 | ⟨-, h0⟩
  · intro k hk; omega
  · exact h0

set_option maxRecDepth 100000 in
theorem make_Of (n : Nat) (h : n ≤ 1048576) (w : World) :
    (Instr.makeSlice 26 (.int .i64 n) (.int .i64 n)).run Try.prog w = .ok (.slice (some ⟨w.heap.size, 0, none⟩) n n) (w.alloc (.cells (madeCells #[.int .i64 0, .slice none 0 0] (n * 2)) 60)) := by
  have := run_make (P := Try.prog) w 26 60 _ (vOf none 0 0 0) Try.underlying26 rfl rfl .i64 .i64 n n (by omega) (by omega) (by show (32 : Int) * _ ≤ _; omega) (by omega)
  rw [this]
  show Result.ok (Value.slice _ (n : Int).toNat (n : Int).toNat) (w.alloc (.cells (madeCells (Value.cells (vOf none 0 0 0)) ((n : Int).toNat * 2)) 60)) = _
  rw [Int.toNat_natCast]
  rfl
theorem made_Of (n k : Nat) (h : k < n) : ∃ z, (madeCells #[Value.int .i64 0, Value.slice none 0 0] n)[k]? = some z := by
  unfold madeCells
  rw [Array.getElem?_map, Array.getElem?_range, if_pos h]
  exact ⟨_, rfl⟩
/-- a row of offers that is being filled: the first k are there -/
def PtB (o m k : Nat) (B : Nat → Nat) (ln : Nat → Nat) (Bv : Nat → Int) (w : World) : Prop :=
  ∀ j, j < m → (∃ z0 z1, w.cell? ⟨o, j * 2, none⟩ = some z0 ∧ w.cell? ⟨o, j * 2 + 1, none⟩ = some z1 ∧ (j < k → z0 = .int .i64 (Bv j) ∧ z1 = .slice (some ⟨B j, 0, none⟩) (ln j) (ln j))) ∧ w.frozen? ⟨o, j * 2, none⟩ = false ∧ w.frozen? ⟨o, j * 2 + 1, none⟩ = false
theorem ptB_new (m : Nat) (B : Nat → Nat) (ln : Nat → Nat) (Bv : Nat → Int) (t : TypeId) (w : World) : PtB w.heap.size m 0 B ln Bv (w.alloc (.cells (madeCells #[.int .i64 0, .slice none 0 0] (m * 2)) t)) := fun j hj => by
  obtain ⟨z0, h0⟩ := made_Of (m * 2) (j * 2) (by omega)
  obtain ⟨z1, h1⟩ := made_Of (m * 2) (j * 2 + 1) (by omega)
  exact ⟨⟨z0, z1, by simp [go_sem, h0], by simp [go_sem, h1], fun h => absurd h (Nat.not_lt_zero _)⟩, by simp [go_sem], by simp [go_sem]⟩
theorem PtB.below {o m k : Nat} {B ln : Nat → Nat} {Bv : Nat → Int} {w w' : World} (h : PtB o m k B ln Bv w) (hb : Below w.heap.size w w') (ho : o < w.heap.size) : PtB o m k B ln Bv w' := fun j hj => by
  obtain ⟨⟨z0, z1, c0, c1, e⟩, f0, f1⟩ := h j hj
  exact ⟨⟨z0, z1, cell_kept hb c0, cell_kept hb c1, e⟩, (hb.frozen (p := ⟨o, j * 2, none⟩) ho).trans f0, (hb.frozen (p := ⟨o, j * 2 + 1, none⟩) ho).trans f1⟩
theorem PtB.step {o m k : Nat} {B ln : Nat → Nat} {Bv : Nat → Int} {w : World} (h : PtB o m k B ln Bv w) (hk : k < m) (g : Nat) :
    PtB o m (k + 1) (fun i => if i = k then g else B i) ln Bv ((w.setCell ⟨o, k * 2, none⟩ (.int .i64 (Bv k))).setCell ⟨o, k * 2 + 1, none⟩ (.slice (some ⟨g, 0, none⟩) (ln k) (ln k))) := fun j hj => by
  obtain ⟨⟨z0, z1, c0, c1, e⟩, f0, f1⟩ := h j hj
  refine ⟨?_, by simpa using f0, by simpa using f1⟩
  by_cases hjk : j = k
  · subst hjk
    refine ⟨.int .i64 (Bv j), .slice (some ⟨g, 0, none⟩) (ln j) (ln j), ?_, ?_, fun _ => ⟨rfl, by simp⟩⟩
    · rw [World.cell?_setCell_other _ _ _ _ (by simp)]
      exact World.cell?_setCell_same _ _ _ c0
    · refine World.cell?_setCell_same _ _ _ (u := z1) ?_
      rw [World.cell?_setCell_other _ _ _ _ (by simp)]
      exact c1
  · refine ⟨z0, z1, ?_, ?_, fun hj2 => ?_⟩
    · rw [World.cell?_setCell_other _ _ _ _ (by simp; try omega), World.cell?_setCell_other _ _ _ _ (by simp; try omega)]; exact c0
    · rw [World.cell?_setCell_other _ _ _ _ (by simp; try omega), World.cell?_setCell_other _ _ _ _ (by simp; try omega)]; exact c1
    · obtain ⟨e0, e1⟩ := e (by omega)
      refine ⟨e0, ?_⟩
      show z1 = Value.slice (some ⟨if j = k then g else B j, 0, none⟩) (ln j) (ln j)
      rw [if_neg hjk]; exact e1

/-- a list of offers of the call's own: at block o, the lists at the blocks B i, rising -/
structure OwO (o m : Nat) (B ln : Nat → Nat) (F : Nat → Nat → Int) (Bv : Nat → Int) (w : World) : Prop where
  pt : PtB o m m B ln Bv w
  row : ∀ i, i < m → Row (B i) (ln i) (F i) w
  lt : ∀ i, i < m → o < B i ∧ B i < w.heap.size
  up : ∀ i j, i < j → j < m → B i < B j
  olt : o < w.heap.size
theorem OwO.px {o m : Nat} {B ln : Nat → Nat} {F : Nat → Nat → Int} {Bv : Nat → Int} {w : World} (h : OwO o m B ln F Bv w) : PxB (some ⟨o, 0, none⟩) m (fun i => some ⟨B i, 0, none⟩) ln ln F Bv w :=
  ⟨.inr ⟨o, 0, rfl, fun i hi => by
    obtain ⟨⟨y0, y1, c0, c1, e⟩, -, -⟩ := h.pt i hi
    obtain ⟨rfl, rfl⟩ := e hi
    rw [Nat.zero_add]
    exact ⟨c0, c1⟩⟩, fun i hi => (h.row i hi).px⟩

set_option maxRecDepth 100000 in
set_option maxHeartbeats 4000000 in
theorem toOfferS_any (a : Option Addr) (m cap : Nat) (ad : Nat → Option Addr) (ln cp : Nat → Nat) (F : Nat → Nat → Int) (Bv : Nat → Int) (hm : m ≤ 1048576) (hl : ∀ i, i < m → ln i ≤ 1048576) (w : World) (h : PxB a m ad ln cp F Bv w) :
    Calls Try.prog 8 #[.slice a m cap] w fun e w' => ∃ B : Nat → Nat, e = .returned (.slice (some ⟨w.heap.size, 0, none⟩) m m) ∧ OwO w.heap.size m B ln F Bv w' ∧ Below w.heap.size w w' := by
  have hmk := make_Of m hm w
  have HP := hide h
  have HL := hide hl
  clear h hl
  go_enter Try.func8, Try.ntmps8
  go_wp2
  go_loopw [4] (fun i wr => ∃ (k : Nat) (B : Nat → Nat), k ≤ m ∧ i = .int .i64 k ∧ PtB w.heap.size m k B ln Bv wr ∧ (∀ i, i < k → Row (B i) (ln i) (F i) wr) ∧ (∀ i, i < k → w.heap.size < B i ∧ B i < wr.heap.size) ∧ (∀ i j, i < j → j < k → B i < B j) ∧ Below w.heap.size w wr ∧ w.heap.size < wr.heap.size) (fun i _ => m - (intOf i).toNat)
  case atStart => exact ⟨0, fun _ => 0, by omega, rfl, ptB_new m _ ln Bv _ w, fun i hi => absurd hi (Nat.not_lt_zero _), fun i hi => absurd hi (Nat.not_lt_zero _), fun i j _ hi => absurd hi (Nat.not_lt_zero _), bnew _ _, by simp⟩
  case round =>
    obtain ⟨k, B, hk, rfl, hp, hin, hbt, hup, hb, hs⟩ := hrel
    clear hmk
    by_cases hlt : k < m
    · obtain ⟨b, off, rfl, z0, z1⟩ := (HP.out.below hb).at hlt
      have cT := fun w' hx => toOffer_any (ad k) (ln k) (cp k) (F k) (Bv k) (HL.out k hlt) w' hx
      have hx := (HP.out.2 k hlt).below hb
      go_wp2_with fail
      refine (cT _ hx).mono ?_
      rintro e w1 ⟨g, rfl, hg0, hg1, hr, hb1⟩
      have hp1 := hp.below hb1 hs
      obtain ⟨⟨y0, y1, c0, c1, -⟩, f0, f1⟩ := hp1 k hlt
      have HPt := hide (hp1.step hlt g)
      have HIn : Hid (∀ i, i < k + 1 → Row (if i = k then g else B i) (ln i) (F i) ((w1.setCell ⟨w.heap.size, k * 2, none⟩ (.int .i64 (Bv k))).setCell ⟨w.heap.size, k * 2 + 1, none⟩ (.slice (some ⟨g, 0, none⟩) (ln k) (ln k)))) := fun i hi => by
        by_cases e : i = k
        · subst e
          rw [if_pos rfl]
          exact (hr.set (by show w.heap.size ≠ _; omega) _).set (by show w.heap.size ≠ _; omega) _
        · rw [if_neg e]
          have h2 := hbt i (by omega)
          have h3 : Row (B i) (ln i) (F i) w1 := RowV.below (f := fun q => .int .i64 (F i q)) (hin i (by omega)) hb1 h2.2
          exact (h3.set (by show w.heap.size ≠ _; omega) _).set (by show w.heap.size ≠ _; omega) _
      have HBt : Hid (∀ i, i < k + 1 → w.heap.size < (if i = k then g else B i) ∧ (if i = k then g else B i) < ((w1.setCell ⟨w.heap.size, k * 2, none⟩ (.int .i64 (Bv k))).setCell ⟨w.heap.size, k * 2 + 1, none⟩ (.slice (some ⟨g, 0, none⟩) (ln k) (ln k))).heap.size) := fun i hi => by
        have q : ((w1.setCell ⟨w.heap.size, k * 2, none⟩ (.int .i64 (Bv k))).setCell ⟨w.heap.size, k * 2 + 1, none⟩ (.slice (some ⟨g, 0, none⟩) (ln k) (ln k))).heap.size = w1.heap.size := by simp
        rw [q]
        by_cases e : i = k
        · rw [if_pos e]; omega
        · rw [if_neg e]
          have := hbt i (by omega)
          have := hb1.size
          omega
      have HUp : Hid (∀ i j, i < j → j < k + 1 → (if i = k then g else B i) < (if j = k then g else B j)) := fun i j hij hj => by
        rw [if_neg (by omega)]
        by_cases e : j = k
        · rw [if_pos e]; have := (hbt i (by omega)).2; omega
        · rw [if_neg e]; exact hup i j hij (by omega)
      have HB1 := hide (((bnext hb (Nat.le_refl _) hb1).setCell (p := ⟨w.heap.size, k * 2, none⟩) (Nat.le_refl _) (.int .i64 (Bv k))).setCell (p := ⟨w.heap.size, k * 2 + 1, none⟩) (Nat.le_refl _) (.slice (some ⟨g, 0, none⟩) (ln k) (ln k)))
      have HS1 : Hid (w.heap.size < ((w1.setCell ⟨w.heap.size, k * 2, none⟩ (.int .i64 (Bv k))).setCell ⟨w.heap.size, k * 2 + 1, none⟩ (.slice (some ⟨g, 0, none⟩) (ln k) (ln k))).heap.size) := by
        have := hb1.size
        show _ < _
        simp
        omega
      clear hr hb1 hp hp1 hin hbt hup hb hx cT HP HL z0 z1 hg0 hg1
      go_wp2_with fail
      exact ⟨⟨k + 1, fun i => if i = k then g else B i, by omega, rfl, HPt.out, HIn.out, HBt.out, HUp.out, HB1.out, HS1.out⟩, by simp [intOf]; omega⟩
    · obtain rfl : k = m := by omega
      have HE : Hid (OwO w.heap.size k B ln F Bv wr) := ⟨hp, hin, hbt, hup, hs⟩
      have HB := hide hb
      clear HP HL hp hin hbt hup hb
      go_wp2
      go_ret
      exact ⟨B, rfl, HE.out, HB.out⟩

set_option maxRecDepth 100000 in
set_option maxHeartbeats 2000000 in
theorem eqOffer_any (x x' : Option Addr) (l c c' : Nat) (f : Nat → Int) (b : Int) (hl : l ≤ 1048576) (w : World) (h : Px x l f w) (h' : Px x' l f w) :
    Calls Try.prog 35 #[vOf x l c b, vOf x' l c' b] w fun e w' => e = .returned (.bool true) ∧ Below w.heap.size w w' := by
  have HS0 := hide (((St.start w).box [.int .i64 b, .slice x l c] 60).box' [.int .i64 b, .slice x' l c'] 60 (b := w.heap.size + 1) (by simp))
  have cE := fun w' hx hx' => eqInts_b x x' l c c' f hl w' hx hx'
  have HP := hide (h.below HS0.out.below)
  have HP' := hide (h'.below HS0.out.below)
  have q1 : (b != b) = false := by simp
  clear h h'
  go_enter Try.func35, Try.ntmps35
  go_wp2_with fail
  refine (cE _ HP.out HP'.out).mono ?_
  rintro e w1 ⟨rfl, hb⟩
  have HS1 := hide (HS0.out.next hb)
  clear cE HP HP' HS0 hb
  go_wp2_with fail
  go_ret
  exact ⟨rfl, HS1.out.below⟩

set_option maxRecDepth 100000 in
set_option maxHeartbeats 2000000 in
theorem eqOfferS_any (a a' : Option Addr) (m cap cap' : Nat) (ad ad' : Nat → Option Addr) (ln cp cp' : Nat → Nat) (F : Nat → Nat → Int) (Bv : Nat → Int) (hm : m ≤ 1048576) (hl : ∀ i, i < m → ln i ≤ 1048576) (w : World) (h : PxB a m ad ln cp F Bv w) (h' : PxB a' m ad' ln cp' F Bv w) :
    Calls Try.prog 12 #[.slice a m cap, .slice a' m cap'] w fun e w' => e = .returned (.bool true) ∧ Below w.heap.size w w' := by
  have HP := hide h
  have HP' := hide h'
  have HL := hide hl
  clear h h' hl
  go_enter Try.func12, Try.ntmps12
  go_wp2
  go_loopw [5] (fun i wr => ∃ k : Nat, k ≤ m ∧ i = .int .i64 k ∧ Below w.heap.size w wr) (fun i _ => m - (intOf i).toNat)
  case atStart => exact ⟨0, by omega, rfl, Below.refl _ _⟩
  case round =>
    obtain ⟨k, hk, rfl, hb⟩ := hrel
    by_cases hlt : k < m
    · obtain ⟨b, off, rfl, z0, z1⟩ := (HP.out.below hb).at hlt
      obtain ⟨b', off', rfl, y0, y1⟩ := (HP'.out.below hb).at hlt
      have hq := eqOffer_any (ad k) (ad' k) (ln k) (cp k) (cp' k) (F k) (Bv k) (HL.out k hlt)
      have HX := hide (((HP.out.2 k hlt).below hb).below (Below.refl _ _).drew)
      have HX' := hide (((HP'.out.2 k hlt).below hb).below (Below.refl _ _).drew)
      have HB : Hid (Below w.heap.size w wr.drew) := hb.drew
      clear HP HP' HL hb
      go_wp2_with fail
      go_region_with (go_at_call 35; refine (hq _ HX.out HX'.out).mono ?_; rintro e w1 ⟨rfl, hb1⟩)
      all_goals
        have HB1 : Hid (Below w.heap.size w w1) := bnext HB.out (Nat.le_refl _) hb1
        clear hb1 HB z0 z1 y0 y1 HX HX' hq
        go_wp2_with fail
        exact ⟨⟨k + 1, by omega, rfl, HB1.out⟩, by simp [intOf]; omega⟩
    · go_wp2
      go_ret
      exact ⟨rfl, hb⟩

end Go.Proofs.Ythhjmcbibnlokaa

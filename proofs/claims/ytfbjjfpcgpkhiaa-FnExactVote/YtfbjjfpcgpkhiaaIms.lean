/- Lists of images: the law's own sizes, copies, comparisons, marks. -/
import Derived.Test.YtfbjjfpcgpkhiaaHom
import Derived.Deep.RegionHeld
import Derived.BigRegion
namespace Go.Proofs.Ytfbjjfpcgpkhiaa
open Go.RowKit

/-- the sum of the lengths -/
def sumN (ln : Nat → Nat) : Nat → Nat
  | 0 => 0
  | m + 1 => sumN ln m + ln m
theorem sumN_le {ln : Nat → Nat} : ∀ {k m : Nat}, k < m → ln k ≤ sumN ln m
  | k, m + 1, h => by
    unfold sumN
    by_cases e : k = m
    · subst e; omega
    · have := sumN_le (ln := ln) (k := k) (m := m) (by omega); omega
theorem sumN_mono {ln : Nat → Nat} : ∀ {k m : Nat}, k ≤ m → sumN ln k ≤ sumN ln m
  | k, 0, h => by obtain rfl : k = 0 := by omega
                  exact Nat.le_refl _
  | k, m + 1, h => by
    by_cases e : k = m + 1
    · rw [e]; exact Nat.le_refl _
    · have := sumN_mono (ln := ln) (k := k) (m := m) (by omega)
      show _ ≤ sumN ln m + ln m
      omega
theorem cell_kept {w w' : World} {b j : Nat} {v : Value} (hb : Below w.heap.size w w') (h : w.cell? ⟨b, j, none⟩ = some v) : w'.cell? ⟨b, j, none⟩ = some v :=
  (hb.cell (p := ⟨b, j, none⟩) (World.block_lt_of_cell? w _ h)).trans h
/-- a list of images is there -/
def PxM (a : Option Addr) (m : Nat) (ad : Nat → Option Addr) (ln cp : Nat → Nat) (F : Nat → Nat → Int) (Wv Hv : Nat → Int) (w : World) : Prop :=
  (m = 0 ∨ ∃ b off, a = some ⟨b, off, none⟩ ∧ ∀ i, i < m → w.cell? ⟨b, off + i * 3, none⟩ = some (.int .i64 (Wv i)) ∧ w.cell? ⟨b, off + i * 3 + 1, none⟩ = some (.int .i64 (Hv i)) ∧ w.cell? ⟨b, off + i * 3 + 2, none⟩ = some (.slice (ad i) (ln i) (cp i))) ∧ ∀ i, i < m → Px (ad i) (ln i) (F i) w
theorem PxM.below {a : Option Addr} {m : Nat} {ad : Nat → Option Addr} {ln cp : Nat → Nat} {F : Nat → Nat → Int} {Wv Hv : Nat → Int} {w w' : World} (h : PxM a m ad ln cp F Wv Hv w) (hb : Below w.heap.size w w') : PxM a m ad ln cp F Wv Hv w' := by
  obtain ⟨h1, h2⟩ := h
  refine ⟨?_, fun i hi => (h2 i hi).below hb⟩
  rcases h1 with h1 | ⟨b, off, ha, hc⟩
  · exact .inl h1
  · exact .inr ⟨b, off, ha, fun i hi => ⟨cell_kept hb (hc i hi).1, cell_kept hb (hc i hi).2.1, cell_kept hb (hc i hi).2.2⟩⟩
theorem PxM.at {a : Option Addr} {m i : Nat} {ad : Nat → Option Addr} {ln cp : Nat → Nat} {F : Nat → Nat → Int} {Wv Hv : Nat → Int} {w : World} (h : PxM a m ad ln cp F Wv Hv w) (hi : i < m) :
    ∃ b off, a = some ⟨b, off, none⟩ ∧ w.cell? ⟨b, off + i * 3, none⟩ = some (.int .i64 (Wv i)) ∧ w.cell? ⟨b, off + i * 3 + 1, none⟩ = some (.int .i64 (Hv i)) ∧ w.cell? ⟨b, off + i * 3 + 2, none⟩ = some (.slice (ad i) (ln i) (cp i)) := by
  rcases h.1 with h1 | ⟨b, off, ha, hc⟩
  · omega
  · exact ⟨b, off, ha, (hc i hi).1, (hc i hi).2.1, (hc i hi).2.2⟩
theorem PxM.at0 {a : Option Addr} {m : Nat} {ad : Nat → Option Addr} {ln cp : Nat → Nat} {F : Nat → Nat → Int} {Wv Hv : Nat → Int} {w : World} (h : PxM a m ad ln cp F Wv Hv w) {b off : Nat} (ha : a = some ⟨b, off, none⟩) (hi : 0 < m) :
    w.cell? ⟨b, off, none⟩ = some (.int .i64 (Wv 0)) ∧ w.cell? ⟨b, off + 1, none⟩ = some (.int .i64 (Hv 0)) ∧ w.cell? ⟨b, off + 2, none⟩ = some (.slice (ad 0) (ln 0) (cp 0)) := by
  obtain ⟨b', off', ha', h0, h1, h2⟩ := h.at hi
  rw [ha] at ha'
  cases ha'
  exact ⟨by simpa using h0, by simpa using h1, by simpa using h2⟩

set_option maxRecDepth 100000 in
set_option maxHeartbeats 2000000 in
theorem szImageS_any (a : Option Addr) (m cap : Nat) (ad : Nat → Option Addr) (ln cp : Nat → Nat) (F : Nat → Nat → Int) (Wv Hv : Nat → Int) (hm : m ≤ maxLen) (hl : ∀ i, ln i ≤ maxLen) (w : World) (h : PxM a m ad ln cp F Wv Hv w) :
    Calls Try.prog 4 #[.slice a m cap, .int .i64 1048576] w fun e w' => Below w.heap.size w w' ∧ ∃ v : Int, e = .returned (.int .i64 v) ∧ (v < 0 ∨ (0 ≤ v ∧ m + sumN ln m ≤ 1048576)) := by
  unfold maxLen at hm hl
  by_cases hb : (1048576 : Int) < m
  · have h1 : 1048576 - (m : Int) < 0 := by omega
    clear h
    go_enter Try.func4, Try.ntmps4
    go_wp2_with fail
    go_ret
    exact ⟨Below.refl _ _, _, rfl, .inl (by decide)⟩
  · have h1 : ¬ 1048576 - (m : Int) < 0 := by omega
    have HP := hide h
    have HL := hide hl
    clear h hl
    go_enter Try.func4, Try.ntmps4
    go_wp2_with fail
    go_loopw [1, 5] (fun l i wr => ∃ k : Nat, k ≤ m ∧ i = .int .i64 k ∧ l = .int .i64 (1048576 - (m : Int) - (sumN ln k : Int)) ∧ m + sumN ln k ≤ 1048576 ∧ Below w.heap.size w wr) (fun _ i _ => m - (intOf i).toNat)
    case atStart => exact ⟨0, by omega, rfl, by simp [sumN], by simp [sumN]; omega, Below.refl _ _⟩
    case round =>
      obtain ⟨k, hk, rfl, rfl, hs, hbw⟩ := hrel
      by_cases hlt : k < m
      · obtain ⟨b, off, rfl, z0, z1, z2⟩ := (HP.out.below hbw).at hlt
        have hlk := HL.out k
        have cz := fun w' => szImage_any (Wv k) (Hv k) (ad k) (ln k) (cp k) (1048576 - (m : Int) - (sumN ln k : Int)) (by omega) (by omega) (by omega) w'
        have e1 : sumN ln (k + 1) = sumN ln k + ln k := rfl
        have E1 := hide e1
        have HB := hide hbw
        generalize sumN ln k = S at *
        generalize ln k = K at *
        clear HP HL e1 hbw
        by_cases hq : 1048576 - (m : Int) - (S : Int) < (K : Int)
        · simp only [if_pos hq] at cz
          clear hq
          go_wp2_with fail
          refine (cz _).mono ?_
          rintro e w1 ⟨rfl, hb1⟩
          have HB1 := hide (bnext HB.out (Nat.le_refl _) hb1)
          clear cz hb1
          go_wp2_with fail
          go_ret
          exact ⟨HB1.out, _, rfl, .inl (by decide)⟩
        · simp only [if_neg hq] at cz
          have h9 : ¬ 1048576 - (m : Int) - (S : Int) - (K : Int) < 0 := by omega
          go_wp2_with fail
          refine (cz _).mono ?_
          rintro e w1 ⟨rfl, hb1⟩
          have HB1 := hide (bnext HB.out (Nat.le_refl _) hb1)
          clear cz hb1
          go_wp2_with fail
          exact ⟨⟨k + 1, by omega, rfl, by rw [E1.out]; congr 1; omega, by rw [E1.out]; omega, HB1.out⟩, by simp [intOf]; omega⟩
      · obtain rfl : k = m := by omega
        have hs0 : (0 : Int) ≤ 1048576 - (k : Int) - (sumN ln k : Int) := by omega
        have HS := hide hs
        have HS0 := hide hs0
        clear HP HL hs hs0
        go_wp2
        go_ret
        exact ⟨hbw, 1048576 - (k : Int) - (sumN ln k : Int), rfl, .inr ⟨HS0.out, HS.out⟩⟩

/-- a row of images that is being filled: the first k are there -/
def PtM (o m k : Nat) (B : Nat → Nat) (ln : Nat → Nat) (Wv Hv : Nat → Int) (w : World) : Prop :=
  ∀ j, j < m → (∃ z0 z1 z2, w.cell? ⟨o, j * 3, none⟩ = some z0 ∧ w.cell? ⟨o, j * 3 + 1, none⟩ = some z1 ∧ w.cell? ⟨o, j * 3 + 2, none⟩ = some z2 ∧ (j < k → z0 = .int .i64 (Wv j) ∧ z1 = .int .i64 (Hv j) ∧ z2 = .slice (some ⟨B j, 0, none⟩) (ln j) (ln j))) ∧
    w.frozen? ⟨o, j * 3, none⟩ = false ∧ w.frozen? ⟨o, j * 3 + 1, none⟩ = false ∧ w.frozen? ⟨o, j * 3 + 2, none⟩ = false
set_option maxRecDepth 100000 in
theorem make_Im (n : Nat) (h : n ≤ 1048576) (w : World) :
    (Instr.makeSlice 28 (.int .i64 n) (.int .i64 n)).run Try.prog w = .ok (.slice (some ⟨w.heap.size, 0, none⟩) n n) (w.alloc (.cells (madeCells #[.int .i64 0, .int .i64 0, .slice none 0 0] (n * 3)) 26)) := by
  have := run_make (P := Try.prog) w 28 26 _ (im 0 0 none 0 0) Try.underlying28 rfl rfl .i64 .i64 n n (by omega) (by omega) (by show (40 : Int) * _ ≤ _; omega) (by omega)
  rw [this]
  show Result.ok (Value.slice _ (n : Int).toNat (n : Int).toNat) (w.alloc (.cells (madeCells (Value.cells (im 0 0 none 0 0)) ((n : Int).toNat * 3)) 26)) = _
  rw [Int.toNat_natCast]
  rfl
theorem made_Im (n k : Nat) (h : k < n) : ∃ z, (madeCells #[Value.int .i64 0, Value.int .i64 0, Value.slice none 0 0] n)[k]? = some z := by
  unfold madeCells
  rw [Array.getElem?_map, Array.getElem?_range, if_pos h]
  exact ⟨_, rfl⟩
theorem ptM_new (m : Nat) (B : Nat → Nat) (ln : Nat → Nat) (Wv Hv : Nat → Int) (t : TypeId) (w : World) : PtM w.heap.size m 0 B ln Wv Hv (w.alloc (.cells (madeCells #[.int .i64 0, .int .i64 0, .slice none 0 0] (m * 3)) t)) := fun j hj => by
  obtain ⟨z0, h0⟩ := made_Im (m * 3) (j * 3) (by omega)
  obtain ⟨z1, h1⟩ := made_Im (m * 3) (j * 3 + 1) (by omega)
  obtain ⟨z2, h2⟩ := made_Im (m * 3) (j * 3 + 2) (by omega)
  exact ⟨⟨z0, z1, z2, by simp [go_sem, h0], by simp [go_sem, h1], by simp [go_sem, h2], fun h => absurd h (Nat.not_lt_zero _)⟩, by simp [go_sem], by simp [go_sem], by simp [go_sem]⟩
theorem PtM.below {o m k : Nat} {B ln : Nat → Nat} {Wv Hv : Nat → Int} {w w' : World} (h : PtM o m k B ln Wv Hv w) (hb : Below w.heap.size w w') (ho : o < w.heap.size) : PtM o m k B ln Wv Hv w' := fun j hj => by
  obtain ⟨⟨z0, z1, z2, c0, c1, c2, e⟩, f0, f1, f2⟩ := h j hj
  exact ⟨⟨z0, z1, z2, cell_kept hb c0, cell_kept hb c1, cell_kept hb c2, e⟩, (hb.frozen (p := ⟨o, j * 3, none⟩) ho).trans f0, (hb.frozen (p := ⟨o, j * 3 + 1, none⟩) ho).trans f1, (hb.frozen (p := ⟨o, j * 3 + 2, none⟩) ho).trans f2⟩
abbrev set3 (w : World) (o k : Nat) (v0 v1 v2 : Value) : World := ((w.setCell ⟨o, k, none⟩ v0).setCell ⟨o, k + 1, none⟩ v1).setCell ⟨o, k + 2, none⟩ v2
theorem PtM.step {o m k : Nat} {B ln : Nat → Nat} {Wv Hv : Nat → Int} {w : World} (h : PtM o m k B ln Wv Hv w) (hk : k < m) (g : Nat) :
    PtM o m (k + 1) (fun i => if i = k then g else B i) ln Wv Hv (set3 w o (k * 3) (.int .i64 (Wv k)) (.int .i64 (Hv k)) (.slice (some ⟨g, 0, none⟩) (ln k) (ln k))) := fun j hj => by
  obtain ⟨⟨z0, z1, z2, c0, c1, c2, e⟩, f0, f1, f2⟩ := h j hj
  refine ⟨?_, by simpa using f0, by simpa using f1, by simpa using f2⟩
  by_cases hjk : j = k
  · subst hjk
    refine ⟨.int .i64 (Wv j), .int .i64 (Hv j), .slice (some ⟨g, 0, none⟩) (ln j) (ln j), ?_, ?_, ?_, fun _ => ⟨rfl, rfl, by simp⟩⟩
    · rw [World.cell?_setCell_other _ _ _ _ (by simp), World.cell?_setCell_other _ _ _ _ (by simp)]
      exact World.cell?_setCell_same _ _ _ c0
    · rw [World.cell?_setCell_other _ _ _ _ (by simp)]
      refine World.cell?_setCell_same _ _ _ (u := z1) ?_
      rw [World.cell?_setCell_other _ _ _ _ (by simp)]
      exact c1
    · refine World.cell?_setCell_same _ _ _ (u := z2) ?_
      rw [World.cell?_setCell_other _ _ _ _ (by simp), World.cell?_setCell_other _ _ _ _ (by simp)]
      exact c2
  · refine ⟨z0, z1, z2, ?_, ?_, ?_, fun hj2 => ?_⟩
    · rw [World.cell?_setCell_other _ _ _ _ (by simp; try omega), World.cell?_setCell_other _ _ _ _ (by simp; try omega), World.cell?_setCell_other _ _ _ _ (by simp; try omega)]; exact c0
    · rw [World.cell?_setCell_other _ _ _ _ (by simp; try omega), World.cell?_setCell_other _ _ _ _ (by simp; try omega), World.cell?_setCell_other _ _ _ _ (by simp; try omega)]; exact c1
    · rw [World.cell?_setCell_other _ _ _ _ (by simp; try omega), World.cell?_setCell_other _ _ _ _ (by simp; try omega), World.cell?_setCell_other _ _ _ _ (by simp; try omega)]; exact c2
    · obtain ⟨e0, e1, e2⟩ := e (by omega)
      refine ⟨e0, e1, ?_⟩
      show z2 = Value.slice (some ⟨if j = k then g else B j, 0, none⟩) (ln j) (ln j)
      rw [if_neg hjk]; exact e2
/-- a list of images of its own: the outer row at o, the pixels behind it, one list behind the other, all from s0 on and below s1 -/
structure OwM (o : Nat) (B : Nat → Nat) (m : Nat) (ln : Nat → Nat) (F : Nat → Nat → Int) (Wv Hv : Nat → Int) (s0 s1 : Nat) (w : World) : Prop where
  out : PtM o m m B ln Wv Hv w
  inn : ∀ i, i < m → Row (B i) (ln i) (F i) w
  lo : s0 ≤ o
  hi : o < s1
  bt : ∀ i, i < m → o < B i ∧ B i < s1
  inc : ∀ i j, i < j → j < m → B i < B j
  sz : s1 ≤ w.heap.size
theorem OwM.below {o : Nat} {B : Nat → Nat} {m : Nat} {ln : Nat → Nat} {F : Nat → Nat → Int} {Wv Hv : Nat → Int} {s0 s1 : Nat} {w w' : World} (h : OwM o B m ln F Wv Hv s0 s1 w) (hb : Below w.heap.size w w') : OwM o B m ln F Wv Hv s0 s1 w' :=
  ⟨h.out.below hb (Nat.lt_of_lt_of_le h.hi h.sz), fun i hi => (h.inn i hi).below hb (Nat.lt_of_lt_of_le (h.bt i hi).2 h.sz), h.lo, h.hi, h.bt, h.inc, Nat.le_trans h.sz hb.size⟩
theorem OwM.pxm {o : Nat} {B : Nat → Nat} {m : Nat} {ln : Nat → Nat} {F : Nat → Nat → Int} {Wv Hv : Nat → Int} {s0 s1 : Nat} {w : World} (h : OwM o B m ln F Wv Hv s0 s1 w) : PxM (some ⟨o, 0, none⟩) m (fun i => some ⟨B i, 0, none⟩) ln ln F Wv Hv w :=
  ⟨.inr ⟨o, 0, rfl, fun i hi => by
    obtain ⟨⟨z0, z1, z2, c0, c1, c2, e⟩, -⟩ := h.out i hi
    obtain ⟨rfl, rfl, rfl⟩ := e hi
    rw [Nat.zero_add]
    exact ⟨c0, c1, c2⟩⟩, fun i hi => (h.inn i hi).px⟩

set_option maxRecDepth 100000 in
set_option maxHeartbeats 4000000 in
theorem toImageS_any (a : Option Addr) (m cap : Nat) (ad : Nat → Option Addr) (ln cp : Nat → Nat) (F : Nat → Nat → Int) (Wv Hv : Nat → Int) (hm : m ≤ 1048576) (hl : ∀ i, i < m → ln i ≤ 1048576) (w : World) (h : PxM a m ad ln cp F Wv Hv w) :
    Calls Try.prog 6 #[.slice a m cap] w fun e w' => e = .returned (.slice (some ⟨w.heap.size, 0, none⟩) m m) ∧ Below w.heap.size w w' ∧ ∃ B, OwM w.heap.size B m ln F Wv Hv w.heap.size w'.heap.size w' := by
  have hmk := make_Im m hm w
  have HP := hide h
  have HL := hide hl
  clear h hl
  go_enter Try.func6, Try.ntmps6
  go_wp2
  go_loopw [4] (fun i wr => ∃ (k : Nat) (B : Nat → Nat), k ≤ m ∧ i = .int .i64 k ∧ PtM w.heap.size m k B ln Wv Hv wr ∧ (∀ i, i < k → Row (B i) (ln i) (F i) wr) ∧ (∀ i, i < k → w.heap.size < B i ∧ B i < wr.heap.size) ∧ (∀ i j, i < j → j < k → B i < B j) ∧ Below w.heap.size w wr ∧ w.heap.size < wr.heap.size) (fun i _ => m - (intOf i).toNat)
  case atStart => exact ⟨0, fun _ => 0, by omega, rfl, ptM_new m _ ln Wv Hv _ w, fun i hi => absurd hi (Nat.not_lt_zero _), fun i hi => absurd hi (Nat.not_lt_zero _), fun i j _ hj => absurd hj (Nat.not_lt_zero _), bnew _ _, by simp⟩
  case round =>
    obtain ⟨k, B, hk, rfl, hp, hin, hbt, hinc, hb, hs⟩ := hrel
    clear hmk
    by_cases hlt : k < m
    · obtain ⟨b, off, rfl, z0, z1, z2⟩ := (HP.out.below hb).at hlt
      have cT := fun w' hx => toImage_any (Wv k) (Hv k) (ad k) (ln k) (cp k) (F k) (HL.out k hlt) w' hx
      have hx := (HP.out.2 k hlt).below hb
      go_wp2_with fail
      refine (cT _ hx).mono ?_
      rintro e w1 ⟨g, rfl, hg0, hg1, hr, hb1⟩
      have hp1 := hp.below hb1 hs
      obtain ⟨⟨y0, y1, y2, c0, c1, c2, -⟩, f0, f1, f2⟩ := hp1 k hlt
      have HPt := hide (hp1.step hlt g)
      have HIn : Hid (∀ i, i < k + 1 → Row (if i = k then g else B i) (ln i) (F i) (set3 w1 w.heap.size (k * 3) (.int .i64 (Wv k)) (.int .i64 (Hv k)) (.slice (some ⟨g, 0, none⟩) (ln k) (ln k)))) := fun i hi => by
        by_cases e : i = k
        · subst e
          rw [if_pos rfl]
          exact ((hr.set (by show w.heap.size ≠ _; omega) _).set (by show w.heap.size ≠ _; omega) _).set (by show w.heap.size ≠ _; omega) _
        · rw [if_neg e]
          have h2 := hbt i (by omega)
          have h3 : Row (B i) (ln i) (F i) w1 := RowV.below (f := fun q => .int .i64 (F i q)) (hin i (by omega)) hb1 h2.2
          exact ((h3.set (by show w.heap.size ≠ _; omega) _).set (by show w.heap.size ≠ _; omega) _).set (by show w.heap.size ≠ _; omega) _
      have q : ∀ v0 v1 v2, (set3 w1 w.heap.size (k * 3) v0 v1 v2).heap.size = w1.heap.size := fun _ _ _ => by simp
      have HBt : Hid (∀ i, i < k + 1 → w.heap.size < (if i = k then g else B i) ∧ (if i = k then g else B i) < (set3 w1 w.heap.size (k * 3) (.int .i64 (Wv k)) (.int .i64 (Hv k)) (.slice (some ⟨g, 0, none⟩) (ln k) (ln k))).heap.size) := fun i hi => by
        rw [q]
        by_cases e : i = k
        · rw [if_pos e]; omega
        · rw [if_neg e]
          have := hbt i (by omega)
          have := hb1.size
          omega
      have HIc : Hid (∀ i j, i < j → j < k + 1 → (if i = k then g else B i) < (if j = k then g else B j)) := fun i j hij hj => by
        rw [if_neg (by omega)]
        by_cases e : j = k
        · rw [if_pos e]; have := (hbt i (by omega)).2; omega
        · rw [if_neg e]; exact hinc i j hij (by omega)
      have HB1 := hide ((((bnext hb (Nat.le_refl _) hb1).setCell (p := ⟨w.heap.size, k * 3, none⟩) (Nat.le_refl _) (.int .i64 (Wv k))).setCell (p := ⟨w.heap.size, k * 3 + 1, none⟩) (Nat.le_refl _) (.int .i64 (Hv k))).setCell (p := ⟨w.heap.size, k * 3 + 2, none⟩) (Nat.le_refl _) (.slice (some ⟨g, 0, none⟩) (ln k) (ln k)))
      have HS1 : Hid (w.heap.size < (set3 w1 w.heap.size (k * 3) (.int .i64 (Wv k)) (.int .i64 (Hv k)) (.slice (some ⟨g, 0, none⟩) (ln k) (ln k))).heap.size) := by
        have := hb1.size
        show _ < _
        rw [q]
        omega
      clear hr hb1 hp hp1 hin hbt hb hx cT HP HL z0 z1 z2 hg0 hg1 hinc q
      go_wp2_with fail
      exact ⟨⟨k + 1, fun i => if i = k then g else B i, by omega, rfl, HPt.out, HIn.out, HBt.out, HIc.out, HB1.out, HS1.out⟩, by simp [intOf]; omega⟩
    · obtain rfl : k = m := by omega
      have HE : Hid (OwM w.heap.size B k ln F Wv Hv w.heap.size wr.heap.size wr) := ⟨hp, hin, Nat.le_refl _, hs, hbt, hinc, Nat.le_refl _⟩
      have HB := hide hb
      clear HP HL hp hin hbt hb hinc
      go_wp2
      go_ret
      exact ⟨rfl, HB.out, B, HE.out⟩

set_option maxRecDepth 100000 in
set_option maxHeartbeats 2000000 in
theorem eqImageS_any (a a' : Option Addr) (m cap cap' : Nat) (ad ad' : Nat → Option Addr) (ln cp cp' : Nat → Nat) (F : Nat → Nat → Int) (Wv Hv : Nat → Int) (hm : m ≤ 1048576) (hl : ∀ i, i < m → ln i ≤ 1048576) (w : World) (h : PxM a m ad ln cp F Wv Hv w) (h' : PxM a' m ad' ln cp' F Wv Hv w) :
    Calls Try.prog 9 #[.slice a m cap, .slice a' m cap'] w fun e w' => e = .returned (.bool true) ∧ Below w.heap.size w w' := by
  have HP := hide h
  have HP' := hide h'
  have HL := hide hl
  clear h h' hl
  go_enter Try.func9, Try.ntmps9
  go_wp2
  go_loopw [5] (fun i wr => ∃ k : Nat, k ≤ m ∧ i = .int .i64 k ∧ Below w.heap.size w wr) (fun i _ => m - (intOf i).toNat)
  case atStart => exact ⟨0, by omega, rfl, Below.refl _ _⟩
  case round =>
    obtain ⟨k, hk, rfl, hb⟩ := hrel
    by_cases hlt : k < m
    · obtain ⟨b, off, rfl, z0, z1, z2⟩ := (HP.out.below hb).at hlt
      obtain ⟨b', off', rfl, y0, y1, y2⟩ := (HP'.out.below hb).at hlt
      have hq := eqImage_any (Wv k) (Hv k) (ad k) (ad' k) (ln k) (cp k) (cp' k) (F k) (HL.out k hlt)
      have HX := hide (((HP.out.2 k hlt).below hb).below (Below.refl _ _).drew)
      have HX' := hide (((HP'.out.2 k hlt).below hb).below (Below.refl _ _).drew)
      have HB : Hid (Below w.heap.size w wr.drew) := hb.drew
      clear HP HP' HL hb
      go_wp2_with fail
      go_region_with (go_at_call 8; refine (hq _ HX.out HX'.out).mono ?_; rintro e w1 ⟨rfl, hb1⟩)
      all_goals
        have HB1 : Hid (Below w.heap.size w w1) := bnext HB.out (Nat.le_refl _) hb1
        clear hb1 HB z0 z1 z2 y0 y1 y2 HX HX' hq
        go_wp2_with fail
        exact ⟨⟨k + 1, by omega, rfl, HB1.out⟩, by simp [intOf]; omega⟩
    · go_wp2
      go_ret
      exact ⟨rfl, hb⟩

/-- what was there before stays, but for the blocks from s0 on and below s1 -/
structure KeptR (s0 s1 : Nat) (w w' : World) : Prop where
  os : w'.os = w.os
  tape : w'.tape = w.tape
  output : w'.output = w.output
  size : w.heap.size ≤ w'.heap.size
  block : ∀ k, k < w.heap.size → k < s0 ∨ s1 ≤ k → w'.heap[k]? = w.heap[k]?
theorem KeptR.refl (s0 s1 : Nat) (w : World) : KeptR s0 s1 w w := ⟨rfl, rfl, rfl, Nat.le_refl _, fun _ _ _ => rfl⟩
theorem KeptR.step {s0 s1 p : Nat} {w w1 w2 : World} (h : KeptR s0 s1 w w1) (hk : Kept p w1 w2) (h1 : s0 ≤ p) (h2 : p < s1) : KeptR s0 s1 w w2 :=
  ⟨hk.os.trans h.os, hk.tape.trans h.tape, hk.output.trans h.output, Nat.le_trans h.size hk.size, fun k hl ho => (hk.block k (Nat.lt_of_lt_of_le hl h.size) (by omega)).trans (h.block k hl ho)⟩
theorem KeptR.cell {s0 s1 : Nat} {w w' : World} (h : KeptR s0 s1 w w') {a : Addr} {v : Value} (ho : a.block < s0 ∨ s1 ≤ a.block) (hv : w.cell? a = some v) : w'.cell? a = some v := by
  rw [World.cell?_of_block (w := w) (h.block a.block (World.block_lt_of_cell? w a hv) ho)]; exact hv
theorem KeptR.frozen {s0 s1 : Nat} {w w' : World} (h : KeptR s0 s1 w w') {a : Addr} {v : Value} (ho : a.block < s0 ∨ s1 ≤ a.block) (hv : w.cell? a = some v) : w'.frozen? a = w.frozen? a := by
  have := h.block a.block (World.block_lt_of_cell? w a hv) ho
  simp only [World.frozen?, this]
theorem KeptR.below {s0 s1 B : Nat} {w w' : World} (h : KeptR s0 s1 w w') (h1 : B ≤ s0) (h2 : B ≤ w.heap.size) : Below B w w' :=
  ⟨h.os, h.tape, h.output, h.size, fun k hk => h.block k (Nat.lt_of_lt_of_le hk h2) (.inl (by omega))⟩
theorem OwV.keptR {a : Option Addr} {b len s0 s1 : Nat} {f : Nat → Value} {w w' : World} (h : OwV a b len f w) (hk : KeptR s0 s1 w w') (ho : len = 0 ∨ b < s0 ∨ s1 ≤ b) : OwV a b len f w' := by
  rcases ho with h0 | ho
  · exact .inl h0
  rcases h with h | ⟨rfl, h⟩
  · exact .inl h
  · refine .inr ⟨rfl, fun j hj => ⟨hk.cell ho (h j hj).1, ?_⟩⟩
    rw [hk.frozen ho (h j hj).1]; exact (h j hj).2
theorem St.keptR {w0 : World} {O : List OwnT} {w w' : World} {s0 s1 : Nat} (h : St w0 [] O w) (hk : KeptR s0 s1 w w') (h0 : w0.heap.size ≤ s0) (ho : ∀ x ∈ O, x.2.2.1 = 0 ∨ x.2.1 < s0 ∨ s1 ≤ x.2.1) : St w0 [] O w' :=
  ⟨h.below.trans (hk.below h0 h.below.size), fun x hx => (by cases hx), fun x hx => (h.ow x hx).keptR hk (ho x hx), fun b hb => ⟨(h.lt b hb).1, Nat.lt_of_lt_of_le (h.lt b hb).2 hk.size⟩, h.nd⟩
theorem RowV.kept {b len p : Nat} {f : Nat → Value} {w w' : World} (h : RowV b len f w) (hk : Kept p w w') (hb : b ≠ p) : RowV b len f w' := fun j hj =>
  ⟨hk.cell hb (h j hj).1, (hk.frozen (a := ⟨b, j, none⟩) hb (h j hj).1).trans (h j hj).2⟩
/-- an outer row of images whatever their sides -/
def PtW (o m : Nat) (B : Nat → Nat) (ln : Nat → Nat) (w : World) : Prop :=
  ∀ j, j < m → (∃ z0 z1 : Int, w.cell? ⟨o, j * 3, none⟩ = some (.int .i64 z0) ∧ w.cell? ⟨o, j * 3 + 1, none⟩ = some (.int .i64 z1) ∧ w.cell? ⟨o, j * 3 + 2, none⟩ = some (.slice (some ⟨B j, 0, none⟩) (ln j) (ln j))) ∧
    w.frozen? ⟨o, j * 3, none⟩ = false ∧ w.frozen? ⟨o, j * 3 + 1, none⟩ = false ∧ w.frozen? ⟨o, j * 3 + 2, none⟩ = false
theorem PtM.w {o m : Nat} {B ln : Nat → Nat} {Wv Hv : Nat → Int} {w : World} (h : PtM o m m B ln Wv Hv w) : PtW o m B ln w := fun j hj => by
  obtain ⟨⟨z0, z1, z2, c0, c1, c2, e⟩, f⟩ := h j hj
  obtain ⟨rfl, rfl, rfl⟩ := e hj
  exact ⟨⟨_, _, c0, c1, c2⟩, f⟩
theorem PtW.kept {o m p : Nat} {B ln : Nat → Nat} {w w' : World} (h : PtW o m B ln w) (hk : Kept p w w') (hp : o ≠ p) : PtW o m B ln w' := fun j hj => by
  obtain ⟨⟨z0, z1, c0, c1, c2⟩, f0, f1, f2⟩ := h j hj
  exact ⟨⟨z0, z1, hk.cell hp c0, hk.cell hp c1, hk.cell hp c2⟩, (hk.frozen (a := ⟨o, j * 3, none⟩) hp c0).trans f0, (hk.frozen (a := ⟨o, j * 3 + 1, none⟩) hp c1).trans f1, (hk.frozen (a := ⟨o, j * 3 + 2, none⟩) hp c2).trans f2⟩
theorem PtW.set {o m k : Nat} {B ln : Nat → Nat} {w : World} (h : PtW o m B ln w) (a b : Int) : PtW o m B ln ((w.setCell ⟨o, k * 3, none⟩ (.int .i64 a)).setCell ⟨o, k * 3 + 1, none⟩ (.int .i64 b)) := fun j hj => by
  obtain ⟨⟨z0, z1, c0, c1, c2⟩, f0, f1, f2⟩ := h j hj
  refine ⟨?_, by simpa using f0, by simpa using f1, by simpa using f2⟩
  by_cases e : j = k
  · subst e
    refine ⟨a, b, ?_, ?_, ?_⟩
    · rw [World.cell?_setCell_other _ _ _ _ (by simp)]
      exact World.cell?_setCell_same _ _ _ c0
    · refine World.cell?_setCell_same _ _ _ (u := .int .i64 z1) ?_
      rw [World.cell?_setCell_other _ _ _ _ (by simp)]; exact c1
    · rw [World.cell?_setCell_other _ _ _ _ (by simp), World.cell?_setCell_other _ _ _ _ (by simp)]; exact c2
  · refine ⟨z0, z1, ?_, ?_, ?_⟩
    · rw [World.cell?_setCell_other _ _ _ _ (by simp; try omega), World.cell?_setCell_other _ _ _ _ (by simp; try omega)]; exact c0
    · rw [World.cell?_setCell_other _ _ _ _ (by simp; try omega), World.cell?_setCell_other _ _ _ _ (by simp; try omega)]; exact c1
    · rw [World.cell?_setCell_other _ _ _ _ (by simp; try omega), World.cell?_setCell_other _ _ _ _ (by simp; try omega)]; exact c2

set_option maxRecDepth 100000 in
set_option maxHeartbeats 4000000 in
theorem markImageS_any (o : Nat) (B : Nat → Nat) (m : Nat) (ln : Nat → Nat) (F : Nat → Nat → Int) (Wv Hv : Nat → Int) (s0 s1 : Nat) (hm : m + sumN ln m ≤ 1048576) (w : World) (h : OwM o B m ln F Wv Hv s0 s1 w) :
    Calls Try.prog 10 #[.slice (some ⟨o, 0, none⟩) m m, .int .i64 1] w fun e w' => ∃ v : Int, e = .returned (.int .i64 v) ∧ 0 ≤ v ∧ KeptR s0 s1 w w' := by
  have HB := hide h.bt
  have HI := hide h.inc
  have HLo := hide h.lo
  have HHi := hide h.hi
  go_enter Try.func10, Try.ntmps10
  go_wp2
  go_loopw [1, 5] (fun v i wr => ∃ k : Nat, k ≤ m ∧ i = .int .i64 k ∧ v = .int .i64 (1 + 2 * (k : Int) + (sumN ln k : Int)) ∧ KeptR s0 s1 w wr ∧ PtW o m B ln wr ∧ (∀ i, i < m → ∃ G, Row (B i) (ln i) G wr)) (fun _ i _ => m - (intOf i).toNat)
  case atStart => exact ⟨0, by omega, rfl, by simp [sumN], KeptR.refl _ _ _, h.out.w, fun i hi => ⟨F i, h.inn i hi⟩⟩
  case round =>
    obtain ⟨k, hk, rfl, rfl, hkr, hro, hin⟩ := hrel
    clear h
    by_cases hlt : k < m
    · obtain ⟨⟨z0, z1, c0, c1, c2⟩, f0, f1, f2⟩ := hro k hlt
      obtain ⟨G, hG⟩ := hin k hlt
      have e1 : sumN ln (k + 1) = sumN ln k + ln k := rfl
      have l1 := sumN_mono (ln := ln) (k := k + 1) (m := m) (by omega)
      have E1 := hide e1
      have b1 := HB.out k hlt
      have b0 := HLo.out
      obtain ⟨V, hV⟩ : ∃ V : Int, 1 + 2 * (k : Int) + (sumN ln k : Int) = V := ⟨_, rfl⟩
      have hV0 : 1 ≤ V := by omega
      have hV1 : V ≤ 2097152 + 1048577 := by omega
      have hlk : ln k ≤ 1048576 := by omega
      have HKo := hide (((Kept.refl o wr).setCell (a := ⟨o, k * 3, none⟩) rfl (.int .i64 V)).setCell (a := ⟨o, k * 3 + 1, none⟩) rfl (.int .i64 (V + 1)))
      have HR2 := hide (hro.set (k := k) V (V + 1))
      have hGk : Row (B k) (ln k) G ((wr.setCell ⟨o, k * 3, none⟩ (.int .i64 V)).setCell ⟨o, k * 3 + 1, none⟩ (.int .i64 (V + 1))) := RowV.kept (f := fun q => .int .i64 (G q)) hG HKo.out (by omega)
      have HIn2 : Hid (∀ i, i < m → ∃ G, Row (B i) (ln i) G ((wr.setCell ⟨o, k * 3, none⟩ (.int .i64 V)).setCell ⟨o, k * 3 + 1, none⟩ (.int .i64 (V + 1)))) := fun i hi => by
        obtain ⟨G', hG'⟩ := hin i hi
        exact ⟨G', RowV.kept (f := fun q => .int .i64 (G' q)) hG' HKo.out (by have := (HB.out i hi).1; omega)⟩
      have HK2 := hide (hkr.step HKo.out b0 HHi.out)
      have cM := mark_any (some ⟨B k, 0, none⟩) (B k) (ln k) (ln k) G (V + 1 + 1) (by omega) (by omega) hlk _ (Ow.of_row hGk)
      have E3 : Hid (V + 1 + 1 + (ln k : Int) = 1 + 2 * ((k + 1 : Nat) : Int) + (sumN ln (k + 1) : Int)) := by show _ = _; rw [e1]; omega
      have B1 := hide b1
      have b2 : s0 ≤ B k := by omega
      have B2 := hide b2
      rw [hV]
      clear hro hin hkr hG e1 E1 l1 b1 b0 b2 hGk HKo hV
      go_wp2_with fail
      refine cM.mono ?_
      rintro e w1 ⟨rfl, ho, hk1, -⟩
      have HR3 := hide (HR2.out.kept hk1 (by have := B1.out; omega))
      have HIn3 : Hid (∀ i, i < m → ∃ G, Row (B i) (ln i) G w1) := fun i hi => by
        by_cases e : i = k
        · subst e
          rcases ho with h0 | ⟨-, ho⟩
          · exact ⟨fun _ => 0, fun j hj => absurd hj (by omega)⟩
          · exact ⟨_, ho⟩
        · obtain ⟨G', hG'⟩ := HIn2.out i hi
          refine ⟨G', RowV.kept (f := fun q => .int .i64 (G' q)) hG' hk1 ?_⟩
          rcases Nat.lt_or_ge i k with h | h
          · have := HI.out i k h hlt; omega
          · have := HI.out k i (by omega) hi; omega
      have HK3 := hide (HK2.out.step hk1 B2.out B1.out.2)
      clear ho hk1 HR2 HIn2 HK2 cM B1 B2 c0 c1 c2 f0 f1 f2
      go_wp2_with fail
      exact ⟨⟨k + 1, by omega, rfl, by rw [← E3.out], HK3.out, HR3.out, HIn3.out⟩, by simp [intOf]; omega⟩
    · obtain rfl : k = m := by omega
      have HV : Hid ((0 : Int) ≤ 1 + 2 * (k : Int) + (sumN ln k : Int)) := by show _ ≤ _; omega
      clear hro hin HB HI HLo HHi
      go_wp2
      go_ret
      exact ⟨_, rfl, HV.out, hkr⟩

end Go.Proofs.Ytfbjjfpcgpkhiaa

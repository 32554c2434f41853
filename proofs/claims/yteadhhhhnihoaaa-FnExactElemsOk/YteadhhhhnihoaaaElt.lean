/- Lists of elements: copies and comparisons. -/
import Derived.Test.YteadhhhhnihoaaaEls
namespace Go.Proofs.Yteadhhhhnihoaaa
open Go.RowKit

set_option maxRecDepth 100000 in
theorem make_El (n : Nat) (h : n ≤ 1048576) (w : World) :
    (Instr.makeSlice 32 (.int .i64 n) (.int .i64 n)).run Try.prog w = .ok (.slice (some ⟨w.heap.size, 0, none⟩) n n) (w.alloc (.cells (madeCells #[.int .i64 0, .int .i64 0, .int .i64 0, .string ⟨#[]⟩, .slice none 0 0, .int .i64 0] (n * 6)) 53)) := by
  have := run_make (P := Try.prog) w 32 53 _ (vE 0 0 0 ⟨#[]⟩ none 0 0 0) Try.underlying32 rfl rfl .i64 .i64 n n (by omega) (by omega) (by show (72 : Int) * _ ≤ _; omega) (by omega)
  rw [this]
  show Result.ok (Value.slice _ (n : Int).toNat (n : Int).toNat) (w.alloc (.cells (madeCells (Value.cells (vE 0 0 0 ⟨#[]⟩ none 0 0 0)) ((n : Int).toNat * 6)) 53)) = _
  rw [Int.toNat_natCast]
  rfl
theorem made_El (n k : Nat) (h : k < n) : ∃ z, (madeCells #[Value.int .i64 0, Value.int .i64 0, Value.int .i64 0, Value.string ⟨#[]⟩, Value.slice none 0 0, Value.int .i64 0] n)[k]? = some z := by
  unfold madeCells
  rw [Array.getElem?_map, Array.getElem?_range, if_pos h]
  exact ⟨_, rfl⟩
/-- a row of elements that is being filled: the first k are there -/
def PtE (o m k : Nat) (B : Nat → Nat) (E : Nat → El) (w : World) : Prop :=
  ∀ j, j < m → (∃ z0 z1 z2 z3 z4 z5, (w.cell? ⟨o, j * 6, none⟩ = some z0 ∧ w.cell? ⟨o, j * 6 + 1, none⟩ = some z1 ∧ w.cell? ⟨o, j * 6 + 2, none⟩ = some z2 ∧ w.cell? ⟨o, j * 6 + 3, none⟩ = some z3 ∧ w.cell? ⟨o, j * 6 + 4, none⟩ = some z4 ∧ w.cell? ⟨o, j * 6 + 5, none⟩ = some z5) ∧ (j < k → z0 = .int .i64 (E j).g ∧ z1 = .int .i64 (E j).n ∧ z2 = .int .i64 (E j).k ∧ z3 = .string (E j).t ∧ z4 = .slice (some ⟨B j, 0, none⟩) (E j).ln (E j).ln ∧ z5 = .int .i64 (E j).s)) ∧ (w.frozen? ⟨o, j * 6, none⟩ = false ∧ w.frozen? ⟨o, j * 6 + 1, none⟩ = false ∧ w.frozen? ⟨o, j * 6 + 2, none⟩ = false ∧ w.frozen? ⟨o, j * 6 + 3, none⟩ = false ∧ w.frozen? ⟨o, j * 6 + 4, none⟩ = false ∧ w.frozen? ⟨o, j * 6 + 5, none⟩ = false)
theorem ptE_new (m : Nat) (B : Nat → Nat) (E : Nat → El) (t : TypeId) (w : World) : PtE w.heap.size m 0 B E (w.alloc (.cells (madeCells #[.int .i64 0, .int .i64 0, .int .i64 0, .string ⟨#[]⟩, .slice none 0 0, .int .i64 0] (m * 6)) t)) := fun j hj => by
  obtain ⟨z0, h0⟩ := made_El (m * 6) (j * 6) (by omega)
  obtain ⟨z1, h1⟩ := made_El (m * 6) (j * 6 + 1) (by omega)
  obtain ⟨z2, h2⟩ := made_El (m * 6) (j * 6 + 2) (by omega)
  obtain ⟨z3, h3⟩ := made_El (m * 6) (j * 6 + 3) (by omega)
  obtain ⟨z4, h4⟩ := made_El (m * 6) (j * 6 + 4) (by omega)
  obtain ⟨z5, h5⟩ := made_El (m * 6) (j * 6 + 5) (by omega)
  exact ⟨⟨z0, z1, z2, z3, z4, z5, ⟨by simp [go_sem, h0], by simp [go_sem, h1], by simp [go_sem, h2], by simp [go_sem, h3], by simp [go_sem, h4], by simp [go_sem, h5]⟩, fun h => absurd h (Nat.not_lt_zero _)⟩, by simp [go_sem], by simp [go_sem], by simp [go_sem], by simp [go_sem], by simp [go_sem], by simp [go_sem]⟩
theorem PtE.below {o m k : Nat} {B : Nat → Nat} {E : Nat → El} {w w' : World} (h : PtE o m k B E w) (hb : Below w.heap.size w w') (ho : o < w.heap.size) : PtE o m k B E w' := fun j hj => by
  obtain ⟨⟨z0, z1, z2, z3, z4, z5, ⟨c0, c1, c2, c3, c4, c5⟩, e⟩, f0, f1, f2, f3, f4, f5⟩ := h j hj
  exact ⟨⟨z0, z1, z2, z3, z4, z5, ⟨cell_kept hb c0, cell_kept hb c1, cell_kept hb c2, cell_kept hb c3, cell_kept hb c4, cell_kept hb c5⟩, e⟩, (hb.frozen (p := ⟨o, j * 6, none⟩) ho).trans f0, (hb.frozen (p := ⟨o, j * 6 + 1, none⟩) ho).trans f1, (hb.frozen (p := ⟨o, j * 6 + 2, none⟩) ho).trans f2, (hb.frozen (p := ⟨o, j * 6 + 3, none⟩) ho).trans f3, (hb.frozen (p := ⟨o, j * 6 + 4, none⟩) ho).trans f4, (hb.frozen (p := ⟨o, j * 6 + 5, none⟩) ho).trans f5⟩
set_option maxHeartbeats 1000000 in
theorem PtE.step {o m k : Nat} {B : Nat → Nat} {E : Nat → El} {w : World} (h : PtE o m k B E w) (hk : k < m) (g : Nat) :
    PtE o m (k + 1) (fun i => if i = k then g else B i) E ((((((w.setCell ⟨o, k * 6, none⟩ (.int .i64 (E k).g)).setCell ⟨o, k * 6 + 1, none⟩ (.int .i64 (E k).n)).setCell ⟨o, k * 6 + 2, none⟩ (.int .i64 (E k).k)).setCell ⟨o, k * 6 + 3, none⟩ (.string (E k).t)).setCell ⟨o, k * 6 + 4, none⟩ (.slice (some ⟨g, 0, none⟩) (E k).ln (E k).ln)).setCell ⟨o, k * 6 + 5, none⟩ (.int .i64 (E k).s)) := fun j hj => by
  obtain ⟨⟨z0, z1, z2, z3, z4, z5, ⟨c0, c1, c2, c3, c4, c5⟩, e⟩, f0, f1, f2, f3, f4, f5⟩ := h j hj
  refine ⟨?_, by simpa using f0, by simpa using f1, by simpa using f2, by simpa using f3, by simpa using f4, by simpa using f5⟩
  by_cases hjk : j = k
  · subst hjk
    refine ⟨(.int .i64 (E j).g), (.int .i64 (E j).n), (.int .i64 (E j).k), (.string (E j).t), (.slice (some ⟨g, 0, none⟩) (E j).ln (E j).ln), (.int .i64 (E j).s), ⟨?_, ?_, ?_, ?_, ?_, ?_⟩, fun _ => ⟨rfl, rfl, rfl, rfl, by simp, rfl⟩⟩
    · rw [World.cell?_setCell_other _ _ _ _ (by simp)]
      rw [World.cell?_setCell_other _ _ _ _ (by simp)]
      rw [World.cell?_setCell_other _ _ _ _ (by simp)]
      rw [World.cell?_setCell_other _ _ _ _ (by simp)]
      rw [World.cell?_setCell_other _ _ _ _ (by simp)]
      refine World.cell?_setCell_same _ _ _ (u := z0) ?_
      exact c0
    · rw [World.cell?_setCell_other _ _ _ _ (by simp)]
      rw [World.cell?_setCell_other _ _ _ _ (by simp)]
      rw [World.cell?_setCell_other _ _ _ _ (by simp)]
      rw [World.cell?_setCell_other _ _ _ _ (by simp)]
      refine World.cell?_setCell_same _ _ _ (u := z1) ?_
      rw [World.cell?_setCell_other _ _ _ _ (by simp)]
      exact c1
    · rw [World.cell?_setCell_other _ _ _ _ (by simp)]
      rw [World.cell?_setCell_other _ _ _ _ (by simp)]
      rw [World.cell?_setCell_other _ _ _ _ (by simp)]
      refine World.cell?_setCell_same _ _ _ (u := z2) ?_
      rw [World.cell?_setCell_other _ _ _ _ (by simp)]
      rw [World.cell?_setCell_other _ _ _ _ (by simp)]
      exact c2
    · rw [World.cell?_setCell_other _ _ _ _ (by simp)]
      rw [World.cell?_setCell_other _ _ _ _ (by simp)]
      refine World.cell?_setCell_same _ _ _ (u := z3) ?_
      rw [World.cell?_setCell_other _ _ _ _ (by simp)]
      rw [World.cell?_setCell_other _ _ _ _ (by simp)]
      rw [World.cell?_setCell_other _ _ _ _ (by simp)]
      exact c3
    · rw [World.cell?_setCell_other _ _ _ _ (by simp)]
      refine World.cell?_setCell_same _ _ _ (u := z4) ?_
      rw [World.cell?_setCell_other _ _ _ _ (by simp)]
      rw [World.cell?_setCell_other _ _ _ _ (by simp)]
      rw [World.cell?_setCell_other _ _ _ _ (by simp)]
      rw [World.cell?_setCell_other _ _ _ _ (by simp)]
      exact c4
    · refine World.cell?_setCell_same _ _ _ (u := z5) ?_
      rw [World.cell?_setCell_other _ _ _ _ (by simp)]
      rw [World.cell?_setCell_other _ _ _ _ (by simp)]
      rw [World.cell?_setCell_other _ _ _ _ (by simp)]
      rw [World.cell?_setCell_other _ _ _ _ (by simp)]
      rw [World.cell?_setCell_other _ _ _ _ (by simp)]
      exact c5
  · refine ⟨z0, z1, z2, z3, z4, z5, ⟨?_, ?_, ?_, ?_, ?_, ?_⟩, fun hj2 => ?_⟩
    · rw [World.cell?_setCell_other _ _ _ _ (by simp; try omega), World.cell?_setCell_other _ _ _ _ (by simp; try omega), World.cell?_setCell_other _ _ _ _ (by simp; try omega), World.cell?_setCell_other _ _ _ _ (by simp; try omega), World.cell?_setCell_other _ _ _ _ (by simp; try omega), World.cell?_setCell_other _ _ _ _ (by simp; try omega)]; exact c0
    · rw [World.cell?_setCell_other _ _ _ _ (by simp; try omega), World.cell?_setCell_other _ _ _ _ (by simp; try omega), World.cell?_setCell_other _ _ _ _ (by simp; try omega), World.cell?_setCell_other _ _ _ _ (by simp; try omega), World.cell?_setCell_other _ _ _ _ (by simp; try omega), World.cell?_setCell_other _ _ _ _ (by simp; try omega)]; exact c1
    · rw [World.cell?_setCell_other _ _ _ _ (by simp; try omega), World.cell?_setCell_other _ _ _ _ (by simp; try omega), World.cell?_setCell_other _ _ _ _ (by simp; try omega), World.cell?_setCell_other _ _ _ _ (by simp; try omega), World.cell?_setCell_other _ _ _ _ (by simp; try omega), World.cell?_setCell_other _ _ _ _ (by simp; try omega)]; exact c2
    · rw [World.cell?_setCell_other _ _ _ _ (by simp; try omega), World.cell?_setCell_other _ _ _ _ (by simp; try omega), World.cell?_setCell_other _ _ _ _ (by simp; try omega), World.cell?_setCell_other _ _ _ _ (by simp; try omega), World.cell?_setCell_other _ _ _ _ (by simp; try omega), World.cell?_setCell_other _ _ _ _ (by simp; try omega)]; exact c3
    · rw [World.cell?_setCell_other _ _ _ _ (by simp; try omega), World.cell?_setCell_other _ _ _ _ (by simp; try omega), World.cell?_setCell_other _ _ _ _ (by simp; try omega), World.cell?_setCell_other _ _ _ _ (by simp; try omega), World.cell?_setCell_other _ _ _ _ (by simp; try omega), World.cell?_setCell_other _ _ _ _ (by simp; try omega)]; exact c4
    · rw [World.cell?_setCell_other _ _ _ _ (by simp; try omega), World.cell?_setCell_other _ _ _ _ (by simp; try omega), World.cell?_setCell_other _ _ _ _ (by simp; try omega), World.cell?_setCell_other _ _ _ _ (by simp; try omega), World.cell?_setCell_other _ _ _ _ (by simp; try omega), World.cell?_setCell_other _ _ _ _ (by simp; try omega)]; exact c5
    · obtain ⟨e0, e1, e2, e3, e4, e5⟩ := e (by omega)
      refine ⟨e0, e1, e2, e3, ?_, e5⟩
      show z4 = Value.slice (some ⟨if j = k then g else B j, 0, none⟩) (E j).ln (E j).ln
      rw [if_neg hjk]; exact e4

set_option maxRecDepth 100000 in
set_option maxHeartbeats 4000000 in
theorem toElemS_any (a : Option Addr) (m cap : Nat) (ad : Nat → Option Addr) (cp : Nat → Nat) (E : Nat → El) (hm : m ≤ 1048576) (hl : ∀ i, i < m → (E i).ln ≤ 1048576) (w : World) (h : PxE a m ad cp E w) :
    Calls Try.prog 16 #[.slice a m cap] w fun e w' => ∃ B : Nat → Nat, e = .returned (.slice (some ⟨w.heap.size, 0, none⟩) m m) ∧ PxE (some ⟨w.heap.size, 0, none⟩) m (fun i => some ⟨B i, 0, none⟩) (fun i => (E i).ln) E w' ∧ Below w.heap.size w w' := by
  have hmk := make_El m hm w
  have HP := hide h
  have HL := hide hl
  clear h hl
  go_enter Try.func16, Try.ntmps16
  go_wp2
  go_loopw [4] (fun i wr => ∃ (k : Nat) (B : Nat → Nat), k ≤ m ∧ i = .int .i64 k ∧ PtE w.heap.size m k B E wr ∧ (∀ i, i < k → Row (B i) (E i).ln (E i).f wr) ∧ (∀ i, i < k → w.heap.size < B i ∧ B i < wr.heap.size) ∧ Below w.heap.size w wr ∧ w.heap.size < wr.heap.size) (fun i _ => m - (intOf i).toNat)
  case atStart => exact ⟨0, fun _ => 0, by omega, rfl, ptE_new m _ E _ w, fun i hi => absurd hi (Nat.not_lt_zero _), fun i hi => absurd hi (Nat.not_lt_zero _), bnew _ _, by simp⟩
  case round =>
    obtain ⟨k, B, hk, rfl, hp, hin, hbt, hb, hs⟩ := hrel
    clear hmk
    by_cases hlt : k < m
    · obtain ⟨b, off, rfl, y0, y1, y2, y3, y4, y5⟩ := (HP.out.below hb).at hlt
      have cT := fun w' hx => toElem_any (E k).g (E k).n (E k).k (E k).t (ad k) (E k).ln (cp k) (E k).f (E k).s (HL.out k hlt) w' hx
      have hx := (HP.out.2 k hlt).below hb
      go_wp2_with fail
      refine (cT _ hx).mono ?_
      rintro e w1 ⟨g, rfl, hg0, hg1, hr, hb1⟩
      have hp1 := hp.below hb1 hs
      obtain ⟨⟨z0, z1, z2, z3, z4, z5, ⟨c0, c1, c2, c3, c4, c5⟩, -⟩, f0, f1, f2, f3, f4, f5⟩ := hp1 k hlt
      have HPt := hide (hp1.step hlt g)
      have hne : ∀ j, j < k + 1 → w.heap.size ≠ (if j = k then g else B j) := fun j hj => by
        split
        · omega
        · have := hbt j (by omega); omega
      have HIn : Hid (∀ i, i < k + 1 → Row (if i = k then g else B i) (E i).ln (E i).f ((((((w1.setCell ⟨w.heap.size, k * 6, none⟩ (.int .i64 (E k).g)).setCell ⟨w.heap.size, k * 6 + 1, none⟩ (.int .i64 (E k).n)).setCell ⟨w.heap.size, k * 6 + 2, none⟩ (.int .i64 (E k).k)).setCell ⟨w.heap.size, k * 6 + 3, none⟩ (.string (E k).t)).setCell ⟨w.heap.size, k * 6 + 4, none⟩ (.slice (some ⟨g, 0, none⟩) (E k).ln (E k).ln)).setCell ⟨w.heap.size, k * 6 + 5, none⟩ (.int .i64 (E k).s))) := fun i hi => by
        have hr' : Row (if i = k then g else B i) (E i).ln (E i).f w1 := by
          by_cases e : i = k
          · subst e
            rw [if_pos rfl]
            exact hr
          · rw [if_neg e]
            have h2 := hbt i (by omega)
            exact RowV.below (f := fun q => .int .i64 ((E i).f q)) (hin i (by omega)) hb1 h2.2
        have hn := hne i hi
        exact ((((((hr'.set hn _).set hn _).set hn _).set hn _).set hn _).set hn _)
      have hsz : ((((((w1.setCell ⟨w.heap.size, k * 6, none⟩ (.int .i64 (E k).g)).setCell ⟨w.heap.size, k * 6 + 1, none⟩ (.int .i64 (E k).n)).setCell ⟨w.heap.size, k * 6 + 2, none⟩ (.int .i64 (E k).k)).setCell ⟨w.heap.size, k * 6 + 3, none⟩ (.string (E k).t)).setCell ⟨w.heap.size, k * 6 + 4, none⟩ (.slice (some ⟨g, 0, none⟩) (E k).ln (E k).ln)).setCell ⟨w.heap.size, k * 6 + 5, none⟩ (.int .i64 (E k).s)).heap.size = w1.heap.size := by simp
      have HBt : Hid (∀ i, i < k + 1 → w.heap.size < (if i = k then g else B i) ∧ (if i = k then g else B i) < ((((((w1.setCell ⟨w.heap.size, k * 6, none⟩ (.int .i64 (E k).g)).setCell ⟨w.heap.size, k * 6 + 1, none⟩ (.int .i64 (E k).n)).setCell ⟨w.heap.size, k * 6 + 2, none⟩ (.int .i64 (E k).k)).setCell ⟨w.heap.size, k * 6 + 3, none⟩ (.string (E k).t)).setCell ⟨w.heap.size, k * 6 + 4, none⟩ (.slice (some ⟨g, 0, none⟩) (E k).ln (E k).ln)).setCell ⟨w.heap.size, k * 6 + 5, none⟩ (.int .i64 (E k).s)).heap.size) := fun i hi => by
        rw [hsz]
        by_cases e : i = k
        · rw [if_pos e]; omega
        · rw [if_neg e]
          have := hbt i (by omega)
          have := hb1.size
          omega
      have HB1 : Hid (Below w.heap.size w ((((((w1.setCell ⟨w.heap.size, k * 6, none⟩ (.int .i64 (E k).g)).setCell ⟨w.heap.size, k * 6 + 1, none⟩ (.int .i64 (E k).n)).setCell ⟨w.heap.size, k * 6 + 2, none⟩ (.int .i64 (E k).k)).setCell ⟨w.heap.size, k * 6 + 3, none⟩ (.string (E k).t)).setCell ⟨w.heap.size, k * 6 + 4, none⟩ (.slice (some ⟨g, 0, none⟩) (E k).ln (E k).ln)).setCell ⟨w.heap.size, k * 6 + 5, none⟩ (.int .i64 (E k).s))) := ((((((bnext hb (Nat.le_refl _) hb1).setCell (Nat.le_refl _) _).setCell (Nat.le_refl _) _).setCell (Nat.le_refl _) _).setCell (Nat.le_refl _) _).setCell (Nat.le_refl _) _).setCell (Nat.le_refl _) _
      have HS1 : Hid (w.heap.size < ((((((w1.setCell ⟨w.heap.size, k * 6, none⟩ (.int .i64 (E k).g)).setCell ⟨w.heap.size, k * 6 + 1, none⟩ (.int .i64 (E k).n)).setCell ⟨w.heap.size, k * 6 + 2, none⟩ (.int .i64 (E k).k)).setCell ⟨w.heap.size, k * 6 + 3, none⟩ (.string (E k).t)).setCell ⟨w.heap.size, k * 6 + 4, none⟩ (.slice (some ⟨g, 0, none⟩) (E k).ln (E k).ln)).setCell ⟨w.heap.size, k * 6 + 5, none⟩ (.int .i64 (E k).s)).heap.size) := by
        have := hb1.size
        show _ < _
        rw [hsz]
        omega
      clear hr hb1 hp hp1 hin hbt hb hx cT HP HL y0 y1 y2 y3 y4 y5 hg0 hg1 hne hsz
      go_wp2_with fail
      exact ⟨⟨k + 1, fun i => if i = k then g else B i, by omega, rfl, HPt.out, HIn.out, HBt.out, HB1.out, HS1.out⟩, by simp [intOf]; omega⟩
    · obtain rfl : k = m := by omega
      have HE : Hid (PxE (some ⟨w.heap.size, 0, none⟩) k (fun i => some ⟨B i, 0, none⟩) (fun i => (E i).ln) E wr) := ⟨.inr ⟨w.heap.size, 0, rfl, fun i hi => by
        obtain ⟨⟨z0, z1, z2, z3, z4, z5, ⟨c0, c1, c2, c3, c4, c5⟩, e⟩, -⟩ := hp i hi
        obtain ⟨rfl, rfl, rfl, rfl, rfl, rfl⟩ := e hi
        rw [Nat.zero_add]
        exact ⟨c0, c1, c2, c3, c4, c5⟩⟩, fun i hi => (hin i hi).px⟩
      have HB := hide hb
      clear HP HL hp hin hbt hb
      go_wp2
      go_ret
      exact ⟨B, rfl, HE.out, HB.out⟩

set_option maxRecDepth 100000 in
set_option maxHeartbeats 2000000 in
theorem eqElem_any (g n k : Int) (t : ByteArray) (x x' : Option Addr) (l c c' : Nat) (f : Nat → Int) (s : Int) (hl : l ≤ 1048576) (w : World) (h : Px x l f w) (h' : Px x' l f w) :
    Calls Try.prog 37 #[vE g n k t x l c s, vE g n k t x' l c' s] w fun e w' => e = .returned (.bool true) ∧ Below w.heap.size w w' := by
  have HS0 := hide (((St.start w).box [.int .i64 g, .int .i64 n, .int .i64 k, .string t, .slice x l c, .int .i64 s] 53).box' [.int .i64 g, .int .i64 n, .int .i64 k, .string t, .slice x' l c', .int .i64 s] 53 (b := w.heap.size + 1) (by simp))
  have cE := fun w' hx hx' => eqInts_b x x' l c c' f hl w' hx hx'
  have HP := hide (h.below HS0.out.below)
  have HP' := hide (h'.below HS0.out.below)
  have q1 : (g != g) = false := by simp
  have q2 : (n != n) = false := by simp
  have q3 : (k != k) = false := by simp
  have q4 : (t.toList == t.toList) = true := by simp
  have q5 : (s != s) = false := by simp
  clear h h'
  go_enter Try.func37, Try.ntmps37
  go_wp2_with fail
  refine (cE _ HP.out HP'.out).mono ?_
  rintro e w1 ⟨rfl, hb⟩
  have HS1 := hide (HS0.out.next hb)
  have i1 := HS1.out.cell 1 rfl 5 rfl
  have j1 := HS1.out.cell 0 rfl 5 rfl
  clear cE HP HP' HS0 hb
  go_wp2_with fail
  go_ret
  exact ⟨rfl, HS1.out.below⟩

set_option maxRecDepth 100000 in
set_option maxHeartbeats 4000000 in
theorem eqElemS_any (a a' : Option Addr) (m cap cap' : Nat) (ad ad' : Nat → Option Addr) (cp cp' : Nat → Nat) (E : Nat → El) (hm : m ≤ 1048576) (hl : ∀ i, i < m → (E i).ln ≤ 1048576) (w : World) (h : PxE a m ad cp E w) (h' : PxE a' m ad' cp' E w) :
    Calls Try.prog 18 #[.slice a m cap, .slice a' m cap'] w fun e w' => e = .returned (.bool true) ∧ Below w.heap.size w w' := by
  have HP := hide h
  have HP' := hide h'
  have HL := hide hl
  clear h h' hl
  go_enter Try.func18, Try.ntmps18
  go_wp2
  go_loopw [5] (fun i wr => ∃ k : Nat, k ≤ m ∧ i = .int .i64 k ∧ Below w.heap.size w wr) (fun i _ => m - (intOf i).toNat)
  case atStart => exact ⟨0, by omega, rfl, Below.refl _ _⟩
  case round =>
    obtain ⟨k, hk, rfl, hb⟩ := hrel
    by_cases hlt : k < m
    · obtain ⟨b, off, rfl, z0, z1, z2, z3, z4, z5⟩ := (HP.out.below hb).at hlt
      obtain ⟨b', off', rfl, y0, y1, y2, y3, y4, y5⟩ := (HP'.out.below hb).at hlt
      have hq := eqElem_any (E k).g (E k).n (E k).k (E k).t (ad k) (ad' k) (E k).ln (cp k) (cp' k) (E k).f (E k).s (HL.out k hlt)
      have HX := hide (((HP.out.2 k hlt).below hb).below (Below.refl _ _).drew)
      have HX' := hide (((HP'.out.2 k hlt).below hb).below (Below.refl _ _).drew)
      have HB : Hid (Below w.heap.size w wr.drew) := hb.drew
      clear HP HP' HL hb
      generalize (E k).g = x0 at *
      generalize (E k).n = x1 at *
      generalize (E k).k = x2 at *
      generalize (E k).t = x3 at *
      generalize (E k).ln = x4 at *
      generalize (E k).s = x5 at *
      go_wp2_with fail
      go_region_with (go_at_call 37; refine (hq _ HX.out HX'.out).mono ?_; rintro e w1 ⟨rfl, hb1⟩)
      all_goals
        have HB1 : Hid (Below w.heap.size w w1) := bnext HB.out (Nat.le_refl _) hb1
        clear hb1 HB z0 z1 z2 z3 z4 z5 y0 y1 y2 y3 y4 y5 HX HX' hq
        go_wp2_with fail
        exact ⟨⟨k + 1, by omega, rfl, HB1.out⟩, by simp [intOf]; omega⟩
    · go_wp2
      go_ret
      exact ⟨rfl, hb⟩

end Go.Proofs.Yteadhhhhnihoaaa

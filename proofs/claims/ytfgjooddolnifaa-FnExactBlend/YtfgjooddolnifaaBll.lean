/- Lists of lists of pairs: the law's own copies, comparisons and marks. -/
import Derived.Test.YtfgjooddolnifaaBls
import Derived.Test.YtfgjooddolnifaaFmk
namespace Go.Proofs.Ytfgjooddolnifaa
open Ieee Go.RowKit
attribute [local go_sem] run_store_float alloc_drewN setCell_drewN shape?_drewN

/-- how many there are in all -/
def sumN (ln : Nat → Nat) : Nat → Nat
  | 0 => 0
  | k + 1 => sumN ln k + ln k
theorem sumN_le {ln : Nat → Nat} : ∀ {k m : Nat}, k < m → ln k ≤ sumN ln m
  | k, m + 1, h => by
    by_cases e : k = m
    · subst e; unfold sumN; omega
    · have := sumN_le (ln := ln) (k := k) (m := m) (by omega)
      unfold sumN; omega
theorem sumN_mono {ln : Nat → Nat} {k m : Nat} (h : k ≤ m) : sumN ln k ≤ sumN ln m := by
  induction m with
  | zero => obtain rfl : k = 0 := by omega
            exact Nat.le_refl _
  | succ m ih =>
    by_cases e : k = m + 1
    · subst e; exact Nat.le_refl _
    · have := ih (by omega)
      have e2 : sumN ln (m + 1) = sumN ln m + ln m := rfl
      omega

set_option maxHeartbeats 1000000 in
theorem szCxSS_any (a : Option Addr) (m cap : Nat) (ad : Nat → Option Addr) (ln cp : Nat → Nat) (hm : m ≤ maxLen) (hl : ∀ i, ln i ≤ maxLen) (w : World) (h : PxV a m (fun i => .slice (ad i) (ln i) (cp i)) w) :
    Calls Try.prog 22 #[.slice a m cap, .int .i64 1048576] w fun e w' => w' = w ∧ ∃ v : Int, e = .returned (.int .i64 v) ∧ (v < 0 ∨ (0 ≤ v ∧ m + sumN ln m ≤ 1048576)) := by
  unfold maxLen at hm hl
  by_cases hb : (1048576 : Int) < m
  · have h1 : 1048576 - (m : Int) < 0 := by omega
    clear h
    go_enter Try.func22, Try.ntmps22
    go_wp2_with fail
    go_ret
    exact ⟨rfl, _, rfl, .inl (by decide)⟩
  · have h1 : ¬ 1048576 - (m : Int) < 0 := by omega
    have HP := hide h
    have HL := hide hl
    clear h hl
    go_enter Try.func22, Try.ntmps22
    go_wp2_with fail
    go_loop [1, 5] (fun l i => ∃ k : Nat, k ≤ m ∧ i = .int .i64 k ∧ l = .int .i64 (1048576 - (m : Int) - (sumN ln k : Int)) ∧ m + sumN ln k ≤ 1048576) (fun _ i => m - (intOf i).toNat)
    case atStart => exact ⟨0, by omega, rfl, by simp [sumN], by simp [sumN]; omega⟩
    case round =>
      obtain ⟨k, hk, rfl, rfl, hs⟩ := hrel
      by_cases hlt : k < m
      · obtain ⟨b, off, rfl, -, hc⟩ := HP.out.at (by omega)
        have hck : w.cell? ⟨b, off + k, none⟩ = some (.slice (ad k) (ln k) (cp k)) := hc k hlt
        have hlk := HL.out k
        have cz := szCxS_any (ad k) (ln k) (cp k) (1048576 - (m : Int) - (sumN ln k : Int)) (by omega) (by omega) (by omega)
        have e1 : sumN ln (k + 1) = sumN ln k + ln k := rfl
        have E1 := hide e1
        generalize sumN ln k = S at *
        generalize ln k = K at *
        clear HP HL hc e1
        by_cases hq : 1048576 - (m : Int) - (S : Int) < (K : Int)
        · rw [if_pos hq] at cz
          clear hq
          go_wp2_with fail
          refine (cz _).mono ?_
          rintro e w1 ⟨rfl, rfl⟩
          clear cz
          go_wp2_with fail
          go_ret
          exact ⟨rfl, _, rfl, .inl (by decide)⟩
        · rw [if_neg hq] at cz
          have h9 : ¬ 1048576 - (m : Int) - (S : Int) - (K : Int) < 0 := by omega
          go_wp2_with fail
          refine (cz _).mono ?_
          rintro e w1 ⟨rfl, rfl⟩
          clear cz
          go_wp2_with fail
          exact ⟨⟨k + 1, by omega, rfl, by rw [E1.out]; congr 1; omega, by rw [E1.out]; omega⟩, by simp [intOf]; omega⟩
      · obtain rfl : k = m := by omega
        have hs0 : (0 : Int) ≤ 1048576 - (k : Int) - (sumN ln k : Int) := by omega
        have HS := hide hs
        have HS0 := hide hs0
        clear HP HL hs hs0
        go_wp2
        go_ret
        exact ⟨rfl, 1048576 - (k : Int) - (sumN ln k : Int), rfl, .inr ⟨HS0.out, HS.out⟩⟩

theorem RowV.set {b len : Nat} {f : Nat → Value} {w : World} (h : RowV b len f w) {p : Addr} (hp : p.block ≠ b) (v : Value) : RowV b len f (w.setCell p v) := fun k hk => by
  refine ⟨?_, by simpa using (h k hk).2⟩
  rw [World.cell?_setCell_other _ _ _ _ (by intro e; subst e; exact hp rfl)]
  exact (h k hk).1
/-- a list of lists of its own: the outer row at o, the inner rows behind it, one behind the other, all from s0 on and below s1 -/
structure OwS (o : Nat) (B : Nat → Nat) (m : Nat) (ln : Nat → Nat) (F : Nat → Nat → Nat) (s0 s1 : Nat) (w : World) : Prop where
  out : RowV o m (fun i => .slice (some ⟨B i, 0, none⟩) (ln i) (ln i)) w
  inn : ∀ i, i < m → RowV (B i) (ln i * 2) (flt (F i)) w
  lo : s0 ≤ o
  hi : o < s1
  bt : ∀ i, i < m → o < B i ∧ B i < s1
  inc : ∀ i j, i < j → j < m → B i < B j
  sz : s1 ≤ w.heap.size
theorem OwS.below {o : Nat} {B : Nat → Nat} {m : Nat} {ln : Nat → Nat} {F : Nat → Nat → Nat} {s0 s1 : Nat} {w w' : World} (h : OwS o B m ln F s0 s1 w) (hb : Below w.heap.size w w') : OwS o B m ln F s0 s1 w' :=
  ⟨h.out.below hb (Nat.lt_of_lt_of_le h.hi h.sz), fun i hi => (h.inn i hi).below hb (Nat.lt_of_lt_of_le (h.bt i hi).2 h.sz), h.lo, h.hi, h.bt, h.inc, Nat.le_trans h.sz hb.size⟩
theorem OwS.pxs {o : Nat} {B : Nat → Nat} {m : Nat} {ln : Nat → Nat} {F : Nat → Nat → Nat} {s0 s1 : Nat} {w : World} (h : OwS o B m ln F s0 s1 w) : PxS (some ⟨o, 0, none⟩) m (fun i => some ⟨B i, 0, none⟩) ln ln F w :=
  ⟨h.out.ow.pxv, fun i hi => (h.inn i hi).ow.pxv⟩

set_option maxRecDepth 100000 in
theorem make_css (n : Nat) (h : n ≤ 1048576) (w : World) :
    (Instr.makeSlice 29 (.int .i64 n) (.int .i64 n)).run Try.prog w = .ok (.slice (some ⟨w.heap.size, 0, none⟩) n n) (w.alloc (.cells (madeCells #[.slice none 0 0] n) 24)) := by
  have := run_make (P := Try.prog) w 29 24 _ (.slice none 0 0) Try.underlying29 rfl rfl .i64 .i64 n n (by omega) (by omega) (by show (24 : Int) * _ ≤ _; omega) (by omega)
  rw [this]
  show Result.ok (Value.slice _ (n : Int).toNat (n : Int).toNat) (w.alloc (.cells (madeCells (Value.cells (.slice none 0 0)) ((n : Int).toNat * 1)) 24)) = _
  rw [Int.toNat_natCast, Nat.mul_one]
  rfl
theorem rowS_new (n : Nat) (t : TypeId) (w : World) : RowV w.heap.size n (fun _ => .slice none 0 0) (w.alloc (.cells (madeCells #[.slice none 0 0] n) t)) := by
  intro k hk
  have : (madeCells #[Value.slice none 0 0] n)[k]? = some (.slice none 0 0) := by
    rw [← Array.getElem?_toList, toList_madeCells_one, List.getElem?_replicate, if_pos hk]
  constructor
  · simp [go_sem, this]
  · simp [go_sem]

set_option maxHeartbeats 1000000 in
theorem toCxSS_any (a : Option Addr) (m cap : Nat) (ad : Nat → Option Addr) (ln cp : Nat → Nat) (F : Nat → Nat → Nat) (hm : m ≤ 1048576) (hl : ∀ i, i < m → ln i ≤ 1048576) (w : World) (h : PxS a m ad ln cp F w) :
    Calls Try.prog 24 #[.slice a m cap] w fun e w' => e = .returned (.slice (some ⟨w.heap.size, 0, none⟩) m m) ∧ Below w.heap.size w w' ∧ ∃ B, OwS w.heap.size B m ln F w.heap.size w'.heap.size w' := by
  have hmk := make_css m hm w
  have HP := hide h
  have HL := hide hl
  clear h hl
  go_enter Try.func24, Try.ntmps24
  go_wp2
  go_loopw [4] (fun i wr => ∃ (k : Nat) (B : Nat → Nat), k ≤ m ∧ i = .int .i64 k ∧ PartV w.heap.size m k (fun i => .slice (some ⟨B i, 0, none⟩) (ln i) (ln i)) wr ∧ (∀ i, i < k → RowV (B i) (ln i * 2) (flt (F i)) wr) ∧ (∀ i, i < k → w.heap.size < B i ∧ B i < wr.heap.size) ∧ (∀ i j, i < j → j < k → B i < B j) ∧ Below w.heap.size w wr ∧ w.heap.size < wr.heap.size) (fun i _ => m - (intOf i).toNat)
  case atStart => exact ⟨0, fun _ => 0, by omega, rfl, (rowS_new m 24 w).partV, fun i hi => absurd hi (Nat.not_lt_zero _), fun i hi => absurd hi (Nat.not_lt_zero _), fun i j _ hj => absurd hj (Nat.not_lt_zero _), bnew _ _, by simp⟩
  case round =>
    obtain ⟨k, B, hk, rfl, hp, hin, hbt, hinc, hb, hs⟩ := hrel
    clear hmk
    by_cases hlt : k < m
    · obtain ⟨b, off, rfl, hc, -⟩ := HP.out.at hlt
      have hck := cell_kept hb hc
      have cT := fun w' hx => toCxS_any (ad k) (ln k) (cp k) (F k) (HL.out k hlt) w' hx
      have hx := (HP.out.2 k hlt).below hb
      clear hc
      go_wp2_with fail
      refine (cT _ hx).mono ?_
      rintro e w1 ⟨rfl, hr, hb1, hs1⟩
      have hp1 := hp.below hb1 hs
      obtain ⟨⟨z, hz, -⟩, fr⟩ := hp1 k hlt
      have HPt : Hid (PartV w.heap.size m (k + 1) (fun i => .slice (some ⟨if i = k then wr.heap.size else B i, 0, none⟩) (ln i) (ln i)) (w1.setCell ⟨w.heap.size, k, none⟩ (.slice (some ⟨wr.heap.size, 0, none⟩) (ln k) (ln k)))) := by
        have hq : PartV w.heap.size m k (fun i => .slice (some ⟨if i = k then wr.heap.size else B i, 0, none⟩) (ln i) (ln i)) w1 := fun j hj => by
          obtain ⟨⟨z, hz, e⟩, f⟩ := hp1 j hj
          refine ⟨⟨z, hz, fun hjk => ?_⟩, f⟩
          rw [e hjk]
          show Value.slice (some ⟨B j, 0, none⟩) (ln j) (ln j) = .slice (some ⟨if j = k then wr.heap.size else B j, 0, none⟩) (ln j) (ln j)
          rw [if_neg (by omega)]
        exact hq.step hlt _ (by show _ = Value.slice (some ⟨if k = k then wr.heap.size else B k, 0, none⟩) (ln k) (ln k); rw [if_pos rfl])
      have HIn : Hid (∀ i, i < k + 1 → RowV (if i = k then wr.heap.size else B i) (ln i * 2) (flt (F i)) (w1.setCell ⟨w.heap.size, k, none⟩ (.slice (some ⟨wr.heap.size, 0, none⟩) (ln k) (ln k)))) := fun i hi => by
        by_cases e : i = k
        · subst e
          rw [if_pos rfl]
          exact hr.set (by show w.heap.size ≠ _; omega) _
        · rw [if_neg e]
          exact ((hin i (by omega)).below hb1 (hbt i (by omega)).2).set (by show w.heap.size ≠ _; have := (hbt i (by omega)).1; omega) _
      have HBt : Hid (∀ i, i < k + 1 → w.heap.size < (if i = k then wr.heap.size else B i) ∧ (if i = k then wr.heap.size else B i) < (w1.setCell ⟨w.heap.size, k, none⟩ (.slice (some ⟨wr.heap.size, 0, none⟩) (ln k) (ln k))).heap.size) := fun i hi => by
        have q : (w1.setCell ⟨w.heap.size, k, none⟩ (.slice (some ⟨wr.heap.size, 0, none⟩) (ln k) (ln k))).heap.size = w1.heap.size := by simp
        rw [q]
        by_cases e : i = k
        · rw [if_pos e]; exact ⟨hs, hs1⟩
        · rw [if_neg e]
          have := hbt i (by omega)
          have := hb1.size
          omega
      have HIc : Hid (∀ i j, i < j → j < k + 1 → (if i = k then wr.heap.size else B i) < (if j = k then wr.heap.size else B j)) := fun i j hij hj => by
        rw [if_neg (by omega)]
        by_cases e : j = k
        · rw [if_pos e]; exact (hbt i (by omega)).2
        · rw [if_neg e]; exact hinc i j hij (by omega)
      have HB1 := hide ((bnext hb (Nat.le_refl _) hb1).setCell (p := ⟨w.heap.size, k, none⟩) (Nat.le_refl _) (.slice (some ⟨wr.heap.size, 0, none⟩) (ln k) (ln k)))
      have HS1 : Hid (w.heap.size < (w1.setCell ⟨w.heap.size, k, none⟩ (.slice (some ⟨wr.heap.size, 0, none⟩) (ln k) (ln k))).heap.size) := by
        have := hb1.size
        show _ < _
        simp
        omega
      clear hr hb1 hs1 hp hp1 hin hbt hinc hb hx cT HP HL hck
      go_wp2_with fail
      exact ⟨⟨k + 1, fun i => if i = k then wr.heap.size else B i, by omega, rfl, HPt.out, HIn.out, HBt.out, HIc.out, HB1.out, HS1.out⟩, by simp [intOf]; omega⟩
    · obtain rfl : k = m := by omega
      clear HP HL
      go_wp2
      go_ret
      exact ⟨rfl, hb, B, ⟨hp.row, hin, Nat.le_refl _, hs, hbt, hinc, Nat.le_refl _⟩⟩

set_option maxHeartbeats 1000000 in
theorem eqCxSS_any (a a' : Option Addr) (m cap cap' : Nat) (ad ad' : Nat → Option Addr) (ln cp cp' : Nat → Nat) (F : Nat → Nat → Nat) (hm : m ≤ 1048576) (hl : ∀ i, i < m → ln i ≤ 1048576) (w : World) (h : PxS a m ad ln cp F w) (h' : PxS a' m ad' ln cp' F w) :
    Calls Try.prog 25 #[.slice a m cap, .slice a' m cap'] w fun e w' => e = .returned (.bool true) ∧ Below w.heap.size w w' := by
  have HP := hide h
  have HP' := hide h'
  have HL := hide hl
  clear h h' hl
  go_enter Try.func25, Try.ntmps25
  go_wp2
  go_loopw [5] (fun i wr => ∃ k : Nat, k ≤ m ∧ i = .int .i64 k ∧ Below w.heap.size w wr) (fun i _ => m - (intOf i).toNat)
  case atStart => exact ⟨0, by omega, rfl, Below.refl _ _⟩
  case round =>
    obtain ⟨k, hk, rfl, hb⟩ := hrel
    by_cases hlt : k < m
    · obtain ⟨b, off, rfl, hc, -⟩ := HP.out.at hlt
      obtain ⟨b', off', rfl, hc', -⟩ := HP'.out.at hlt
      have hz := cell_kept hb hc
      have hz' := cell_kept hb hc'
      have hq := eqCxS_one (ad k) (ad' k) (ln k) (cp k) (cp' k) (F k) (HL.out k hlt)
      have HX := hide (((HP.out.2 k hlt).below hb).below (Below.refl _ _).drew)
      have HX' := hide (((HP'.out.2 k hlt).below hb).below (Below.refl _ _).drew)
      have HB : Hid (Below w.heap.size w wr.drew) := hb.drew
      clear HP HP' HL hc hc' hb
      go_wp2_with fail
      go_region_with (go_at_call 18; refine (hq _ HX.out HX'.out).mono ?_; rintro e w1 ⟨rfl, hb1⟩)
      all_goals
        have HB1 : Hid (Below w.heap.size w w1) := bnext HB.out (Nat.le_refl _) hb1
        clear hb1 HB hz hz' HX HX'
        go_wp2_with fail
        exact ⟨⟨k + 1, by omega, rfl, HB1.out⟩, by simp [intOf]; omega⟩
    · go_wp2
      go_ret
      exact ⟨rfl, hb⟩

end Go.Proofs.Ytfgjooddolnifaa

/- Which places a path samples: the specification and the program. -/
import Derived.Test.YtjohlgemjkflhaaBol
import Derived.Test.YtjohlgemjkflhaaSmp
namespace Go.Proofs.Ytjohlgemjkflhaa
open Go.RowKit

/-- the place of the j-th sample in a square of m -/
def placeN (g : Nat → Int) (m j : Nat) : Nat := (g (j * 5 + 2) % (m : Int) * (m : Int) + g (j * 5 + 1) % (m : Int)).toNat
theorem placeN_lt (g : Nat → Int) {m : Nat} (h : 1 ≤ m) (j : Nat) : (placeN g m j : Int) = g (j * 5 + 2) % (m : Int) * (m : Int) + g (j * 5 + 1) % (m : Int) ∧ placeN g m j < m * m := by
  have h1 := emod_bd (g (j * 5 + 2)) h
  have h2 := emod_bd (g (j * 5 + 1)) h
  unfold placeN
  generalize g (j * 5 + 2) % (m : Int) = u at *
  generalize g (j * 5 + 1) % (m : Int) = v at *
  have h3 : 0 ≤ u * (m : Int) := Int.mul_nonneg h1.1 (by omega)
  have h4 : u * (m : Int) ≤ ((m : Int) - 1) * (m : Int) := Int.mul_le_mul_of_nonneg_right (by omega) (by omega)
  rw [Int.sub_mul, Int.one_mul] at h4
  have h5 : (m : Int) * (m : Int) = ((m * m : Nat) : Int) := by simp
  rw [h5] at h4
  exact ⟨by omega, by omega⟩

/-- which places the first k samples hit -/
def seenB (g : Nat → Int) (m k q : Nat) : Bool := anyG (fun j => decide (q = placeN g m j)) k
theorem seenB_step (g : Nat → Int) (m k q : Nat) : (if q = placeN g m k then true else seenB g m k q) = seenB g m (k + 1) q := by
  unfold seenB
  simp only [anyG]
  by_cases e : q = placeN g m k
  · rw [if_pos e]; simp [e]
  · rw [if_neg e]; simp [e]
/-- does the path cover the square -/
def covB (g : Nat → Int) (len m : Nat) : Bool := allG (seenB g m len) (m * m)
def coversB (g : Nat → Int) (len : Nat) (n : Int) : Bool := inB n 1 64 && (decide (len ≤ 8192) && covB g len n.toNat)

theorem side_nat {n : Int} (h : inB n 1 64 = true) : ∃ m : Nat, n = (m : Int) ∧ 1 ≤ m ∧ m ≤ 64 := by
  unfold inB at h
  simp only [Bool.and_eq_true, decide_eq_true_eq] at h
  exact ⟨n.toNat, by omega, by omega, by omega⟩

set_option maxHeartbeats 1000000 in
theorem specCovers_yes (a : Option Addr) (len cap : Nat) (g : Nat → Int) (hl : len ≤ 8192) (m : Nat) (m1 : 1 ≤ m) (m2 : m ≤ 64) (hin : inB (m : Int) 1 64 = true) (w : World) (h : Px a (len * 5) g w) :
    Calls Try.prog 6 #[.slice a len cap, .int .i64 m] w fun e w' => e = .returned (.bool (covB g len m)) ∧ Below w.heap.size w w' := by
  have cI := l1In_any (m : Int) 1 64
  rw [hin] at cI
  have hmm : m * m ≤ 4096 := Nat.mul_le_mul m2 m2
  have hn : (m : Int) * (m : Int) = ((m * m : Nat) : Int) := by simp
  have hmk := make_bools (m * m) (by omega)
  have hw1 : IntKind.i64.wrap ((m : Int) * (m : Int)) = ((m * m : Nat) : Int) := by rw [IntKind.wrap_i64, hn]; omega
  have hlen : ¬ (8192 : Int) < (len : Int) := by omega
  have HP : Hid (Px a (len * 5) g w) := h
  rw [show covB g len m = allG (seenB g m len) (m * m) from rfl]
  have HPl := fun j => placeN_lt g m1 j
  clear h hin
  generalize hM : m * m = M at *
  go_enter Try.func6, Try.ntmps6
  go_wp2_with fail
  refine (cI _).mono ?_
  rintro e w1 ⟨rfl, rfl⟩
  clear cI
  have hmk' := hmk w1
  go_wp2_with fail
  go_loopw [6] (fun i wr => ∃ k : Nat, k ≤ len ∧ i = .int .i64 k ∧ Below w1.heap.size w1 wr ∧ w1.heap.size < wr.heap.size ∧ RowB w1.heap.size M (seenB g m k) wr) (fun i _ => len - (intOf i).toNat)
  case atStart => exact ⟨0, by omega, rfl, bnew _ _, by simp, rowB_made M w1⟩
  case round =>
    obtain ⟨k, hk, rfl, hb, hs, hr⟩ := hrel
    clear hmk hmk'
    by_cases hlt : k < len
    · obtain ⟨b, off, rfl, hbl, _, z1, z2, _, _⟩ := HP.out.atSample hlt
      have y1 := (hb.cell (p := ⟨b, off + k * 5 + 1, none⟩) hbl).trans z1
      have y2 := (hb.cell (p := ⟨b, off + k * 5 + 2, none⟩) hbl).trans z2
      have c1 := l1Mod_any (g (k * 5 + 2)) m m1 m2
      have c2 := l1Mod_any (g (k * 5 + 1)) m m1 m2
      obtain ⟨hp1, hp2⟩ := HPl k
      have e1 := emod_bd (g (k * 5 + 2)) m1
      have e2 := emod_bd (g (k * 5 + 1)) m1
      have hc := hr _ hp2
      obtain ⟨hc, hf⟩ := hc
      have HR : Hid (RowB w1.heap.size M (seenB g m (k + 1)) (wr.setCell ⟨w1.heap.size, placeN g m k, none⟩ (.bool true)).drew) := ((hr.upd hp2 true).congr fun q _ => seenB_step g m k q).drew
      have HB : Hid (Below w1.heap.size w1 (wr.setCell ⟨w1.heap.size, placeN g m k, none⟩ (.bool true)).drew) := (hb.setCell (Nat.le_refl _) _).drew
      have hx1 : IntKind.i64.wrap (g (k * 5 + 2) % (m : Int) * (m : Int)) = g (k * 5 + 2) % (m : Int) * (m : Int) := wrapn (P := 64 * 64) (natb (by omega) (by omega)) (by omega)
      have hx2 : IntKind.i64.wrap (g (k * 5 + 2) % (m : Int) * (m : Int) + g (k * 5 + 1) % (m : Int)) = (placeN g m k : Int) := by rw [← hp1, IntKind.wrap_i64]; omega
      have hp3 := hp1.symm
      have HS : Hid (w1.heap.size < (wr.setCell ⟨w1.heap.size, placeN g m k, none⟩ (.bool true)).drew.heap.size) := by show _ < (wr.setCell _ _).heap.size; simpa using hs
      clear hr hb HPl HP z1 z2 hp1
      generalize placeN g m k = q at *
      generalize g (k * 5 + 2) % (m : Int) = u at *
      generalize g (k * 5 + 1) % (m : Int) = v at *
      have ht0 : (0 : Int) ≤ u * m := Int.mul_nonneg e1.1 (by omega)
      obtain ⟨t, ht⟩ : ∃ t, t = u * (m : Int) := ⟨_, rfl⟩
      rw [← ht] at hp3 hx2 ht0
      have hx3 : IntKind.i64.wrap (u * (m : Int)) = t := by rw [hx1, ht]
      have hn : (t + v).toNat = q := by omega
      have hn0 : IntKind.i64.wrap (t + v) = t + v := by rw [hx2, hp3]
      have hn1 : 0 ≤ t + v := by omega
      have hn2 : t + v < (M : Int) := by omega
      clear hp3 hx2 hx1 ht
      go_wp2_with fail
      go_region_held (fun w' => w'.cell? ⟨b, off + k * 5 + 1, none⟩ = some (.int .i64 (g (k * 5 + 1))) ∧ w'.cell? ⟨b, off + k * 5 + 2, none⟩ = some (.int .i64 (g (k * 5 + 2))))
        ((first | exact ⟨y1, y2⟩ | (refine ⟨?_, ?_⟩ <;> (refine Eq.trans (World.cell?_setCell_other wr _ _ _ (by simp; try omega)) ?_; first | exact y1 | exact y2))))
        ((first | (go_at_call 16; (with_reducible refine (c1 _).mono ?_); rintro e w2 ⟨rfl, rfl⟩) | (go_at_call 16; (with_reducible refine (c2 _).mono ?_); rintro e w2 ⟨rfl, rfl⟩)))
      all_goals
        generalize (wr.setCell ⟨w1.heap.size, q, none⟩ (.bool true)).drew = wz at *
        have hsz : w1.heap.size < wz.heap.size := HS.out
        clear hc hf y1 y2 c1 c2 HS
        go_wp2_with fail
        exact ⟨⟨k + 1, by omega, rfl, HB.out, hsz, HR.out⟩, by simp [intOf]; omega⟩
    · obtain rfl : k = len := by omega
      have HB : Hid (Below w1.heap.size w1 wr) := hb
      have HR : Hid (RowB w1.heap.size M (seenB g m k) wr) := hr
      clear hb hr HP HPl hs
      go_wp2_with fail
      go_loop [7] (fun i => ∃ q : Nat, q ≤ M ∧ i = .int .i64 q ∧ allG (seenB g m k) q = true) (fun i => M - (intOf i).toNat)
      case atStart => exact ⟨0, by omega, rfl, rfl⟩
      case round =>
        obtain ⟨q, hq, rfl, ha⟩ := hrel
        by_cases hlt : q < M
        · have hc := (HR.out q hlt).1
          cases hv : seenB g m k q
          · rw [hv] at hc
            have HA : Hid (allG (seenB g m k) M = false) := allG_no q hlt hv
            clear hv ha
            go_wp2_with fail
            go_ret
            exact ⟨by rw [HA.out]; rfl, HB.out⟩
          · rw [hv] at hc
            have HA : Hid (allG (seenB g m k) (q + 1) = true) := by show (allG (seenB g m k) q && seenB g m k q) = true; rw [ha, hv]; rfl
            clear hv ha
            go_wp2_with fail
            exact ⟨⟨q + 1, by omega, rfl, HA.out⟩, by simp [intOf]; omega⟩
        · obtain rfl : q = M := by omega
          have HA : Hid (allG (seenB g m k) q = true) := ha
          clear ha
          go_wp2_with fail
          go_ret
          exact ⟨by rw [HA.out]; rfl, HB.out⟩

theorem index_any (b M : Nat) (hM : M ≤ 4096) (f : Nat → Bool) (w : World) (h : RowB b M f w) :
    Calls Try.prog 26 #[.slice (some ⟨b, 0, none⟩) M M, .bool false] w fun e w' => (∃ n : Int, e = .returned (.int .i64 n) ∧ decide (0 ≤ n) = !allG f M) ∧ w' = w := by
  have HR : Hid (RowB b M f w) := h
  clear h
  go_enter Try.func26, Try.ntmps26
  go_wp2
  go_loop [5, 8] (fun _ i => ∃ q : Nat, q ≤ M ∧ i = .int .i64 q ∧ allG f q = true) (fun _ i => M - (intOf i).toNat)
  case atStart => exact ⟨0, by omega, rfl, rfl⟩
  case round =>
    obtain ⟨q, hq, rfl, ha⟩ := hrel
    by_cases hlt : q < M
    · have hc := (HR.out q hlt).1
      cases hv : f q
      · rw [hv] at hc
        have HA : Hid (allG f M = false) := allG_no q hlt hv
        clear hv ha
        go_wp2_with fail
        go_ret
        exact ⟨⟨q, rfl, by rw [HA.out]; simp⟩, rfl⟩
      · rw [hv] at hc
        have HA : Hid (allG f (q + 1) = true) := by show (allG f q && f q) = true; rw [ha, hv]; rfl
        clear hv ha
        go_wp2_with fail
        exact ⟨⟨q + 1, by omega, rfl, HA.out⟩, by simp [intOf]; omega⟩
    · obtain rfl : q = M := by omega
      have HA : Hid (allG f q = true) := ha
      clear ha
      go_wp2_with fail
      go_ret
      exact ⟨⟨-1, rfl, by rw [HA.out]; rfl⟩, rfl⟩

theorem contains_any (b M : Nat) (hM : M ≤ 4096) (f : Nat → Bool) (w : World) (h : RowB b M f w) :
    Calls Try.prog 20 #[.slice (some ⟨b, 0, none⟩) M M, .bool false] w fun e w' => e = .returned (.bool (!allG f M)) ∧ w' = w := by
  have c := index_any b M hM f w h
  clear h
  go_enter Try.func20, Try.ntmps20
  go_wp2_with fail
  refine c.mono ?_
  rintro e w1 ⟨⟨n, rfl, hn⟩, rfl⟩
  have HN : Hid (decide (0 ≤ n) = !allG f M) := hn
  clear hn
  go_wp2_with fail
  go_ret
  exact ⟨by rw [← HN.out]; rfl, rfl⟩

set_option maxHeartbeats 1000000 in
theorem implCovers_yes (a : Option Addr) (len cap : Nat) (g : Nat → Int) (hl : len ≤ 8192) (m : Nat) (m1 : 1 ≤ m) (m2 : m ≤ 64) (hin : inB (m : Int) 1 64 = true) (w : World) (h : Px a (len * 5) g w) :
    Calls Try.prog 8 #[.slice a len cap, .int .i64 m] w fun e w' => e = .returned (.bool (covB g len m)) ∧ Below w.heap.size w w' := by
  have cI := isSide_any (m : Int)
  rw [hin] at cI
  have hmm : m * m ≤ 4096 := Nat.mul_le_mul m2 m2
  have hn : (m : Int) * (m : Int) = ((m * m : Nat) : Int) := by simp
  have hmk := make_bools (m * m) (by omega)
  have hw1 : IntKind.i64.wrap ((m : Int) * (m : Int)) = ((m * m : Nat) : Int) := by rw [IntKind.wrap_i64, hn]; omega
  have hlen : ¬ (8192 : Int) < (len : Int) := by omega
  have HP : Hid (Px a (len * 5) g w) := h
  rw [show covB g len m = allG (seenB g m len) (m * m) from rfl]
  have HPl := fun j => placeN_lt g m1 j
  clear h hin
  generalize hM : m * m = M at *
  go_enter Try.func8, Try.ntmps8
  go_wp2_with fail
  refine (cI _).mono ?_
  rintro e w1 ⟨rfl, rfl⟩
  clear cI
  have hmk' := hmk w1
  go_wp2_with fail
  go_loopw [7, 22] (fun _ i wr => ∃ k : Nat, k ≤ len ∧ i = .int .i64 k ∧ Below w1.heap.size w1 wr ∧ w1.heap.size < wr.heap.size ∧ RowB w1.heap.size M (seenB g m k) wr) (fun _ i _ => len - (intOf i).toNat)
  case atStart => exact ⟨0, by omega, rfl, bnew _ _, by simp, rowB_made M w1⟩
  case round =>
    obtain ⟨k, hk, rfl, hb, hs, hr⟩ := hrel
    clear hmk hmk'
    by_cases hlt : k < len
    · obtain ⟨b, off, rfl, hbl, z0, z1, z2, z3, z4⟩ := (HP.out.below hb).atSample hlt
      have c1 := modulo_any (g (k * 5 + 2)) m m1 m2
      have c2 := modulo_any (g (k * 5 + 1)) m m1 m2
      obtain ⟨hp1, hp2⟩ := HPl k
      have e1 := emod_bd (g (k * 5 + 2)) m1
      have e2 := emod_bd (g (k * 5 + 1)) m1
      generalize hwa : wr.alloc (.cells #[.int .i64 (g (k * 5)), .int .i64 (g (k * 5 + 1)), .int .i64 (g (k * 5 + 2)), .int .i64 (g (k * 5 + 3)), .int .i64 (g (k * 5 + 4))] 38) = wa
      have HwA : Hid (wr.alloc (.cells #[.int .i64 (g (k * 5)), .int .i64 (g (k * 5 + 1)), .int .i64 (g (k * 5 + 2)), .int .i64 (g (k * 5 + 3)), .int .i64 (g (k * 5 + 4))] 38) = wa) := hwa
      have hba : Below wr.heap.size wr wa := by rw [← hwa]; exact bnew _ _
      have y1 : wa.cell? ⟨wr.heap.size, 1, none⟩ = some (.int .i64 (g (k * 5 + 1))) := by rw [← hwa]; simp [go_sem]
      have y2 : wa.cell? ⟨wr.heap.size, 2, none⟩ = some (.int .i64 (g (k * 5 + 2))) := by rw [← hwa]; simp [go_sem]
      have hr1 : RowB w1.heap.size M (seenB g m k) wa := hr.below hba hs
      have hb1 : Below w1.heap.size w1 wa := bnext hb (Nat.le_refl _) hba
      have hs1 : w1.heap.size < wa.heap.size := Nat.lt_of_lt_of_le hs hba.size
      have hc := hr1 _ hp2
      obtain ⟨hc, hf⟩ := hc
      have HR : Hid (RowB w1.heap.size M (seenB g m (k + 1)) (wa.setCell ⟨w1.heap.size, placeN g m k, none⟩ (.bool true)).drew) := ((hr1.upd hp2 true).congr fun q _ => seenB_step g m k q).drew
      have HB : Hid (Below w1.heap.size w1 (wa.setCell ⟨w1.heap.size, placeN g m k, none⟩ (.bool true)).drew) := (hb1.setCell (Nat.le_refl _) _).drew
      have hx1 : IntKind.i64.wrap (g (k * 5 + 2) % (m : Int) * (m : Int)) = g (k * 5 + 2) % (m : Int) * (m : Int) := wrapn (P := 64 * 64) (natb (by omega) (by omega)) (by omega)
      have hx2 : IntKind.i64.wrap (g (k * 5 + 2) % (m : Int) * (m : Int) + g (k * 5 + 1) % (m : Int)) = (placeN g m k : Int) := by rw [← hp1, IntKind.wrap_i64]; omega
      have hp3 := hp1.symm
      have HS : Hid (w1.heap.size < (wa.setCell ⟨w1.heap.size, placeN g m k, none⟩ (.bool true)).drew.heap.size) := by show _ < (wa.setCell _ _).heap.size; simpa using hs1
      clear hr hb HPl HP hp1 hr1 hb1 hwa hba
      generalize placeN g m k = q at *
      generalize g (k * 5 + 2) % (m : Int) = u at *
      generalize g (k * 5 + 1) % (m : Int) = v at *
      have ht0 : (0 : Int) ≤ u * m := Int.mul_nonneg e1.1 (by omega)
      obtain ⟨t, ht⟩ : ∃ t, t = u * (m : Int) := ⟨_, rfl⟩
      rw [← ht] at hp3 hx2 ht0
      have hx3 : IntKind.i64.wrap (u * (m : Int)) = t := by rw [hx1, ht]
      have hn : (t + v).toNat = q := by omega
      have hn0 : IntKind.i64.wrap (t + v) = t + v := by rw [hx2, hp3]
      have hn1 : 0 ≤ t + v := by omega
      have hn2 : t + v < (M : Int) := by omega
      clear hp3 hx2 hx1 ht
      go_wp2_with fail
      rw [HwA.out]
      clear HwA z0 z1 z2 z3 z4
      go_region_held (fun w' => w'.cell? ⟨wr.heap.size, 1, none⟩ = some (.int .i64 (g (k * 5 + 1))) ∧ w'.cell? ⟨wr.heap.size, 2, none⟩ = some (.int .i64 (g (k * 5 + 2))))
        ((first | exact ⟨y1, y2⟩ | (refine ⟨?_, ?_⟩ <;> (refine Eq.trans (World.cell?_setCell_other wa _ _ _ (by simp; try omega)) ?_; first | exact y1 | exact y2))))
        ((first | (go_at_call 19; (with_reducible refine (c1 _).mono ?_); rintro e w2 ⟨rfl, rfl⟩) | (go_at_call 19; (with_reducible refine (c2 _).mono ?_); rintro e w2 ⟨rfl, rfl⟩)))
      all_goals
        generalize (wa.setCell ⟨w1.heap.size, q, none⟩ (.bool true)).drew = wz at *
        have hsz : w1.heap.size < wz.heap.size := HS.out
        clear hc hf y1 y2 c1 c2 HS
        go_wp2_with fail
        exact ⟨⟨k + 1, by omega, rfl, HB.out, hsz, HR.out⟩, by simp [intOf]; omega⟩
    · obtain rfl : k = len := by omega
      have HB : Hid (Below w1.heap.size w1 wr) := hb
      have cC := contains_any w1.heap.size M hmm _ wr hr
      clear hb hr HP HPl hs
      go_wp2_with fail
      refine cC.mono ?_
      rintro e w2 ⟨rfl, rfl⟩
      go_wp2_with fail
      go_ret
      exact ⟨by simp, HB.out⟩

end Go.Proofs.Ytjohlgemjkflhaa

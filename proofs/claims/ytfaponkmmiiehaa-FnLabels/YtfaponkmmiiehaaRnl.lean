/- Runs of a mask: the specification. -/
import Derived.Test.YtfaponkmmiiehaaMk8
import Derived.Test.YtfaponkmmiiehaaGrl
namespace Go.Proofs.Ytfaponkmmiiehaa
open Go.RowKit

/-- the kind ahead of pixel k, how many runs there are, and the runs -/
def rnow (f : Nat → Int) : Nat → Int
  | 0 => 0
  | k + 1 => f k
def rcnt (f : Nat → Int) : Nat → Nat
  | 0 => 1
  | k + 1 => if f k = rnow f k then rcnt f k else rcnt f k + 1
def rval (f : Nat → Int) : Nat → Nat → Int
  | 0, _ => 0
  | k + 1, j => if f k = rnow f k then (if j + 1 = rcnt f k then rval f k j + 1 else rval f k j) else (if j = rcnt f k then 1 else rval f k j)
theorem rcnt_bd (f : Nat → Int) : ∀ k, 1 ≤ rcnt f k ∧ rcnt f k ≤ k + 1
  | 0 => by simp [rcnt]
  | k + 1 => by
    have := rcnt_bd f k
    simp only [rcnt]
    split <;> omega
theorem rval_bd (f : Nat → Int) : ∀ k j, 0 ≤ rval f k j ∧ rval f k j ≤ k
  | 0, j => by simp [rval]
  | k + 1, j => by
    have := rval_bd f k j
    simp only [rval]
    repeat' split
    all_goals omega
theorem rval_out (f : Nat → Int) : ∀ k j, rcnt f k ≤ j → rval f k j = 0
  | 0, j, _ => by simp [rval]
  | k + 1, j, h => by
    simp only [rcnt] at h
    simp only [rval]
    by_cases e : f k = rnow f k
    · rw [if_pos e] at h ⊢
      rw [if_neg (by omega)]
      exact rval_out f k j h
    · rw [if_neg e] at h ⊢
      rw [if_neg (by omega)]
      exact rval_out f k j (by omega)
theorem rcnt_same {f : Nat → Int} {k : Nat} (h : f k = rnow f k) : rcnt f (k + 1) = rcnt f k := by simp only [rcnt]; rw [if_pos h]
theorem rcnt_other {f : Nat → Int} {k : Nat} (h : f k ≠ rnow f k) : rcnt f (k + 1) = rcnt f k + 1 := by simp only [rcnt]; rw [if_neg h]
theorem rval_same {f : Nat → Int} {k : Nat} (h : f k = rnow f k) (j : Nat) : rval f (k + 1) j = if j = rcnt f k - 1 then rval f k (rcnt f k - 1) + 1 else rval f k j := by
  have := rcnt_bd f k
  simp only [rval]
  rw [if_pos h]
  by_cases e : j + 1 = rcnt f k
  · obtain rfl : j = rcnt f k - 1 := by omega
    rw [if_pos e, if_pos rfl]
  · rw [if_neg e, if_neg (by omega)]
theorem rval_other {f : Nat → Int} {k : Nat} (h : f k ≠ rnow f k) (j : Nat) : rval f (k + 1) j = if j = rcnt f k then 1 else rval f k j := by
  simp only [rval]
  rw [if_neg h]

theorem rnow_bit {f : Nat → Int} {n : Nat} (h : bit1 f n) : ∀ k, k ≤ n → rnow f k = 0 ∨ rnow f k = 1
  | 0, _ => .inl rfl
  | k + 1, hk => h k (by omega)
theorem rnow_flip {f : Nat → Int} {n k : Nat} (h : bit1 f n) (hk : k < n) (hne : f k ≠ rnow f k) : 1 - rnow f k = f k := by
  have h1 := h k hk
  have h2 := rnow_bit h k (by omega)
  omega

theorem fl_map (f : Nat → Int) : ∀ n, fl f n = (List.range n).map f
  | 0 => rfl
  | n + 1 => by rw [fl, fl_map f n, List.range_succ, List.map_append]; rfl
theorem fl_congr {f g : Nat → Int} {n : Nat} (h : ∀ j, j < n → f j = g j) : fl f n = fl g n := by
  rw [fl_map, fl_map]
  exact List.map_congr_left (fun j hj => h j (List.mem_range.1 hj))
theorem fl_set {f g : Nat → Int} {n k : Nat} {z : Int} (h : ∀ j, j < n → g j = if j = k then z else f j) : ints (fl g n) = (ints (fl f n)).set k (.int .i64 z) := by
  unfold ints
  rw [fl_map, fl_map]
  apply List.ext_getElem?
  intro i
  rw [List.getElem?_set]
  by_cases hi : i < n
  · by_cases e : k = i
    · subst e
      rw [if_pos rfl]
      simp [hi, h k hi]
    · rw [if_neg e]
      simp [hi, h i hi, Ne.symm e]
  · by_cases e : k = i
    · subst e
      simp [hi]
    · rw [if_neg e]
      simp [hi]
/-- one number of a list of the call's own is written -/
theorem own_set {w : World} {B n b cap : Nat} {e : TypeId} {f g : Nat → Int} (h : w.ownsRow B e 1 (.slice (some ⟨b, 0, none⟩) n cap) n (ints (fl f n))) {k : Nat} {z : Int} (hg : ∀ j, j < n → g j = if j = k then z else f j) :
    (w.setCell ⟨b, k, none⟩ (.int .i64 z)).ownsRow B e 1 (.slice (some ⟨b, 0, none⟩) n cap) n (ints (fl g n)) := by
  obtain ⟨h1, h2⟩ := h
  refine ⟨by rw [ints_length, fl_len] at h1 ⊢; exact h1, ?_⟩
  rcases h2 with ⟨hv, _⟩ | ⟨b', cap', cur, hv, hB, hh, hn, hc, hs, ht⟩
  · cases hv
  · cases hv
    refine .inr ⟨b, cap, cur.setIfInBounds k (.int .i64 z), rfl, hB, ?_, hn, hc, by rw [Array.size_setIfInBounds]; exact hs, ?_⟩
    · rw [heap_setCell_same w b k cur e _ hh]
    · rw [Array.toList_setIfInBounds, List.take_set, Nat.mul_one] 
      rw [Nat.mul_one] at ht
      rw [ht, ← fl_set hg]
theorem own_parts {w : World} {B n : Nat} {e : TypeId} {v : Value} {f : Nat → Int} (h : w.ownsRow B e 1 v n (ints (fl f n))) (hn : 0 < n) :
    ∃ b cap, v = .slice (some ⟨b, 0, none⟩) n cap ∧ B ≤ b ∧ ∀ k, k < n → w.cell? ⟨b, k, none⟩ = some (.int .i64 (f k)) ∧ w.frozen? ⟨b, k, none⟩ = false := by
  obtain ⟨a, cap, b, hv, ho, hB⟩ := ow_fl h
  rcases ho with h0 | ⟨ha, hr⟩
  · omega
  · refine ⟨b, cap, by rw [hv, ha], by omega, fun k hk => hr k hk⟩
theorem own_start (w : World) (B : Nat) (hB : B ≤ w.heap.size) (f : Nat → Int) (h0 : f 0 = 0) : (w.alloc (.cells #[.int .i64 0] 2)).ownsRow B 2 1 (.slice (some ⟨w.heap.size, 0, none⟩) 1 1) 1 (ints (fl f 1)) := by
  refine ⟨by rw [ints_length, fl_len], .inr ⟨w.heap.size, 1, #[.int .i64 0], rfl, hB, by show (w.heap.push _)[w.heap.size]? = _; exact Array.getElem?_push_size, by omega, by unfold maxLen; omega, rfl, by simp [fl, ints, h0]⟩⟩

/-- lists of runs of n pixels -/
def rsum (r : Nat → Int) : Nat → Int
  | 0 => 0
  | k + 1 => rsum r k + r k
def rok (r : Nat → Int) (n : Int) (k : Nat) : Bool := inB (r k) (if k = 0 then 0 else 1) (n - rsum r k)
def roks (r : Nat → Int) (n : Int) : Nat → Bool
  | 0 => true
  | k + 1 => roks r n k && rok r n k
def runB (n : Int) (m : Nat) (r : Nat → Int) : Bool := roks r n m && decide (rsum r m = n)
theorem rok_iff {r : Nat → Int} {n : Int} {k : Nat} : rok r n k = true ↔ 0 ≤ r k ∧ (k = 0 ∨ r k ≠ 0) ∧ r k ≤ n - rsum r k := by
  unfold rok inB
  by_cases e : k = 0
  · subst e; simp
  · simp [e]; omega
theorem roks_bd {r : Nat → Int} {n : Int} (hn : 0 ≤ n) : ∀ {k : Nat}, roks r n k = true → 0 ≤ rsum r k ∧ rsum r k ≤ n ∧ (k : Int) ≤ rsum r k + 1
  | 0, _ => by simp [rsum]; omega
  | k + 1, h => by
    simp only [roks, Bool.and_eq_true] at h
    have h1 := roks_bd hn h.1
    have h2 := rok_iff.1 h.2
    simp only [rsum]
    by_cases e : k = 0
    · subst e; simp [rsum] at *; omega
    · omega
theorem roks_le {r : Nat → Int} {n : Int} {m : Nat} (h : roks r n m = true) : ∀ {k : Nat}, k ≤ m → roks r n k = true := by
  induction m with
  | zero => intro k hk; obtain rfl : k = 0 := by omega
            rfl
  | succ m ih =>
    intro k hk
    by_cases e : k = m + 1
    · rw [e]; exact h
    · simp only [roks, Bool.and_eq_true] at h
      exact ih h.1 (by omega)
theorem roks_at {r : Nat → Int} {n : Int} {m k : Nat} (h : roks r n m = true) (hk : k < m) : rok r n k = true := by
  have := roks_le h (show k + 1 ≤ m by omega)
  simp only [roks, Bool.and_eq_true] at this
  exact this.2
theorem roks_no {r : Nat → Int} {n : Int} {m k : Nat} (h : rok r n k = false) (hk : k < m) : roks r n m = false := by
  cases e : roks r n m
  · rfl
  · rw [roks_at e hk] at h; cases h
theorem runB_no {r : Nat → Int} {n : Int} {m k : Nat} (h : rok r n k = false) (hk : k < m) : runB n m r = false := by unfold runB; rw [roks_no h hk]; rfl
theorem runB_long {r : Nat → Int} {n : Int} {m : Nat} (hn : 0 ≤ n) (h : n + 1 < (m : Int)) : runB n m r = false := by
  cases e : runB n m r
  · rfl
  · unfold runB at e
    simp only [Bool.and_eq_true] at e
    have := roks_bd hn e.1
    omega
theorem runB_none {r : Nat → Int} {n : Int} (hn : 1 ≤ n) : runB n 0 r = false := by
  unfold runB
  rw [decide_eq_false (by simp only [rsum]; omega)]
  exact Bool.and_false _
theorem runB_parts {r : Nat → Int} {n : Int} {m : Nat} (h : runB n m r = true) : roks r n m = true ∧ rsum r m = n := by
  unfold runB at h
  simpa using h

/-- the pixels of runs -/
def rbit (r : Nat → Int) : Nat → Nat → Int
  | 0, _ => 0
  | k + 1, j => if (j : Int) < rsum r k then rbit r k j else ((k % 2 : Nat) : Int)
theorem rbit_low {r : Nat → Int} {k j : Nat} (h : (j : Int) < rsum r k) : rbit r (k + 1) j = rbit r k j := by simp only [rbit]; rw [if_pos h]
theorem rbit_high {r : Nat → Int} {k j : Nat} (h : rsum r k ≤ (j : Int)) : rbit r (k + 1) j = ((k % 2 : Nat) : Int) := by simp only [rbit]; rw [if_neg (by omega)]
theorem rbit_01 (r : Nat → Int) : ∀ k j, rbit r k j = 0 ∨ rbit r k j = 1
  | 0, _ => .inl rfl
  | k + 1, j => by
    simp only [rbit]
    split
    · exact rbit_01 r k j
    · omega
theorem fl_rbit {r : Nat → Int} {k : Nat} (h : 0 ≤ rsum r k) : fl (rbit r k) (rsum r k).toNat = fl (rbit r (k + 1)) (rsum r k).toNat :=
  fl_congr (fun j hj => (rbit_low (by omega)).symm)


set_option maxRecDepth 100000 in
set_option maxHeartbeats 1000000 in
theorem l7Runs_any (a : Option Addr) (n cap : Nat) (f : Nat → Int) (hl : n ≤ 1048576) (hf : bit1 f n) (w : World) (h : Px a n f w) :
    Calls Try.prog 19 #[.slice a n cap] w (LsR (rcnt f n) (rval f n) w) := by
  have HP := hide h
  have HF := hide hf
  have HO0 := hide (own_start w w.heap.size (Nat.le_refl _) (rval f 0) rfl)
  have HB0 := hide (bnew w (.cells #[.int .i64 0] 2))
  clear h hf
  go_enter Try.func19, Try.ntmps19
  go_wp2_with fail
  go_loopw [3, 4, 5] (fun v q i wr => ∃ k : Nat, k ≤ n ∧ i = .int .i64 k ∧ q = .int .i64 (rnow f k) ∧ wr.ownsRow w.heap.size 2 1 v (rcnt f k) (ints (fl (rval f k) (rcnt f k))) ∧ Below w.heap.size w wr) (fun _ _ i _ => n - (intOf i).toNat)
  case atStart => exact ⟨0, by omega, rfl, rfl, HO0.out, HB0.out⟩
  case round =>
    obtain ⟨k, hk, rfl, rfl, ho, hb⟩ := hrel
    clear HO0 HB0
    by_cases hlt : k < n
    · obtain ⟨ba, off, rfl, hz⟩ := (HP.out.below hb).at hlt
      have hcb := rcnt_bd f k
      have hvb := rval_bd f k
      by_cases hs : f k = rnow f k
      · have HE := hide (rcnt_same hs)
        have HV := hide (rval_same hs)
        have hne : (f k != rnow f k) = false := by simp [hs]
        obtain ⟨M, hM⟩ : ∃ M, rcnt f k = M + 1 := ⟨rcnt f k - 1, by omega⟩
        have hvM := hvb M
        rw [hM] at ho HE HV hcb
        obtain ⟨b, cp, rfl, hB, hc⟩ := own_parts ho (by omega)
        obtain ⟨z1, z2⟩ := hc M (by omega)
        obtain ⟨Y, hY⟩ : ∃ Y, Y = rval f k M + 1 := ⟨_, rfl⟩
        have wY : IntKind.i64.wrap (rval f k M + 1) = Y := by rw [IntKind.wrap_i64]; omega
        have hML : M ≤ 1048576 := by omega
        have HO := hide (own_set (g := rval f (k + 1)) (k := M) (z := Y) ho (fun j hj => by rw [HV.out j, hY]; rfl))
        have HB := hide (hb.setCell (p := ⟨b, M, none⟩) hB (.int .i64 Y))
        have HN : Hid (rnow f (k + 1) = rnow f k) := by show f k = _; exact hs
        clear ho hb hc HP HF hvb hcb hM hs HV hY hvM hB
        generalize rval f k M = X at *
        generalize rnow f k = q at *
        generalize f k = p at *
        go_wp2_with fail
        refine ⟨⟨k + 1, by omega, rfl, by rw [HN.out], ?_, HB.out⟩, by simp [intOf]; omega⟩
        rw [HE.out]; exact HO.out
      · have HE := hide (rcnt_other hs)
        have HV := hide (rval_other hs)
        have hne : (f k != rnow f k) = true := by simp [hs]
        have hfl := rnow_flip HF.out hlt hs
        have hfb := HF.out k hlt
        have w1 : IntKind.i64.wrap (1 - rnow f k) = f k := by rw [IntKind.wrap_i64]; omega
        have HZ := hide (rval_out f k _ (Nat.le_refl _)).symm
        have HL : Hid (rcnt f k ≤ 1048576) := by show _ ≤ _; omega
        have HO := hide ho
        have HB := hide hb
        have HS := hide hb.size
        have HN : Hid (rnow f (k + 1) = f k) := rfl
        clear ho hb HP HF hvb hcb hs hfl hfb
        generalize rcnt f k = M at *
        generalize rnow f k = q at *
        generalize f k = p at *
        go_wp2_with (refine grow1 _ rfl _ _ rfl w.heap.size _ M (rval f k) rfl w HO.out HB.out HS.out 0 HZ.out rfl HL.out ?_)
        intro v' w' ho' hb' hs'
        obtain ⟨b, cp, rfl, hB, hc⟩ := own_parts ho' (by omega)
        obtain ⟨z1, z2⟩ := hc M (by omega)
        rw [← HZ.out] at z1
        have hML : M ≤ 1048576 := HL.out
        have HO2 := hide (own_set (g := rval f (k + 1)) (k := M) (z := 1) ho' (fun j hj => HV.out j))
        have HB2 := hide (hb'.setCell (p := ⟨b, M, none⟩) hB (.int .i64 1))
        clear HO HB HS ho' hb' hs' hc HV HZ HL hB hz
        go_wp2_with fail
        refine ⟨⟨k + 1, by omega, rfl, by rw [HN.out], ?_, HB2.out⟩, by simp [intOf]; omega⟩
        rw [HE.out]; exact HO2.out
    · obtain rfl : k = n := by omega
      clear HF HP
      go_wp2
      go_ret
      obtain ⟨a', cap', b', rfl, ow, hB⟩ := ow_fl ho
      exact ⟨a', cap', b', rfl, ow, hB, hb⟩

def rofN (W H : Int) (n : Nat) (f : Nat → Int) : Nat := if maskB W H n f = true then rcnt f n else 0
theorem rofN_le (W H : Int) (n : Nat) (f : Nat → Int) : rofN W H n f ≤ 1048576 := by
  unfold rofN
  split
  · next h => have := (maskB_parts h).2.1; have := rcnt_bd f n; omega
  · omega

set_option maxRecDepth 100000 in
set_option maxHeartbeats 2000000 in
theorem specRunsOf_any (W H : Int) (a : Option Addr) (n cap : Nat) (f : Nat → Int) (hl : n ≤ 1048576) (w : World) (h : Px a n f w) :
    Calls Try.prog 7 #[im W H a n cap] w (LsR (rofN W H n f) (rval f n) w) := by
  have HS0 := hide ((St.start w).box [.int .i64 W, .int .i64 H, .slice a n cap] 26)
  have c := l7Mask_any W H a n cap f hl _ (h.below HS0.out.below)
  have HP := hide h
  unfold rofN
  clear h
  cases hq : maskB W H n f
  · rw [hq] at c
    clear hq
    go_enter Try.func7, Try.ntmps7
    go_wp2_with fail
    refine c.mono ?_
    rintro e w1 ⟨rfl, hb⟩
    have HB := hide ((HS0.out.next hb).next (bnew w1 (.cells #[] 2))).below
    clear hb c
    go_wp2_with fail
    go_ret
    exact ⟨_, _, 0, rfl, .inl rfl, .inl rfl, HB.out⟩
  · rw [hq] at c
    obtain ⟨_, h40, hbit⟩ := maskB_parts hq
    have cR := fun w' h => l7Runs_any a n cap f hl hbit w' h
    clear hq hbit
    rw [if_pos rfl]
    go_enter Try.func7, Try.ntmps7
    go_wp2_with fail
    refine c.mono ?_
    rintro e w1 ⟨rfl, hb⟩
    have HS1 := hide (HS0.out.next hb)
    obtain ⟨i0, i1, i2⟩ := HS1.out.im3 0 rfl
    clear hb c HS0
    go_wp2_with fail
    refine (cR _ (HP.out.below HS1.out.below)).mono ?_
    rintro e w2 ⟨a2, c2, b2, rfl, ho, h1, hb⟩
    have HO := hide ho
    have H1 : Hid (rcnt f n = 0 ∨ w.heap.size ≤ b2) := h1.imp_right (fun h => Nat.le_trans HS1.out.below.size h)
    have HB := hide (HS1.out.next hb).below
    clear ho h1 hb cR HS1 HP
    generalize rcnt f n = R at *
    go_wp2_with fail
    go_ret
    exact ⟨_, _, b2, rfl, HO.out, H1.out, HB.out⟩


end Go.Proofs.Ytfaponkmmiiehaa

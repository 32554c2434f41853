/- Images: the copy that the law makes, when two are alike, when one is right, marks. -/
import Derived.Test.YtekoioggamhlaaaIls
namespace Go.Proofs.Ytekoioggamhlaaa
open Go.RowKit

theorem isSide_any (x : Int) (w : World) :
    Calls Try.prog 47 #[.int .i64 x] w fun e w' => e = .returned (.bool (inB x 1 64)) ∧ w' = w := by
  have hc := within_any x 1 64
  go_enter Try.func47, Try.ntmps47
  go_wp2_with fail
  refine (hc _).mono ?_
  rintro e w' ⟨rfl, rfl⟩
  go_wp2_with fail
  go_ret
  exact ⟨rfl, rfl⟩

theorem szImage_any (W H : Int) (a : Option Addr) (len cap : Nat) (left : Int) (h0 : 0 ≤ left) (h1 : left ≤ 1048576) (hl : (len : Int) ≤ 9223372036854775807) (w : World) :
    Calls Try.prog 10 #[.agg #[.int .i64 W, .int .i64 H, .slice a len cap], .int .i64 left] w fun e w' => e = .returned (.int .i64 (if left < (len : Int) then -1 else left - len)) ∧ Below w.heap.size w w' := by
  have hc := sz_any a len cap left h0 h1 hl
  by_cases h : left < (len : Int)
  · rw [if_pos h] at *
    clear h h0 h1 hl
    go_enter Try.func10, Try.ntmps10
    go_wp2_with fail
    refine (hc _).mono ?_
    rintro e w' ⟨rfl, rfl⟩
    go_wp2_with fail
    go_ret
    exact ⟨rfl, (Below.refl _ _).alloc (Nat.le_refl _) _⟩
  · rw [if_neg h] at *
    have h2 : ¬ left - (len : Int) < 0 := by omega
    clear h h0 h1 hl
    go_enter Try.func10, Try.ntmps10
    go_wp2_with fail
    refine (hc _).mono ?_
    rintro e w' ⟨rfl, rfl⟩
    go_wp2_with fail
    go_ret
    exact ⟨rfl, (Below.refl _ _).alloc (Nat.le_refl _) _⟩

/-- an image as a value -/
abbrev im (W H : Int) (a : Option Addr) (len cap : Nat) : Value := .agg #[.int .i64 W, .int .i64 H, .slice a len cap]

theorem toImage_any (W H : Int) (a : Option Addr) (len cap : Nat) (f : Nat → Int) (hl : len ≤ 1048576) (w : World) (h : Px a len f w) :
    Calls Try.prog 11 #[im W H a len cap] w fun e w' => ∃ b, e = .returned (im W H (some ⟨b, 0, none⟩) len len) ∧ w.heap.size ≤ b ∧ b < w'.heap.size ∧ Row b len f w' ∧ Below w.heap.size w w' := by
  have hc := toInts_any a len cap f hl
  have HP : Hid (Px a len f w) := h
  clear h
  go_enter Try.func11, Try.ntmps11
  go_wp2_with fail
  refine (hc _ (HP.out.below ?_)).mono ?_
  · exact (((Below.refl _ _).alloc (Nat.le_refl _) _).alloc (by simp) _).alloc (by simp; omega) _
  rintro e w1 ⟨rfl, hr, hb, hs⟩
  have c0 := hb.cell (p := ⟨w.heap.size + 2, 0, none⟩) (by simp)
  have c1 := hb.cell (p := ⟨w.heap.size + 2, 1, none⟩) (by simp)
  have c2 := hb.cell (p := ⟨w.heap.size + 2, 2, none⟩) (by simp)
  have d0 := hb.cell (p := ⟨w.heap.size + 1, 0, none⟩) (by simp)
  have d1 := hb.cell (p := ⟨w.heap.size + 1, 1, none⟩) (by simp)
  have d2 := hb.cell (p := ⟨w.heap.size + 1, 2, none⟩) (by simp)
  have e0 := hb.frozen (p := ⟨w.heap.size + 2, 0, none⟩) (by simp)
  have e1 := hb.frozen (p := ⟨w.heap.size + 2, 1, none⟩) (by simp)
  have e2 := hb.frozen (p := ⟨w.heap.size + 2, 2, none⟩) (by simp)
  have g0 := hb.frozen (p := ⟨w.heap.size + 1, 0, none⟩) (by simp)
  have g1 := hb.frozen (p := ⟨w.heap.size + 1, 1, none⟩) (by simp)
  have g2 := hb.frozen (p := ⟨w.heap.size + 1, 2, none⟩) (by simp)
  simp [go_sem] at c0 c1 c2 d0 d1 d2 e0 e1 e2 g0 g1 g2
  have HR : Hid (Row _ len f w1) := hr
  have HB : Hid (Below _ _ w1) := hb
  have HS : Hid (_ < w1.heap.size) := hs
  clear hr hb hs hc
  go_wp2_with fail
  have hs := HS.out
  have hr := HR.out
  have hb := HB.out
  simp at hr hs
  refine bodyPost_ret (v := im W H (some ⟨w.heap.size + 1 + 1 + 1, 0, none⟩) len len) (by simp [results, Try.results11, go_sem, d0, d1, d2]) rfl ⟨_, rfl, by omega, ?_, ?_, ?_⟩
  · simpa using hs
  · exact (((hr.set (by simp) _).set (by simp) _).set (by simp) _).set (by simp) _
  · refine ((((Below.trans ?_ (hb.mono ?_)).setCell ?_ _).setCell ?_ _).setCell ?_ _).setCell ?_ _
    · exact (((Below.refl _ _).alloc (Nat.le_refl _) _).alloc (by simp) _).alloc (by simp; omega) _
    all_goals first | (simp; done) | (simp; omega)

theorem eqImage_any (W H : Int) (a a' : Option Addr) (len cap cap' : Nat) (f : Nat → Int) (hl : len ≤ 1048576) (w : World) (h : Px a len f w) (h' : Px a' len f w) :
    Calls Try.prog 12 #[im W H a len cap, im W H a' len cap'] w fun e w' => e = .returned (.bool true) ∧ Below w.heap.size w w' := by
  have hc := eqInts_any a a' len cap cap' f hl
  have hb : ∀ x y, Below w.heap.size w ((w.alloc x).alloc y) := fun x y => ((Below.refl _ _).alloc (Nat.le_refl _) _).alloc (by simp) _
  have HP : Hid (∀ x y, Px a len f ((w.alloc x).alloc y)) := fun x y => h.below (hb x y)
  have HP' : Hid (∀ x y, Px a' len f ((w.alloc x).alloc y)) := fun x y => h'.below (hb x y)
  have HB : Hid (∀ x y, Below w.heap.size w ((w.alloc x).alloc y)) := hb
  clear h h' hb
  go_enter Try.func12, Try.ntmps12
  go_wp2_with fail
  refine (hc _ (HP.out _ _) (HP'.out _ _)).mono ?_
  rintro e w1 ⟨rfl, n, hw⟩
  have B : Below w.heap.size w w1 := by rw [hw]; exact below_drewN (HB.out _ _) _
  clear hw hc HP HP' HB
  go_wp2_with fail
  go_ret
  exact ⟨rfl, B⟩

/-- all numbers of a list are in range -/
def allB (f : Nat → Int) : Nat → Bool
  | 0 => true
  | n + 1 => allB f n && inB (f n) (-1000000000) 1000000000

theorem allB_false {f : Nat → Int} {n k : Nat} (hk : k < n) (h : inB (f k) (-1000000000) 1000000000 = false) : allB f n = false := by
  induction n with
  | zero => omega
  | succ n ih =>
    unfold allB
    by_cases hkn : k = n
    · subst hkn; rw [h, Bool.and_false]
    · rw [ih (by omega), Bool.false_and]

theorem allB_step {f : Nat → Int} {k : Nat} (h : allB f k = true) (h' : inB (f k) (-1000000000) 1000000000 = true) : allB f (k + 1) = true := by
  unfold allB; rw [h, h']; rfl

/-- are the first n numbers in range -/
def alW (f : Nat → Int) (lo hi : Int) : Nat → Bool
  | 0 => true
  | n + 1 => alW f lo hi n && inB (f n) lo hi
theorem alW_false {f : Nat → Int} {lo hi : Int} {n k : Nat} (hk : k < n) (h : inB (f k) lo hi = false) : alW f lo hi n = false := by
  induction n with
  | zero => omega
  | succ n ih =>
    unfold alW
    by_cases e : k = n
    · subst e; rw [h]; simp
    · rw [ih (by omega)]; rfl
theorem alW_step {f : Nat → Int} {lo hi : Int} {k : Nat} (h : alW f lo hi k = true) (h' : inB (f k) lo hi = true) : alW f lo hi (k + 1) = true := by
  unfold alW; rw [h, h']; rfl
theorem alW_at {f : Nat → Int} {lo hi : Int} : ∀ {n k : Nat}, alW f lo hi n = true → k < n → inB (f k) lo hi = true
  | n + 1, k, h, hk => by
    unfold alW at h
    rw [Bool.and_eq_true] at h
    by_cases e : k = n
    · subst e; exact h.2
    · exact alW_at h.1 (by omega)
theorem alW_allB (f : Nat → Int) : ∀ n, alW f (-1000000000) 1000000000 n = allB f n
  | 0 => rfl
  | n + 1 => by rw [alW, allB, alW_allB f n]

set_option maxHeartbeats 1000000 in
theorem allWithin_any (lo hi : Int) (a : Option Addr) (len cap : Nat) (f : Nat → Int) (hl : len ≤ 1048576) (w : World) (h : Px a len f w) :
    Calls Try.prog 39 #[.slice a len cap, .int .i64 lo, .int .i64 hi] w fun e w' => e = .returned (.bool (alW f lo hi len)) ∧ w' = w := by
  have HP := hide h
  clear h
  go_enter Try.func39, Try.ntmps39
  go_wp2_with fail
  go_loop [8, 11] (fun _ i => ∃ k : Nat, k ≤ len ∧ i = .int .i64 k ∧ alW f lo hi k = true) (fun _ i => len - (intOf i).toNat)
  case atStart => exact ⟨0, by omega, rfl, rfl⟩
  case round =>
    obtain ⟨k, hk, rfl, ha⟩ := hrel
    by_cases hlt : k < len
    · obtain ⟨b, off, rfl, hz⟩ := HP.out.at hlt
      have hcall := within_any (f k) lo hi
      clear HP
      cases hi' : inB (f k) lo hi
      · have HF : Hid (alW f lo hi len = false) := alW_false hlt hi'
        rw [hi'] at hcall
        clear ha hi'
        go_wp2_with fail
        refine (hcall _).mono ?_
        rintro e w' ⟨rfl, rfl⟩
        go_wp2_with fail
        go_ret
        exact ⟨by rw [HF.out]; rfl, rfl⟩
      · have HF : Hid (alW f lo hi (k + 1) = true) := alW_step ha hi'
        rw [hi'] at hcall
        clear ha hi'
        go_wp2_with fail
        refine (hcall _).mono ?_
        rintro e w' ⟨rfl, rfl⟩
        go_wp2_with fail
        exact ⟨⟨k + 1, by omega, rfl, HF.out⟩, by simp [intOf]; omega⟩
    · obtain rfl : k = len := by omega
      have HA : Hid (alW f lo hi k = true) := ha
      clear ha HP
      go_wp2
      go_ret
      exact ⟨by rw [HA.out]; rfl, rfl⟩

/-- is an image right -/
def okB (W H : Int) (len : Nat) (f : Nat → Int) : Bool := inB W 1 64 && inB H 1 64 && decide ((len : Int) = W * H) && allB f len

theorem side_bounds {x : Int} (h : inB x 1 64 = true) : 1 ≤ x ∧ x ≤ 64 := by
  unfold inB at h
  simp at h
  exact h

theorem prod_bounds {x y : Int} (hx : inB x 1 64 = true) (hy : inB y 1 64 = true) : 1 ≤ x * y ∧ x * y ≤ 4096 := by
  obtain ⟨a, b⟩ := side_bounds hx
  obtain ⟨c, d⟩ := side_bounds hy
  constructor
  · exact Int.le_trans (by omega) (Int.mul_le_mul a c (by omega) (by omega))
  · exact Int.le_trans (Int.mul_le_mul b d (by omega) (by omega)) (by omega)

theorem specOk_any (W H : Int) (a : Option Addr) (len cap : Nat) (f : Nat → Int) (hl : len ≤ 1048576) (w : World) (h : Px a len f w) :
    Calls Try.prog 36 #[im W H a len cap] w fun e w' => e = .returned (.bool (okB W H len f)) ∧ Below w.heap.size w w' := by
  have h1 := l1In_any W 1 64
  have h2 := l1In_any H 1 64
  have HB : Hid (∀ x, Below w.heap.size w (w.alloc x)) := fun x => (Below.refl _ _).alloc (Nat.le_refl _) _
  cases hW : inB W 1 64
  · have hr : okB W H len f = false := by unfold okB; rw [hW]; simp
    rw [hr]
    rw [hW] at h1
    clear h h2
    go_enter Try.func36, Try.ntmps36
    go_wp2_with fail
    refine (h1 _).mono ?_
    rintro e w' ⟨rfl, rfl⟩
    go_wp2_with fail
    go_ret
    exact ⟨rfl, HB.out _⟩
  cases hH : inB H 1 64
  · have hr : okB W H len f = false := by unfold okB; rw [hH]; simp
    rw [hr]
    rw [hW] at h1
    rw [hH] at h2
    clear h
    go_enter Try.func36, Try.ntmps36
    go_wp2_with fail
    refine (h1 _).mono ?_
    rintro e w' ⟨rfl, rfl⟩
    go_wp2_with fail
    refine (h2 _).mono ?_
    rintro e w' ⟨rfl, rfl⟩
    go_wp2_with fail
    go_ret
    exact ⟨rfl, HB.out _⟩
  rw [hW] at h1
  rw [hH] at h2
  obtain ⟨p1, p2⟩ := prod_bounds hW hH
  by_cases hp : (len : Int) = W * H
  · have hq : ((len : Int) != W * H) = false := by simp [hp]
    have hw : IntKind.i64.wrap (W * H) = W * H := by rw [IntKind.wrap_i64]; omega
    have hr : okB W H len f = allB f len := by unfold okB; rw [hW, hH, decide_eq_true hp]; simp
    rw [hr]
    have HP : Hid (Px a len f (w.alloc (.cells #[.int .i64 W, .int .i64 H, .slice a len cap] 26))) := h.below (HB.out _)
    clear h hp hr p1 p2
    go_enter Try.func36, Try.ntmps36
    go_wp2_with fail
    refine (h1 _).mono ?_
    rintro e w' ⟨rfl, rfl⟩
    go_wp2_with fail
    refine (h2 _).mono ?_
    rintro e w' ⟨rfl, rfl⟩
    go_wp2_with fail
    clear h1 h2 hq
    go_loop [3] (fun i => ∃ k : Nat, k ≤ len ∧ i = .int .i64 k ∧ allB f k = true) (fun i => len - (intOf i).toNat)
    case atStart => exact ⟨0, by omega, rfl, rfl⟩
    case round =>
      obtain ⟨k, hk, rfl, ha⟩ := hrel
      by_cases hlt : k < len
      · obtain ⟨b, off, rfl, hz⟩ := HP.out.at hlt
        have hcall := l1In_any (f k) (-1000000000) 1000000000
        clear HP
        cases hi : inB (f k) (-1000000000) 1000000000
        · have HF : Hid (allB f len = false) := allB_false hlt hi
          rw [hi] at hcall
          clear ha hi
          go_wp2_with fail
          refine (hcall _).mono ?_
          rintro e w' ⟨rfl, rfl⟩
          go_wp2_with fail
          go_ret
          exact ⟨by rw [HF.out]; rfl, HB.out _⟩
        · have HF : Hid (allB f (k + 1) = true) := allB_step ha hi
          rw [hi] at hcall
          clear ha hi
          go_wp2_with fail
          refine (hcall _).mono ?_
          rintro e w' ⟨rfl, rfl⟩
          go_wp2_with fail
          go_round
          case rel => exact ⟨k + 1, by omega, by go_num, HF.out⟩
          case measure => simp [intOf]; omega
      · obtain rfl : k = len := by omega
        have HA : Hid (allB f k = true) := ha
        clear ha
        go_wp2
        go_ret
        exact ⟨by rw [HA.out]; rfl, HB.out _⟩
  · have hr : okB W H len f = false := by unfold okB; rw [decide_eq_false hp]; simp
    rw [hr]
    have hq : ((len : Int) != W * H) = true := by simp [hp]
    have hw : IntKind.i64.wrap (W * H) = W * H := by rw [IntKind.wrap_i64]; omega
    clear h hp
    go_enter Try.func36, Try.ntmps36
    go_wp2_with fail
    refine (h1 _).mono ?_
    rintro e w' ⟨rfl, rfl⟩
    go_wp2_with fail
    refine (h2 _).mono ?_
    rintro e w' ⟨rfl, rfl⟩
    go_wp2_with fail
    go_ret
    exact ⟨rfl, HB.out _⟩

theorem implOk_any (W H : Int) (a : Option Addr) (len cap : Nat) (f : Nat → Int) (hl : len ≤ 1048576) (w : World) (h : Px a len f w) :
    Calls Try.prog 38 #[im W H a len cap] w fun e w' => e = .returned (.bool (okB W H len f)) ∧ Below w.heap.size w w' := by
  have h1 := isSide_any W
  have h2 := isSide_any H
  have HB : Hid (∀ x, Below w.heap.size w (w.alloc x)) := fun x => (Below.refl _ _).alloc (Nat.le_refl _) _
  cases hW : inB W 1 64
  · have hr : okB W H len f = false := by unfold okB; rw [hW]; simp
    rw [hr]
    rw [hW] at h1
    clear h h2
    go_enter Try.func38, Try.ntmps38
    go_wp2_with fail
    refine (h1 _).mono ?_
    rintro e w' ⟨rfl, rfl⟩
    go_wp2_with fail
    go_ret
    exact ⟨rfl, HB.out _⟩
  cases hH : inB H 1 64
  · have hr : okB W H len f = false := by unfold okB; rw [hH]; simp
    rw [hr]
    rw [hW] at h1
    rw [hH] at h2
    clear h
    go_enter Try.func38, Try.ntmps38
    go_wp2_with fail
    refine (h1 _).mono ?_
    rintro e w' ⟨rfl, rfl⟩
    go_wp2_with fail
    refine (h2 _).mono ?_
    rintro e w' ⟨rfl, rfl⟩
    go_wp2_with fail
    go_ret
    exact ⟨rfl, HB.out _⟩
  rw [hW] at h1
  rw [hH] at h2
  obtain ⟨p1, p2⟩ := prod_bounds hW hH
  by_cases hp : (len : Int) = W * H
  · have hq : ((len : Int) != W * H) = false := by simp [hp]
    have hw : IntKind.i64.wrap (W * H) = W * H := by rw [IntKind.wrap_i64]; omega
    have hr : okB W H len f = allB f len := by unfold okB; rw [hW, hH, decide_eq_true hp]; simp
    rw [hr]
    have HP : Hid (Px a len f (w.alloc (.cells #[.int .i64 W, .int .i64 H, .slice a len cap] 26))) := h.below (HB.out _)
    clear h hp hr p1 p2
    go_enter Try.func38, Try.ntmps38
    go_wp2_with fail
    refine (h1 _).mono ?_
    rintro e w' ⟨rfl, rfl⟩
    go_wp2_with fail
    refine (h2 _).mono ?_
    rintro e w' ⟨rfl, rfl⟩
    go_wp2_with fail
    refine (allWithin_any (-1000000000) 1000000000 a len cap f hl _ HP.out).mono ?_
    rintro e w' ⟨rfl, rfl⟩
    rw [alW_allB]
    clear h1 h2 hq
    go_wp2_with fail
    go_ret
    exact ⟨rfl, HB.out _⟩
  · have hr : okB W H len f = false := by unfold okB; rw [decide_eq_false hp]; simp
    rw [hr]
    have hq : ((len : Int) != W * H) = true := by simp [hp]
    have hw : IntKind.i64.wrap (W * H) = W * H := by rw [IntKind.wrap_i64]; omega
    clear h hp
    go_enter Try.func38, Try.ntmps38
    go_wp2_with fail
    refine (h1 _).mono ?_
    rintro e w' ⟨rfl, rfl⟩
    go_wp2_with fail
    refine (h2 _).mono ?_
    rintro e w' ⟨rfl, rfl⟩
    go_wp2_with fail
    go_ret
    exact ⟨rfl, HB.out _⟩

theorem okB_parts {W H : Int} {len : Nat} {f : Nat → Int} (h : okB W H len f = true) : inB W 1 64 = true ∧ inB H 1 64 = true ∧ (len : Int) = W * H ∧ allB f len = true := by
  unfold okB at h
  simp only [Bool.and_eq_true, decide_eq_true_eq] at h
  exact ⟨h.1.1.1, h.1.1.2, h.1.2, h.2⟩

/-- an image lies in the three cells of a block -/
def Im (b : Nat) (W H : Int) (s : Value) (w : World) : Prop :=
  w.cell? ⟨b, 0, none⟩ = some (.int .i64 W) ∧ w.cell? ⟨b, 1, none⟩ = some (.int .i64 H) ∧ w.cell? ⟨b, 2, none⟩ = some s

theorem Im.below {b : Nat} {W H : Int} {s : Value} {w w' : World} (h : Im b W H s w) (hb : Below w.heap.size w w') : Im b W H s w' := by
  have hl : b < w.heap.size := World.block_lt_of_cell? w _ h.1
  exact ⟨(hb.cell (p := ⟨b, 0, none⟩) hl).trans h.1, (hb.cell (p := ⟨b, 1, none⟩) hl).trans h.2.1, (hb.cell (p := ⟨b, 2, none⟩) hl).trans h.2.2⟩

theorem Im.drew {b : Nat} {W H : Int} {s : Value} {w : World} (h : Im b W H s w) : Im b W H s w.drew := h

theorem Im.new (W H : Int) (s : Value) (t : TypeId) (w : World) : Im w.heap.size W H s (w.alloc (.cells #[.int .i64 W, .int .i64 H, s] t)) := by
  refine ⟨?_, ?_, ?_⟩ <;> simp [go_sem]

theorem Im.kept {b p : Nat} {W H : Int} {s : Value} {w w' : World} (h : Im b W H s w) (hk : Kept p w w') (hp : b ≠ p) : Im b W H s w' :=
  ⟨hk.cell hp h.1, hk.cell hp h.2.1, hk.cell hp h.2.2⟩

theorem markImage_any (W H : Int) (a : Option Addr) (b len cap : Nat) (f : Nat → Int) (k : Int) (h0 : 0 ≤ k) (h1 : k ≤ 4194304) (hl : len ≤ 1048576) (w : World) (h : Ow a b len f w) :
    Calls Try.prog 13 #[im W H a len cap, .int .i64 k] w fun e w' => e = .returned (.int .i64 (k + len)) ∧ Ow a b len (fun j => k + j) w' ∧ Kept b w w' := by
  have hA : Below w.heap.size w (w.alloc (.cells #[.int .i64 W, .int .i64 H, .slice a len cap] 26)) := (Below.refl _ _).alloc (Nat.le_refl _) _
  have hc := mark_any a b len cap f k h0 h1 hl _ (h.below' hA)
  have HA : Hid (Kept b w (w.alloc (.cells #[.int .i64 W, .int .i64 H, .slice a len cap] 26))) := Kept.of_below hA
  clear h hA
  go_enter Try.func13, Try.ntmps13
  go_wp2_with fail
  refine hc.mono ?_
  rintro e w1 ⟨rfl, ho, hk, hs⟩
  have HK := HA.out.trans hk
  clear hc hk
  go_wp2_with fail
  go_ret
  exact ⟨rfl, ho, HK⟩

theorem heldImage_any (W H : Int) (a : Option Addr) (b len cap : Nat) (k : Int) (h0 : 0 ≤ k) (h1 : k ≤ 4194304) (hl : len ≤ 1048576) (w : World) (h : Ow a b len (fun j => k + j) w) :
    Calls Try.prog 14 #[im W H a len cap, .int .i64 k] w fun e w' => e = .returned (.int .i64 (k + len)) ∧ Below w.heap.size w w' := by
  have hA : Below w.heap.size w (w.alloc (.cells #[.int .i64 W, .int .i64 H, .slice a len cap] 26)) := (Below.refl _ _).alloc (Nat.le_refl _) _
  have hc := held_any a b len cap k h0 h1 hl _ (h.below' hA)
  have HA : Hid (Below w.heap.size w (w.alloc (.cells #[.int .i64 W, .int .i64 H, .slice a len cap] 26))) := hA
  have hn : ¬ k + (len : Int) < 0 := by omega
  clear h hA
  go_enter Try.func14, Try.ntmps14
  go_wp2_with fail
  refine hc.mono ?_
  rintro e w1 ⟨rfl, rfl⟩
  clear hc
  go_wp2_with fail
  go_ret
  exact ⟨rfl, HA.out⟩

theorem l2New_any (W H : Int) (n : Nat) (hn : W * H = (n : Int)) (hl : n ≤ 4096) (w : World) :
    Calls Try.prog 45 #[.int .i64 W, .int .i64 H] w fun e w' => e = .returned (im W H (some ⟨w.heap.size + 1, 0, none⟩) n n) ∧ Row (w.heap.size + 1) n (fun _ => 0) w' ∧ Below w.heap.size w w' ∧ w.heap.size + 1 < w'.heap.size := by
  have hmk := fun w => make_px n (by omega) w
  have hw : IntKind.i64.wrap (W * H) = (n : Int) := by rw [IntKind.wrap_i64, hn]; omega
  clear hn
  go_enter Try.func45, Try.ntmps45
  go_wp2_with fail
  refine bodyPost_ret (v := im W H (some ⟨w.heap.size + 1, 0, none⟩) n n) (by simp [results, Try.results45, go_sem]) rfl ⟨rfl, ?_, ?_, by simp⟩
  · have := row_new n (w.alloc (Obj.cells #[Value.int IntKind.i64 W, Value.int IntKind.i64 H, Value.slice (some ⟨w.heap.size + 1, 0, none⟩) n n] 26))
    simpa using this
  · exact ((Below.refl _ _).alloc (Nat.le_refl _) _).alloc (by simp) _

/-- what adding two images gives -/
def Added (r : Bool) (W H : Int) (n : Nat) (s : Nat → Int) (w : World) (e : Ending) (w' : World) : Prop :=
  ∃ a0 b, e = .returned (im (if r then W else 0) (if r then H else 0) a0 (if r then n else 0) (if r then n else 0)) ∧ Ow a0 b (if r then n else 0) s w' ∧ w.heap.size ≤ b ∧ b < w'.heap.size ∧ Below w.heap.size w w'

theorem Added.none {r : Bool} (hr : r = false) (W H : Int) (n : Nat) (s : Nat → Int) {w w' : World} (hb : Below w.heap.size w w') (hs : w.heap.size < w'.heap.size) :
    Added r W H n s w (.returned (im 0 0 Option.none 0 0)) w' := by
  subst hr
  exact ⟨Option.none, w.heap.size, rfl, .inl rfl, Nat.le_refl _, hs, hb⟩

theorem Added.some {r : Bool} (hr : r = true) (W H : Int) (n : Nat) (s : Nat → Int) {w w' : World} (b : Nat) (h : Row b n s w') (h1 : w.heap.size ≤ b) (h2 : b < w'.heap.size) (hb : Below w.heap.size w w') :
    Added r W H n s w (.returned (im W H (Option.some ⟨b, 0, Option.none⟩) n n)) w' := by
  subst hr
  exact ⟨_, b, rfl, .inr ⟨rfl, h⟩, h1, h2, hb⟩

/-- the cells of a block may be written -/
def Free (b : Nat) (w : World) : Prop := w.frozen? ⟨b, 0, none⟩ = false ∧ w.frozen? ⟨b, 1, none⟩ = false ∧ w.frozen? ⟨b, 2, none⟩ = false

end Go.Proofs.Ytekoioggamhlaaa

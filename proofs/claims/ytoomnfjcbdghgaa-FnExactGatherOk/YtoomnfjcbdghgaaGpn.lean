/- A receiver: what is right; the parts of a message: numbers, and the program's small functions. -/
import Derived.Test.YtoomnfjcbdghgaaPcn
import Derived.Test.YtoomnfjcbdghgaaClo
import Derived.Test.YtoomnfjcbdghgaaPic
import Derived.BigRegion
namespace Go.Proofs.Ytoomnfjcbdghgaa
open Go.RowKit

/-- is it a part -/
def prB (s : SPart) : Bool := inB s.f0 0 1000000 && inB s.f1 0 63 && decide (s.f3.size ≤ 1024)
/-- how many parts of an Id stand from place p on, of r -/
def cntP (E : Nat → SPart) (id : Int) : Nat → Nat → Nat
  | _, 0 => 0
  | p, r + 1 => if (E p).f0 = id then 1 + cntP E id (p + 1) r else 0
theorem cntP_le (E : Nat → SPart) (id : Int) : ∀ r p, cntP E id p r ≤ r
  | 0, _ => Nat.le_refl _
  | r + 1, p => by
    simp only [cntP]
    split
    · have := cntP_le E id r (p + 1); omega
    · omega
theorem cntP_is (E : Nat → SPart) (id : Int) : ∀ r p k, k ≤ r → (∀ j, j < k → (E (p + j)).f0 = id) → (k = r ∨ (E (p + k)).f0 ≠ id) → cntP E id p r = k
  | 0, p, k, h, _, _ => by simp only [cntP]; omega
  | r + 1, p, k, h, h1, h2 => by
    simp only [cntP]
    cases k with
    | zero =>
      rcases h2 with h2 | h2
      · omega
      · rw [if_neg (by simpa using h2)]
    | succ k =>
      rw [if_pos (by simpa using h1 0 (by omega)), cntP_is E id r (p + 1) k (by omega) (fun j hj => by rw [show p + 1 + j = p + (j + 1) by omega]; exact h1 (j + 1) (by omega)) (h2.imp (by omega) (fun e => by rw [show p + 1 + k = p + (k + 1) by omega]; exact e))]
      omega
theorem cntP_shift (E : Nat → SPart) (id : Int) (q : Nat) : ∀ r p, cntP (fun k => E (q + k)) id p r = cntP E id (q + p) r
  | 0, _ => rfl
  | r + 1, p => by simp only [cntP]; rw [cntP_shift E id q r (p + 1)]; rfl
/-- the bytes of the first n parts -/
def byS (E : Nat → SPart) : Nat → Nat
  | 0 => 0
  | n + 1 => byS E n + (E n).f3.size
/-- do the first n parts rise, none behind a last one -/
def rsP (E : Nat → SPart) (n : Nat) : Prop := ∀ i, i + 1 < n → (E i).f2 = false ∧ (E i).f1 < (E (i + 1)).f1
noncomputable def tgB (E : Nat → SPart) (n : Nat) : Bool := @decide (rsP E n ∧ byS E n ≤ 2048) (Classical.propDecidable _)
theorem tgB_t {E : Nat → SPart} {n : Nat} (h : rsP E n) (h2 : byS E n ≤ 2048) : tgB E n = true := @decide_eq_true _ (Classical.propDecidable _) ⟨h, h2⟩
theorem tgB_f {E : Nat → SPart} {n : Nat} (h : ¬ (rsP E n ∧ byS E n ≤ 2048)) : tgB E n = false := @decide_eq_false _ (Classical.propDecidable _) h
theorem tgB_is {E : Nat → SPart} {n : Nat} (h : tgB E n = true) : rsP E n ∧ byS E n ≤ 2048 := @of_decide_eq_true _ (Classical.propDecidable _) h
/-- is a message whole -/
def whB (E : Nat → SPart) (n : Nat) : Bool := (E (n - 1)).f2 && decide ((E (n - 1)).f1 = (n : Int) - 1)
/-- are all parts -/
def apB (E : Nat → SPart) : Nat → Bool
  | 0 => true
  | n + 1 => apB E n && prB (E n)
theorem apB_at {E : Nat → SPart} : ∀ {n}, apB E n = true → ∀ k, k < n → prB (E k) = true
  | n + 1, h, k, hk => by
    simp only [apB, Bool.and_eq_true] at h
    by_cases e : k = n
    · subst e; exact h.2
    · exact apB_at h.1 k (by omega)
theorem apB_f {E : Nat → SPart} : ∀ {n k}, k < n → prB (E k) = false → apB E n = false
  | n + 1, k, hk, h => by
    simp only [apB]
    by_cases e : k = n
    · subst e; rw [h, Bool.and_false]
    · rw [apB_f (n := n) (by omega) h, Bool.false_and]
/-- is it a message that is open -/
noncomputable def opB (E : Nat → SPart) (n : Nat) : Bool := apB E n && decide (0 < n) && tgB E n && !whB E n
/-- the walk over the open ones: r from number i on, at part p -/
noncomputable def sgW (f : Nat → Int) (E : Nat → SPart) (m : Nat) : Nat → Nat → Nat → Bool
  | _, 0, p => decide (p = m)
  | i, r + 1, p => opB (fun k => E (p + k)) (cntP E (f i) p (m - p)) && sgW f E m (i + 1) r (p + cntP E (f i) p (m - p))
noncomputable def gaB (n1 : Nat) (f1 : Nat → Int) (n2 : Nat) (f2 : Nat → Int) (m : Nat) (E : Nat → SPart) : Bool :=
  decide (n1 ≤ 16) && decide (n2 ≤ 4096) && (alW f1 0 1000000 n1 && alW f2 0 1000000 n2) && unlB (fl f1 n1 ++ fl f2 n2) && sgW f1 E m 0 n1 0
/-- an open message has at most 64 parts -/
theorem opB_64 {E : Nat → SPart} {n : Nat} (h : opB E n = true) : n ≤ 64 := by
  simp only [opB, Bool.and_eq_true] at h
  obtain ⟨⟨⟨ha, _⟩, ht⟩, _⟩ := h
  have hr := (tgB_is ht).1
  by_cases hn : n ≤ 64
  · exact hn
  · exfalso
    have hge : ∀ i, i < n → (i : Int) ≤ (E i).f1 := fun i => by
      induction i with
      | zero =>
        intro hi
        have := apB_at ha 0 hi
        simp only [prB, Bool.and_eq_true, inB, decide_eq_true_eq] at this
        simpa using this.1.2.1
      | succ i ih =>
        intro hi
        have h1 := ih (by omega)
        have h2 := (hr i hi).2
        omega
    have h64 := hge 64 (by omega)
    have := apB_at ha 64 (by omega)
    simp only [prB, Bool.and_eq_true, inB, decide_eq_true_eq] at this
    have h63 := this.1.2.2
    omega
theorem sgW_far {f : Nat → Int} {E : Nat → SPart} {m : Nat} : ∀ r i p, p + 64 * r < m → sgW f E m i r p = false
  | 0, i, p, h => by simp only [sgW]; exact decide_eq_false (by omega)
  | r + 1, i, p, h => by
    simp only [sgW]
    cases ho : opB (fun k => E (p + k)) (cntP E (f i) p (m - p)) with
    | false => rfl
    | true =>
      have := opB_64 ho
      rw [sgW_far r (i + 1) _ (by omega)]; rfl

set_option maxRecDepth 100000 in
set_option maxHeartbeats 2000000 in
theorem isPart_any (s : SPart) (w : World) :
    Calls Try.prog 76 #[vPart s.f0 s.f1 s.f2 s.f3] w fun e w' => e = .returned (.bool (prB s)) ∧ Below w.heap.size w w' := by
  obtain ⟨x0, x1, x2, x3⟩ := s
  have HB0 : Hid (Below w.heap.size w (w.alloc (.cells #[.int .i64 x0, .int .i64 x1, .bool x2, .string x3] 36))) := bnew _ _
  have c1 := fun w' => isId_any x0 w'
  have c2 := fun w' => within_any x1 0 63 w'
  have HV : Hid (prB ⟨x0, x1, x2, x3⟩ = (inB x0 0 1000000 && inB x1 0 63 && decide (x3.size ≤ 1024))) := rfl
  generalize prB ⟨x0, x1, x2, x3⟩ = V at *
  generalize inB x0 0 1000000 = V1 at *
  generalize inB x1 0 63 = V2 at *
  have hl5 : decide ((x3.size : Int) ≤ 1024) = decide (x3.size ≤ 1024) := by rw [Bool.eq_iff_iff]; simp; omega
  cases V1 with
  | false =>
    go_enter Try.func76, Try.ntmps76
    go_wp2_with fail
    refine (c1 _).mono ?_
    rintro e w1 ⟨rfl, rfl⟩
    go_wp2_with fail
    go_ret
    exact ⟨by rw [HV.out]; rfl, HB0.out⟩
  | true =>
  cases V2 with
  | false =>
    go_enter Try.func76, Try.ntmps76
    go_wp2_with fail
    refine (c1 _).mono ?_
    rintro e w1 ⟨rfl, rfl⟩
    go_wp2_with fail
    refine (c2 _).mono ?_
    rintro e w1 ⟨rfl, rfl⟩
    go_wp2_with fail
    go_ret
    exact ⟨by rw [HV.out]; rfl, HB0.out⟩
  | true =>
    go_enter Try.func76, Try.ntmps76
    go_wp2_with fail
    refine (c1 _).mono ?_
    rintro e w1 ⟨rfl, rfl⟩
    go_wp2_with fail
    refine (c2 _).mono ?_
    rintro e w1 ⟨rfl, rfl⟩
    go_wp2_with fail
    go_ret
    refine ⟨?_, HB0.out⟩
    rw [HV.out]
    simp only [Bool.true_and]
    rw [← hl5]
    rfl

set_option maxRecDepth 100000 in
set_option maxHeartbeats 2000000 in
theorem l15Part_any (s : SPart) (w : World) :
    Calls Try.prog 71 #[vPart s.f0 s.f1 s.f2 s.f3] w fun e w' => e = .returned (.bool (prB s)) ∧ Below w.heap.size w w' := by
  obtain ⟨x0, x1, x2, x3⟩ := s
  have HB0 : Hid (Below w.heap.size w (w.alloc (.cells #[.int .i64 x0, .int .i64 x1, .bool x2, .string x3] 36))) := bnew _ _
  have c1 := fun w' => l1In_any x0 0 1000000 w'
  have c2 := fun w' => l1In_any x1 0 63 w'
  have HV : Hid (prB ⟨x0, x1, x2, x3⟩ = (inB x0 0 1000000 && inB x1 0 63 && decide (x3.size ≤ 1024))) := rfl
  generalize prB ⟨x0, x1, x2, x3⟩ = V at *
  generalize inB x0 0 1000000 = V1 at *
  generalize inB x1 0 63 = V2 at *
  have hl5 : decide ((x3.size : Int) ≤ 1024) = decide (x3.size ≤ 1024) := by rw [Bool.eq_iff_iff]; simp; omega
  cases V1 with
  | false =>
    go_enter Try.func71, Try.ntmps71
    go_wp2_with fail
    refine (c1 _).mono ?_
    rintro e w1 ⟨rfl, rfl⟩
    go_wp2_with fail
    go_ret
    exact ⟨by rw [HV.out]; rfl, HB0.out⟩
  | true =>
  cases V2 with
  | false =>
    go_enter Try.func71, Try.ntmps71
    go_wp2_with fail
    refine (c1 _).mono ?_
    rintro e w1 ⟨rfl, rfl⟩
    go_wp2_with fail
    refine (c2 _).mono ?_
    rintro e w1 ⟨rfl, rfl⟩
    go_wp2_with fail
    go_ret
    exact ⟨by rw [HV.out]; rfl, HB0.out⟩
  | true =>
    go_enter Try.func71, Try.ntmps71
    go_wp2_with fail
    refine (c1 _).mono ?_
    rintro e w1 ⟨rfl, rfl⟩
    go_wp2_with fail
    refine (c2 _).mono ?_
    rintro e w1 ⟨rfl, rfl⟩
    go_wp2_with fail
    go_ret
    refine ⟨?_, HB0.out⟩
    rw [HV.out]
    simp only [Bool.true_and]
    rw [← hl5]
    rfl

set_option maxRecDepth 100000 in
set_option maxHeartbeats 2000000 in
theorem leadingOf_any (a : Option Addr) (m cap : Nat) (E : Nat → SPart) (id : Int) (hm : m ≤ 1048576) (w : World) (h : PxG a (m * 4) (FPart E) w) :
    Calls Try.prog 81 #[.slice a m cap, .int .i64 id] w fun e w' => e = .returned (.int .i64 (cntP E id 0 m : Nat)) ∧ w' = w := by
  have HP := hide h
  clear h
  go_enter Try.func81, Try.ntmps81
  go_wp2_with fail
  go_loop [5] (fun i => ∃ k : Nat, k ≤ m ∧ i = .int .i64 k ∧ Hid (∀ j, j < k → (E (0 + j)).f0 = id)) (fun i => m - (intOf i).toNat)
  case atStart => exact ⟨0, by omega, rfl, hide (fun j hj => absurd hj (Nat.not_lt_zero _))⟩
  case round =>
    obtain ⟨k, hk, rfl, HA⟩ := hrel
    by_cases hlt : k < m
    · have hlt' : (k : Int) < m := by omega
      obtain ⟨b, off, rfl, z0, z1, z2, z3⟩ := HP.out.atPart hlt
      by_cases he : (E k).f0 = id
      · have heb : ((E k).f0 == id) = true := by simpa using he
        have HA2 : Hid (∀ j, j < k + 1 → (E (0 + j)).f0 = id) := fun j hj => by
          by_cases e : j = k
          · subst e; rw [Nat.zero_add]; exact he
          · exact HA.out j (by omega)
        clear HP HA he
        generalize (E k).f0 = y at *
        go_wp2_with fail
        exact ⟨⟨k + 1, by omega, rfl, HA2⟩, by simp [intOf]; omega⟩
      · have heb : ((E k).f0 == id) = false := by simpa using he
        have HR : Hid (cntP E id 0 m = k) := cntP_is E id m 0 k hk HA.out (.inr (by rw [Nat.zero_add]; exact he))
        clear HP HA he
        generalize (E k).f0 = y at *
        go_wp2_with fail
        go_ret
        exact ⟨by rw [HR.out]; rfl, rfl⟩
    · obtain rfl : k = m := by omega
      have HR : Hid (cntP E id 0 k = k) := cntP_is E id k 0 k hk HA.out (.inl rfl)
      clear HP HA
      go_wp2_with fail
      go_ret
      exact ⟨by rw [HR.out]; rfl, rfl⟩

end Go.Proofs.Ytoomnfjcbdghgaa

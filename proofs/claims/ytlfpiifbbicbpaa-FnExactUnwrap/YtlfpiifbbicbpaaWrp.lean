/- Phases: wrapping a list of numbers; the specification and the program. -/
import Derived.Test.YtlfpiifbbicbpaaMod
import Derived.Test.YtlfpiifbbicbpaaPic
namespace Go.Proofs.Ytlfpiifbbicbpaa
open Go.RowKit

/-- can the list be wrapped -/
def phB (half : Int) (len : Nat) (f : Nat → Int) : Bool := inB half 1 1000000 && (decide (len ≤ 4096) && allB f len)

theorem l4List_any (half : Int) (a : Option Addr) (len cap : Nat) (f : Nat → Int) (hl : len ≤ 1048576) (w : World) (h : Px a len f w) :
    Calls Try.prog 45 #[.slice a len cap, .int .i64 half] w fun e w' => e = .returned (.bool (phB half len f)) ∧ w' = w := by
  have c := l1In_any half 1 1000000
  cases hi : inB half 1 1000000
  · have hr : phB half len f = false := by unfold phB; rw [hi]; rfl
    rw [hr]
    rw [hi] at c
    clear hi hr h
    go_enter Try.func45, Try.ntmps45
    go_wp2_with fail
    refine (c _).mono ?_
    rintro e w1 ⟨rfl, rfl⟩
    go_wp2_with fail
    go_ret
    exact ⟨rfl, rfl⟩
  rw [hi] at c
  by_cases hn : len ≤ 4096
  · have hr : phB half len f = allB f len := by unfold phB; rw [hi, decide_eq_true hn]; rfl
    rw [hr]
    have hn' : ¬ (4096 : Int) < (len : Int) := by omega
    have HP := hide h
    clear hi hr h
    go_enter Try.func45, Try.ntmps45
    go_wp2_with fail
    refine (c _).mono ?_
    rintro e w ⟨rfl, rfl⟩
    clear c
    go_wp2_with fail
    go_loop [5] (fun i => ∃ k : Nat, k ≤ len ∧ i = .int .i64 k ∧ allB f k = true) (fun i => len - (intOf i).toNat)
    case atStart => exact ⟨0, by omega, rfl, rfl⟩
    case round =>
      obtain ⟨k, hk, rfl, ha⟩ := hrel
      by_cases hlt : k < len
      · obtain ⟨b, off, rfl, hz⟩ := HP.out.at hlt
        have hcall := l1In_any (f k) (-1000000000) 1000000000
        clear HP
        cases hi : inB (f k) (-1000000000) 1000000000
        · have HF : Hid (allB f len = false) := allB_false hlt hi
          rw [hi] at hcall
          clear ha hi
          go_wp2_with fail
          refine (hcall _).mono ?_
          rintro e w' ⟨rfl, rfl⟩
          go_wp2_with fail
          go_ret
          exact ⟨by rw [HF.out]; rfl, rfl⟩
        · have HF : Hid (allB f (k + 1) = true) := allB_step ha hi
          rw [hi] at hcall
          clear ha hi
          go_wp2_with fail
          refine (hcall _).mono ?_
          rintro e w' ⟨rfl, rfl⟩
          go_wp2_with fail
          exact ⟨⟨k + 1, by omega, rfl, HF.out⟩, by simp [intOf]; omega⟩
      · obtain rfl : k = len := by omega
        have HA : Hid (allB f k = true) := ha
        clear ha
        go_wp2
        go_ret
        exact ⟨by rw [HA.out]; rfl, rfl⟩
  · have hr : phB half len f = false := by unfold phB; rw [decide_eq_false hn]; simp
    rw [hr]
    have hn' : (4096 : Int) < (len : Int) := by omega
    clear hi hr h
    go_enter Try.func45, Try.ntmps45
    go_wp2_with fail
    refine (c _).mono ?_
    rintro e w1 ⟨rfl, rfl⟩
    go_wp2_with fail
    go_ret
    exact ⟨rfl, rfl⟩
set_option maxRecDepth 100000 in
set_option maxHeartbeats 1000000 in
theorem isPhase_any (half : Int) (a : Option Addr) (len cap : Nat) (f : Nat → Int) (hl : len ≤ 1048576) (w : World) (h : Px a len f w) :
    Calls Try.prog 34 #[.slice a len cap, .int .i64 half] w fun e w' => e = .returned (.bool (phB half len f)) ∧ w' = w := by
  have c0 := within_any half 1 1000000 w
  have c1 := allWithin_any (-1000000000) 1000000000 a len cap f hl w h
  rw [alW_allB] at c1
  clear h
  have HP : Hid (phB half len f = (inB half 1 1000000 && (decide (len ≤ 4096) && allB f len))) := by
    show _ = _
    rfl
  cases hq : inB half 1 1000000
  · have HF : Hid (phB half len f = false) := by show _ = _; rw [HP.out, hq]; rfl
    rw [hq] at c0
    clear hq c1 HP
    go_enter Try.func34, Try.ntmps34
    go_wp2_with fail
    refine c0.mono ?_
    rintro e w' ⟨rfl, rfl⟩
    go_wp2_with fail
    go_ret
    exact ⟨by rw [HF.out]; rfl, rfl⟩
  rw [hq] at c0
  by_cases h4 : len ≤ 4096
  case neg =>
    have HF : Hid (phB half len f = false) := by show _ = _; rw [HP.out, decide_eq_false h4, Bool.false_and, Bool.and_false]
    have h4' : ¬ (len : Int) ≤ 4096 := by omega
    clear hq c1 HP h4
    go_enter Try.func34, Try.ntmps34
    go_wp2_with fail
    refine c0.mono ?_
    rintro e w' ⟨rfl, rfl⟩
    go_wp2_with fail
    go_ret
    exact ⟨by rw [HF.out]; rfl, rfl⟩
  have HF : Hid (phB half len f = allB f len) := by show _ = _; rw [HP.out, hq, decide_eq_true h4, Bool.true_and, Bool.true_and]
  have h4' : (len : Int) ≤ 4096 := by omega
  clear hq HP h4
  go_enter Try.func34, Try.ntmps34
  go_wp2_with fail
  refine c0.mono ?_
  rintro e w' ⟨rfl, rfl⟩
  go_wp2_with fail
  refine c1.mono ?_
  rintro e w' ⟨rfl, rfl⟩
  go_wp2_with fail
  go_ret
  exact ⟨by rw [HF.out]; rfl, rfl⟩


/-- a number brought to its range -/
def wrp (h : Nat) (x : Int) : Int := (x + h) % ((2 * h : Nat) : Int) - h
theorem l4Wrap_any (x : Int) (h : Nat) (h1 : 1 ≤ h) (h2 : h ≤ 1000000) (hx : -4000000000 ≤ x) (hx2 : x ≤ 4000000000) (w : World) :
    Calls Try.prog 46 #[.int .i64 x, .int .i64 h] w fun e w' => e = .returned (.int .i64 (wrp h x)) ∧ w' = w := by
  have c := l1Mod_any (x + h) (2 * h) (by omega) (by omega)
  have hb := emod_bd (x + h) (m := 2 * h) (by omega)
  have ev : wrp h x = (x + h) % ((2 * h : Nat) : Int) - h := rfl
  rw [ev]
  generalize (x + h) % ((2 * h : Nat) : Int) = R at *
  obtain ⟨X, hX⟩ : ∃ X, X = x + (h : Int) := ⟨_, rfl⟩
  obtain ⟨D, hD⟩ : ∃ D, D = R - (h : Int) := ⟨_, rfl⟩
  have w1 : IntKind.i64.wrap (x + (h : Int)) = X := by rw [IntKind.wrap_i64]; omega
  have w2 : IntKind.i64.wrap (2 * (h : Int)) = ((2 * h : Nat) : Int) := by rw [IntKind.wrap_i64]; omega
  have w3 : IntKind.i64.wrap (R - (h : Int)) = D := by rw [IntKind.wrap_i64]; omega
  rw [← hX] at c
  rw [← hD]
  generalize hM : 2 * h = M at *
  clear hM hb h1 h2 hx hx2 hD hX ev
  go_enter Try.func46, Try.ntmps46
  go_wp2_with fail
  refine (c _).mono ?_
  rintro e w1 ⟨rfl, rfl⟩
  go_wp2_with fail
  go_ret
  exact ⟨rfl, rfl⟩
theorem wrapOne_any (x : Int) (h : Nat) (h1 : 1 ≤ h) (h2 : h ≤ 1000000) (hx : -4000000000 ≤ x) (hx2 : x ≤ 4000000000) (w : World) :
    Calls Try.prog 35 #[.int .i64 x, .int .i64 h] w fun e w' => e = .returned (.int .i64 (wrp h x)) ∧ w' = w := by
  have c := modulo_any (x + h) (2 * h) (by omega) (by omega)
  have hb := emod_bd (x + h) (m := 2 * h) (by omega)
  have ev : wrp h x = (x + h) % ((2 * h : Nat) : Int) - h := rfl
  rw [ev]
  generalize (x + h) % ((2 * h : Nat) : Int) = R at *
  obtain ⟨X, hX⟩ : ∃ X, X = x + (h : Int) := ⟨_, rfl⟩
  obtain ⟨D, hD⟩ : ∃ D, D = R - (h : Int) := ⟨_, rfl⟩
  have w1 : IntKind.i64.wrap (x + (h : Int)) = X := by rw [IntKind.wrap_i64]; omega
  have w2 : IntKind.i64.wrap (2 * (h : Int)) = ((2 * h : Nat) : Int) := by rw [IntKind.wrap_i64]; omega
  have w3 : IntKind.i64.wrap (R - (h : Int)) = D := by rw [IntKind.wrap_i64]; omega
  rw [← hX] at c
  rw [← hD]
  generalize hM : 2 * h = M at *
  clear hM hb h1 h2 hx hx2 hD hX ev
  go_enter Try.func35, Try.ntmps35
  go_wp2_with fail
  refine (c _).mono ?_
  rintro e w1 ⟨rfl, rfl⟩
  go_wp2_with fail
  go_ret
  exact ⟨rfl, rfl⟩

theorem phB_parts {half : Int} {len : Nat} {f : Nat → Int} (h : phB half len f = true) : (∃ m : Nat, half = (m : Int) ∧ 1 ≤ m ∧ m ≤ 1000000) ∧ len ≤ 4096 ∧ allB f len = true := by
  unfold phB inB at h
  simp only [Bool.and_eq_true, decide_eq_true_eq] at h
  exact ⟨⟨half.toNat, by omega, by omega, by omega⟩, h.2.1, h.2.2⟩
theorem allB_at {f : Nat → Int} : ∀ {n : Nat}, allB f n = true → ∀ k, k < n → -1000000000 ≤ f k ∧ f k ≤ 1000000000
  | n + 1, h, k, hk => by
    simp only [allB, Bool.and_eq_true] at h
    by_cases e : k = n
    · have := h.2
      unfold inB at this
      simp only [Bool.and_eq_true, decide_eq_true_eq] at this
      rw [e]; exact this
    · exact allB_at h.1 k (by omega)

end Go.Proofs.Ytlfpiifbbicbpaa

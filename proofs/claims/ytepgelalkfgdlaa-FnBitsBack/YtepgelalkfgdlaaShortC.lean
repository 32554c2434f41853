/- The contracts of the two ShortBits: one rounding of a word. -/
import Derived.Test.YtepgelalkfgdlaaDrop
namespace Go.Proofs.Ytepgelalkfgdlaa
open Ieee Go.RowKit Fl

/-- the 32 bits, without the sign, of a word without its sign: E its exponent field, m its fraction -/
def sh32 (E m : Nat) : Nat := if 1150 < E then 2139095040 else if E < 897 then (if 63 < 926 - E then 0 else rnd (2 ^ 52 + m) (926 - E)) else (E - 897) * 2 ^ 23 + rnd (2 ^ 52 + m) 29

theorem rnd_le (n c : Nat) : n / 2 ^ c ≤ rnd n c ∧ rnd n c ≤ n / 2 ^ c + 1 := by
  unfold rnd
  repeat' split
  all_goals omega

theorem rnd29 (m : Nat) (hm : m < 2 ^ 52) : 2 ^ 23 ≤ rnd (2 ^ 52 + m) 29 ∧ rnd (2 ^ 52 + m) 29 ≤ 2 ^ 24 := by
  have := rnd_le (2 ^ 52 + m) 29
  omega

theorem rnd_small (m c : Nat) (hm : m < 2 ^ 52) (hc : 30 ≤ c) (h2 : c ≤ 63) : rnd (2 ^ 52 + m) c ≤ 2 ^ 23 := by
  have h := (rnd_le (2 ^ 52 + m) c).2
  have h3 : (2 ^ 52 + m) / 2 ^ c < 2 ^ 23 := by
    rw [Nat.div_lt_iff_lt_mul (Nat.two_pow_pos c), ← Nat.pow_add]
    have : 2 ^ 53 ≤ 2 ^ (23 + c) := pow_le 53 (23 + c) (by omega)
    omega
  omega

set_option maxHeartbeats 1000000 in
theorem shortSize_any (r E m : Nat) (hr : r = E * 2 ^ 52 + m) (hm : m < 2 ^ 52) (hE : E ≤ 2047) (w : World) :
    Calls Try.prog 67 #[.int .u64 r] w fun e w' => e = .returned (.int .u32 (sh32 E m)) ∧ ∃ k, w' = w.drewN k := by
  have e1 : (r : Int) / 4503599627370496 = (E : Int) := by omega
  have e2 : bits .and .u64 (r : Int) 4503599627370495 = (m : Int) := by
    have := low_u64 r 52 (by omega) (by omega)
    rw [show r % 2 ^ 52 = m from by omega] at this
    exact this
  have e3 : bits .or .u64 (m : Int) 4503599627370496 = ((2 ^ 52 + m : Nat) : Int) := by
    have e := or_u64 m (2 ^ 52) (by omega) (by decide)
    have e2 := Nat.two_pow_add_eq_or_of_lt hm 1
    rw [Nat.mul_one, Nat.or_comm] at e2
    rw [← e2] at e
    exact e
  have hrm := rnd29 m hm
  have hsm := rnd_small m
  have hM : 2 ^ 52 + m < 2 ^ 53 := by omega
  unfold sh32
  by_cases h1 : 1150 < E
  · rw [if_pos h1]
    clear hr hm hrm hsm
    generalize 2 ^ 52 + m = M at *
    go_enter Try.func67, Try.ntmps67
    go_wp2_with fail
    go_ret
    exact ⟨rfl, 0, rfl⟩
  · rw [if_neg h1]
    by_cases h2 : E < 897
    · rw [if_pos h2]
      obtain ⟨c, hc⟩ : ∃ c : Nat, c = 926 - E := ⟨_, rfl⟩
      have hc' : -97 - ((E : Int) - 1023) = (c : Int) := by omega
      rw [← hc]
      by_cases h3 : 63 < c
      · rw [if_pos h3]
        have hd := drop_none (2 ^ 52 + m) c h3
        clear hr hm hrm hsm hc
        generalize 2 ^ 52 + m = M at *
        go_enter Try.func67, Try.ntmps67
        go_wp2_with fail
        refine (hd _).mono ?_
        rintro e w' ⟨rfl, rfl⟩
        go_wp2_with fail
        go_ret
        exact ⟨rfl, 0, rfl⟩
      · rw [if_neg h3]
        have hd := drop_any (2 ^ 52 + m) c hM (by omega) (by omega)
        have hx := hsm c hm (by omega) (by omega)
        clear hr hm hrm hsm hc
        generalize 2 ^ 52 + m = M at *
        generalize rnd M c = x at *
        go_enter Try.func67, Try.ntmps67
        go_wp2_with fail
        refine (hd _).mono ?_
        rintro e w' ⟨rfl, k, rfl⟩
        go_wp2_with fail
        go_ret
        exact ⟨rfl, _, rfl⟩
    · rw [if_neg h2]
      have hd := drop_any (2 ^ 52 + m) 29 hM (by omega) (by omega)
      have hx : rnd (2 ^ 52 + m) 29 ≤ 2 ^ 24 := hrm.2
      clear hr hm hrm hsm
      generalize 2 ^ 52 + m = M at *
      generalize rnd M 29 = x at *
      go_enter Try.func67, Try.ntmps67
      go_wp2_with fail
      refine (hd _).mono ?_
      rintro e w' ⟨rfl, k, rfl⟩
      go_wp2_with fail
      go_ret
      exact ⟨ret_int (by omega), _, rfl⟩

end Go.Proofs.Ytepgelalkfgdlaa

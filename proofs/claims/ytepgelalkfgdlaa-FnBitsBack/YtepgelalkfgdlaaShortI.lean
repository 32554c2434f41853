/- The contract of the program's ShortBits. -/
import Derived.Test.YtepgelalkfgdlaaShortC
import Derived.Test.YtepgelalkfgdlaaToBits2
import Derived.Deep.DeepCutAuto
namespace Go.Proofs.Ytepgelalkfgdlaa
open Ieee Go.RowKit Fl

def sgn (b : Nat) : Nat := b / 2 ^ 63
/-- what ShortBits tells of a word -/
def SB (b : Nat) : Nat := if inf < rung b then 2143289345 else sgn b * 2 ^ 31 + sh32 (rung b / 2 ^ 52) (rung b % 2 ^ 52)

theorem sh32_le (E m : Nat) (hm : m < 2 ^ 52) : sh32 E m ≤ 2139095040 := by
  have h1 := rnd29 m hm
  unfold sh32
  split
  · omega
  · split
    · split
      · omega
      · have := rnd_small m (926 - E) hm (by omega) (by omega); omega
    · omega

theorem or_u32 (x y : Nat) (hx : x < 2 ^ 32) (hy : y < 2 ^ 32) : bits .or .u32 (x : Int) (y : Int) = ((x ||| y : Nat) : Int) := by
  show IntKind.u32.wrap ((BitVec.ofInt 32 (x : Int) ||| BitVec.ofInt 32 (y : Int)).toNat : Int) = _
  rw [BitVec.toNat_or, ofInt_nat32 x hx, ofInt_nat32 y hy, IntKind.wrap_u32]
  have := Nat.or_lt_two_pow hx hy
  omega
theorem join_u32 (a n b : Nat) (hb : b < 2 ^ n) (h : a * 2 ^ n + b < 2 ^ 32) : bits .or .u32 ((a * 2 ^ n : Nat) : Int) (b : Int) = ((a * 2 ^ n + b : Nat) : Int) := by
  have e := Nat.shiftLeft_add_eq_or_of_lt hb a
  rw [Nat.shiftLeft_eq] at e
  rw [or_u32 _ _ (by omega) (by omega), ← e]

theorem short_impl (b : Nat) (hb : b < 2 ^ 64) (w : World) :
    Calls Try.prog 29 #[.float .f64 b] w fun e w' => e = .returned (.int .u32 (SB b)) ∧ ∃ k, w' = w.drewN k := by
  have hi := isNaN_any b
  unfold SB
  by_cases hn : inf < rung b
  · rw [if_pos hn]
    rw [order_nan b b hn] at hi
    clear hn hb
    go_enter Try.func29, Try.ntmps29
    go_wp2_with fail
    refine (hi _).mono ?_
    rintro e w' ⟨rfl, rfl⟩
    go_wp2_with fail
    go_ret
    exact ⟨rfl, 0, rfl⟩
  · rw [if_neg hn]
    rw [order_self b hn] at hi
    have ht := toBits_impl b hb
    rw [canon_no hn] at ht
    have hr : rung b < 2 ^ 63 := Nat.mod_lt _ (by decide)
    have e1 := andNot_top b hb
    rw [show ((b % 2 ^ 63 : Nat) : Int) = (rung b : Int) from rfl] at e1
    have hz := shortSize_any (rung b) (rung b / 2 ^ 52) (rung b % 2 ^ 52) (by omega) (by omega) (by omega)
    have hx := sh32_le (rung b / 2 ^ 52) (rung b % 2 ^ 52) (by omega)
    have e2 : (b : Int) / 9223372036854775808 = (sgn b : Int) := by unfold sgn; omega
    have hs : sgn b ≤ 1 := by unfold sgn; omega
    generalize sh32 (rung b / 2 ^ 52) (rung b % 2 ^ 52) = x at *
    have e3 := join_u32 (sgn b) 31 x (by omega) (by omega)
    have e4 : ((sgn b * 2 ^ 31 : Nat) : Int) = (sgn b : Int) * 2147483648 := by omega
    rw [e4] at e3
    generalize sgn b = s at *
    generalize rung b = r at *
    clear hn hb e4
    go_enter Try.func29, Try.ntmps29
    go_wp2_with fail
    refine (hi _).mono ?_
    rintro e w' ⟨rfl, rfl⟩
    go_wp2_with fail
    refine (ht _).mono ?_
    rintro e w' ⟨rfl, rfl⟩
    go_wp2_with fail
    refine (hz _).mono ?_
    rintro e w' ⟨rfl, k, rfl⟩
    go_wp2_with fail
    go_ret
    exact ⟨ret_int (by first | rfl | omega), _, rfl⟩

set_option maxRecDepth 10000 in
set_option maxHeartbeats 2000000 in
theorem short_spec_low (b E m c : Nat) (hb : b < 2 ^ 64) (hn : ¬ inf < rung b) (hE : E = rung b / 2 ^ 52) (hm : m = rung b % 2 ^ 52) (h1 : 1 ≤ E) (h2 : E < 897) (hc : c = 926 - E) (h3 : c ≤ 60) (w : World) :
    Calls Try.prog 27 #[.float .f64 b] w fun e w' => e = .returned (.int .u32 ((sgn b * 2 ^ 31 + rnd (2 ^ 52 + m) c : Nat) : Int)) ∧ w' = w := by
  have ho := order_self b hn
  have ht := toBits_spec b hb
  rw [canon_no hn] at ht
  have hs : sgn b ≤ 1 := by unfold sgn; omega
  have e2 : (b : Int) / 9223372036854775808 = (sgn b : Int) := by unfold sgn; omega
  have hm2 : m < 2 ^ 52 := by omega
  have hrb : rung b = b % 2 ^ 63 := rfl
  have e1 := exp_bits b E hb (by omega)
  have e3 : bits .and .u64 (b : Int) 4503599627370495 = (m : Int) := by
    have := low_u64 b 52 hb (by omega)
    rw [show b % 2 ^ 52 = m from by omega] at this
    exact this
  have e4 : ((E : Int) == 2047) = false := by rw [beq_eq_false_iff_ne]; omega
  have e5 : ((E : Int) == 0) = false := by rw [beq_eq_false_iff_ne]; omega
  have e6 : -149 - ((E : Int) - 1075) = (c : Int) := by omega
  have h4 : 30 ≤ c := by omega
  have hx := rnd_small m c hm2 h4 (by omega)
  have hr : rnd (2 ^ 52 + m) c = if 2 ^ (c - 1) < (2 ^ 52 + m) % 2 ^ c then (2 ^ 52 + m) / 2 ^ c + 1 else if (2 ^ 52 + m) % 2 ^ c = 2 ^ (c - 1) then (if (2 ^ 52 + m) / 2 ^ c % 2 = 1 then (2 ^ 52 + m) / 2 ^ c + 1 else (2 ^ 52 + m) / 2 ^ c) else (2 ^ 52 + m) / 2 ^ c := rfl
  rw [hr] at hx ⊢
  have p1 : 2 ^ (c - 1) ≤ 2 ^ 63 := pow_le (c - 1) 63 (by omega)
  have g3 : IntKind.u64.wrap (2 ^ (c - 1)) = ((2 ^ (c - 1) : Nat) : Int) := by
    rw [show (2 : Int) ^ (c - 1) = ((2 ^ (c - 1) : Nat) : Int) from by simp]; exact wrap_u64_nat _ (by omega)
  have eM : (m : Int) + 4503599627370496 = ((2 ^ 52 + m : Nat) : Int) := by omega
  have g1 : ((m : Int) + 4503599627370496) / 2 ^ c = (((2 ^ 52 + m) / 2 ^ c : Nat) : Int) := by
    rw [eM, show (2 : Int) ^ c = ((2 ^ c : Nat) : Int) from by simp, ← Int.natCast_ediv]
  have hdm := Nat.div_add_mod (2 ^ 52 + m) (2 ^ c)
  have hK : (2 ^ 52 + m) / 2 ^ c < 2 ^ 53 := Nat.lt_of_le_of_lt (Nat.div_le_self _ _) (by omega)
  have g2 : IntKind.u64.wrap ((m : Int) + 4503599627370496 - IntKind.u64.wrap ((((2 ^ 52 + m) / 2 ^ c : Nat) : Int) * 2 ^ c)) = (((2 ^ 52 + m) % 2 ^ c : Nat) : Int) := by
    have e7 : (((2 ^ 52 + m) / 2 ^ c : Nat) : Int) * 2 ^ c = ((2 ^ c * ((2 ^ 52 + m) / 2 ^ c) : Nat) : Int) := by
      rw [show (2 : Int) ^ c = ((2 ^ c : Nat) : Int) from by simp, Nat.mul_comm, Int.natCast_mul]
    rw [e7, wrap_u64_nat _ (by omega), eM, show ((2 ^ 52 + m : Nat) : Int) - ((2 ^ c * ((2 ^ 52 + m) / 2 ^ c) : Nat) : Int) = (((2 ^ 52 + m) % 2 ^ c : Nat) : Int) from by omega]
    exact wrap_u64_nat _ (by omega)
  clear hrb hE hm hc hb hn hr p1 eM hdm
  generalize sgn b = s at *
  generalize (2 ^ 52 + m) / 2 ^ c = K at *
  generalize (2 ^ 52 + m) % 2 ^ c = R at *
  generalize 2 ^ (c - 1) = H at *
  obtain ⟨z, hz⟩ : ∃ z : Nat, z = if H < R then K + 1 else if R = H then (if K % 2 = 1 then K + 1 else K) else K := ⟨_, rfl⟩
  rw [← hz] at hx ⊢
  obtain ⟨q, hq1, hq2⟩ : ∃ q : Bool, q = (decide (H < R) || (decide (R = H) && decide (K % 2 = 1))) ∧ (z : Int) = (K : Int) + (if q then 1 else 0) := by
    refine ⟨_, rfl, ?_⟩
    by_cases c1 : H < R
    · rw [if_pos c1] at hz; simp [c1]; omega
    · rw [if_neg c1] at hz
      by_cases c2 : R = H
      · rw [if_pos c2] at hz
        by_cases c3 : K % 2 = 1
        · rw [if_pos c3] at hz; simp [c2, c3]; omega
        · rw [if_neg c3] at hz; simp [c2, c3]; omega
      · rw [if_neg c2] at hz; simp [c1, c2]; omega
  have HQ2 : Hid ((z : Int) = (K : Int) + (if q then 1 else 0)) := hq2
  clear hz hq2
  · go_enter Try.func27, Try.ntmps27
    go_wp2_with fail
    refine (ht _).mono ?_
    rintro e w' ⟨rfl, rfl⟩
    go_upto_region 22 with fail
    go_cut [8, 11, 77] (fun s8 s11 s77 wc => ∃ u : Int, Hid (u = -149) ∧ s8 = .int .i64 u ∧ True ∧ s77 = .bool q ∧ wc = w')
    case first =>
      clear g1 g2 g3 e1 e2 e3 e4 e5 e6 ho ht hx HQ2
      have HQ1 : Hid (q = (decide (H < R) || (decide (R = H) && decide (K % 2 = 1)))) := hq1
      clear hq1
      by_cases c1 : H < R
      · go_wp2_with fail
        go_meet
        exact ⟨_, rfl, rfl, trivial, by rw [HQ1.out]; simp [c1], rfl⟩
      · by_cases c2 : R = H
        · have c2' : ((R : Int) == (H : Int)) = true := by rw [beq_iff_eq]; omega
          by_cases c3 : K % 2 = 1
          · have c3' : ((K : Int) % 2 == 1) = true := by rw [beq_iff_eq]; omega
            have HB : Hid (q = true) := by show q = true; rw [HQ1.out]; simp [c2, c3]
            clear c2 c3 HQ1
            go_wp2_with fail
            go_meet
            exact ⟨_, rfl, rfl, trivial, by rw [HB.out], rfl⟩
          · have c3' : ((K : Int) % 2 == 1) = false := by rw [beq_eq_false_iff_ne]; omega
            have HB : Hid (q = false) := by show q = false; rw [HQ1.out]; simp [c2, c3]
            clear c2 c3 HQ1
            go_wp2_with fail
            go_meet
            exact ⟨_, rfl, rfl, trivial, by rw [HB.out], rfl⟩
        · have c2' : ((R : Int) == (H : Int)) = false := by rw [beq_eq_false_iff_ne]; omega
          have HB : Hid (q = false) := by show q = false; rw [HQ1.out]; simp [c1, c2]
          clear c2 HQ1
          go_wp2_with fail
          go_meet
          exact ⟨_, rfl, rfl, trivial, by rw [HB.out], rfl⟩
    case rest =>
      obtain ⟨u, Hu, rfl, _, rfl, rfl⟩ := hcut
      clear hq1 g1 g2 g3 e1 e2 e3 e4 e5 e6 ho ht
      cases q
      all_goals
        have HZ : Hid ((z : Int) = _) := HQ2.out
        go_upto_region 24 with fail
        go_cut [10, 13] (fun s10 s13 wd => ∃ x : Int, Hid (x = (z : Int)) ∧ s10 = .int .u64 x ∧ s13 = .int .u64 x ∧ wd = wc)
        case first =>
          clear hx
          go_wp2_with fail
          go_meet
          exact ⟨_, by have := HQ2.out; simp at this; show _ = _; omega, rfl, rfl, rfl⟩
        case rest =>
          obtain ⟨x, Hx, rfl, rfl, rfl⟩ := hcut
          have hu0 : u + 149 = 0 := by have := Hu.out; omega
          have t1 : decide ((-149 : Int) < u) = false := decide_eq_false (by omega)
          have bx1 : 0 ≤ x := by have := Hx.out; omega
          have bx2 : x ≤ 8388608 := by have := Hx.out; omega
          clear hx Hu HQ2 HZ
          by_cases hq : 8388608 ≤ x
          · have t2 : decide ((8388608 : Int) ≤ x) = true := decide_eq_true hq
            go_wp2_with fail
            go_ret
            exact ⟨ret_int (by have := Hx.out; omega), rfl⟩
          · have t2 : decide ((8388608 : Int) ≤ x) = false := decide_eq_false hq
            go_wp2_with fail
            go_ret
            exact ⟨ret_int (by have := Hx.out; omega), rfl⟩

end Go.Proofs.Ytepgelalkfgdlaa

/- The program's products of two words, their sums and signs. -/
import Derived.Test.YtjdbiaoheoialaaIls
import Derived.Lib.Mul64
import Derived.Laws.Externs
import Derived.Laws.Bits64b
namespace Go.Proofs.Ytjdbiaoheoialaa
open Go.RowKit Go.Lib

namespace M64
theorem maskN (a : Nat) (ha : a < 18446744073709551616) : bits .and .u64 (a : Int) 4294967295 = ((a % 4294967296 : Nat) : Int) := by
  have h := bits_and_u64_nat a 4294967295 ha (by omega)
  have e : a &&& 4294967295 = a % 4294967296 := Nat.and_two_pow_sub_one_eq_mod a 32
  rw [e] at h
  exact h
theorem divN (a : Nat) : (a : Int) / 4294967296 = ((a / 4294967296 : Nat) : Int) := by omega
theorem mulN (a b : Nat) : (a : Int) * (b : Int) = ((a * b : Nat) : Int) := (Int.natCast_mul a b).symm
theorem addN (a b : Nat) : (a : Int) + (b : Int) = ((a + b : Nat) : Int) := (Int.natCast_add a b).symm
theorem wrapN (a : Nat) (ha : a < 18446744073709551616) : IntKind.u64.wrap (a : Int) = (a : Int) := by rw [IntKind.wrap_u64]; omega
theorem wrapM (a : Nat) : IntKind.u64.wrap (a : Int) = ((a % 18446744073709551616 : Nat) : Int) := by rw [IntKind.wrap_u64]; omega
end M64

set_option maxRecDepth 100000 in
set_option maxHeartbeats 2000000 in
theorem mul64_any (x y : Nat) (hx : x < 18446744073709551616) (hy : y < 18446744073709551616) (w : World) :
    Calls Try.prog 51 #[.int .u64 x, .int .u64 y] w fun e w' => e = .returned (.tuple #[.int .u64 ((x * y / 18446744073709551616 : Nat) : Int), .int .u64 ((x * y % 18446744073709551616 : Nat) : Int)]) ∧ w' = w := by
  obtain ⟨bd, bt, bw, hhi⟩ := Lib.mul64_hi x y hx hy
  have ba := Lib.half_mul_le (a := x / 4294967296) (b := y / 4294967296) (by omega) (by omega)
  have bb := Lib.half_mul_le (a := x / 4294967296) (b := y % 4294967296) (by omega) (by omega)
  have bc := Lib.half_mul_le (a := x % 4294967296) (b := y / 4294967296) (by omega) (by omega)
  have ba' : x / 4294967296 * (y / 4294967296) < 18446744073709551616 := by omega
  have bb' : x / 4294967296 * (y % 4294967296) < 18446744073709551616 := by omega
  have bc' : x % 4294967296 * (y / 4294967296) < 18446744073709551616 := by omega
  have bh1 : x / 4294967296 * (y / 4294967296) + (x / 4294967296 * (y % 4294967296) + x % 4294967296 * (y % 4294967296) / 4294967296) / 4294967296 < 18446744073709551616 := by omega
  have bh : x / 4294967296 * (y / 4294967296) + (x / 4294967296 * (y % 4294967296) + x % 4294967296 * (y % 4294967296) / 4294967296) / 4294967296 + ((x / 4294967296 * (y % 4294967296) + x % 4294967296 * (y % 4294967296) / 4294967296) % 4294967296 + x % 4294967296 * (y / 4294967296)) / 4294967296 < 18446744073709551616 := by omega
  go_enter Try.func51, Try.ntmps51
  go_wp2
  simp only [M64.maskN x hx, M64.maskN y hy, M64.divN, M64.mulN, M64.addN, M64.wrapN _ bd, M64.wrapN _ bb', M64.wrapN _ bt, M64.maskN _ bt, M64.wrapN _ bc', M64.wrapN _ bw, M64.wrapN _ ba', M64.wrapN _ bh1, M64.wrapN _ bh, M64.wrapM (x * y)]
  rw [hhi]
  first
  | (go_ret2; exact ⟨rfl, rfl⟩)
  | exact ⟨rfl, rfl⟩

set_option maxRecDepth 100000 in
theorem add64_run (x y : Nat) (w : World) : (callFunc 50 #[.int .u64 x, .int .u64 y, .int .u64 0]).run Try.prog w = .ok (.value (.tuple #[.int .u64 (((x + y) % 18446744073709551616 : Nat) : Int), .int .u64 (((x + y) / 18446744073709551616 : Nat) : Int)])) w := by
  rw [run_callFunc_extern Try.func50 (by kernel_rfl) (by kernel_rfl) (by kernel_rfl) (e := add64Entry) (by kernel_rfl), run_add64 x y 0 (by omega) (by omega) (by omega) (by omega)]
  simp only [Result.andThen]
  congr 5 <;> omega

/-- a number as two words -/
def wd (x : Int) : Value := .agg #[.int .i64 (x / 18446744073709551616), .int .u64 (x % 18446744073709551616)]

end Go.Proofs.Ytjdbiaoheoialaa

namespace Go.Proofs.Ytjdbiaoheoialaa
open Go.RowKit Go.Lib

theorem wd_mul {a b : Int} (ha : -9223372036854775808 ≤ a ∧ a ≤ 9223372036854775807) (hb : -9223372036854775808 ≤ b ∧ b ≤ 9223372036854775807) (hab : -9223372036854775808 ≤ a * b ∧ a * b ≤ 9223372036854775807) :
    ∃ u v h l : Nat, IntKind.u64.wrap a = (u : Int) ∧ IntKind.u64.wrap b = (v : Int) ∧ u < 18446744073709551616 ∧ v < 18446744073709551616 ∧ h = u * v / 18446744073709551616 ∧ l = u * v % 18446744073709551616 ∧ (l : Int) = a * b % 18446744073709551616 ∧ h < 18446744073709551616 ∧
      (¬ a < 0 → ¬ b < 0 → IntKind.i64.wrap (h : Int) = a * b / 18446744073709551616) ∧
      (a < 0 → ¬ b < 0 → IntKind.i64.wrap (IntKind.i64.wrap (h : Int) - b) = a * b / 18446744073709551616) ∧
      (¬ a < 0 → b < 0 → IntKind.i64.wrap (IntKind.i64.wrap (h : Int) - a) = a * b / 18446744073709551616) ∧
      (a < 0 → b < 0 → IntKind.i64.wrap (IntKind.i64.wrap (IntKind.i64.wrap (h : Int) - b) - a) = a * b / 18446744073709551616) := by
  obtain ⟨u, hu⟩ : ∃ u : Nat, (u : Int) = a % 18446744073709551616 := ⟨(a % 18446744073709551616).toNat, by omega⟩
  obtain ⟨v, hv⟩ : ∃ v : Nat, (v : Int) = b % 18446744073709551616 := ⟨(b % 18446744073709551616).toNat, by omega⟩
  obtain ⟨P, hP⟩ : ∃ P : Nat, P = u * v := ⟨_, rfl⟩
  have hPi : (P : Int) = (u : Int) * (v : Int) := by rw [hP, Int.natCast_mul]
  obtain ⟨X, hX⟩ : ∃ X, X = a * b := ⟨_, rfl⟩
  have hPb : P ≤ 18446744073709551615 * 18446744073709551615 := by rw [hP]; exact Nat.mul_le_mul (by omega) (by omega)
  have key : (¬ a < 0 ∧ ¬ b < 0 ∧ (P : Int) = X) ∨ (a < 0 ∧ ¬ b < 0 ∧ (P : Int) = X + 18446744073709551616 * b) ∨ (¬ a < 0 ∧ b < 0 ∧ (P : Int) = X + 18446744073709551616 * a) ∨ (a < 0 ∧ b < 0 ∧ (P : Int) = X + 18446744073709551616 * b + 18446744073709551616 * a + 18446744073709551616 * 18446744073709551616) := by
    rw [hPi, hX]
    by_cases h1 : a < 0 <;> by_cases h2 : b < 0
    · right; right; right
      refine ⟨h1, h2, ?_⟩
      have e1 : (u : Int) = a + 18446744073709551616 := by omega
      have e2 : (v : Int) = b + 18446744073709551616 := by omega
      rw [e1, e2, Int.add_mul, Int.mul_add, Int.mul_add]
      rw [Int.mul_comm a 18446744073709551616]
      omega
    · right; left
      refine ⟨h1, h2, ?_⟩
      have e1 : (u : Int) = a + 18446744073709551616 := by omega
      have e2 : (v : Int) = b := by omega
      rw [e1, e2, Int.add_mul]
    · right; right; left
      refine ⟨h1, h2, ?_⟩
      have e1 : (u : Int) = a := by omega
      have e2 : (v : Int) = b + 18446744073709551616 := by omega
      rw [e1, e2, Int.mul_add, Int.mul_comm a 18446744073709551616]
    · left
      refine ⟨h1, h2, ?_⟩
      have e1 : (u : Int) = a := by omega
      have e2 : (v : Int) = b := by omega
      rw [e1, e2]
  rw [← hX] at hab
  obtain ⟨h, hh⟩ : ∃ h : Nat, h = P / 18446744073709551616 := ⟨_, rfl⟩
  obtain ⟨l, hl⟩ : ∃ l : Nat, l = P % 18446744073709551616 := ⟨_, rfl⟩
  have hlb : l < 18446744073709551616 := by rw [hl]; exact Nat.mod_lt _ (by omega)
  have hPd : P = 18446744073709551616 * h + l := by rw [hh, hl]; exact (Nat.div_add_mod P _).symm
  have hhb : h < 18446744073709551616 := by rw [hh]; exact Nat.div_lt_of_lt_mul (Nat.lt_of_le_of_lt hPb (by decide))
  have hPc : (P : Int) = 18446744073709551616 * (h : Int) + (l : Int) := by rw [hPd]; simp
  refine ⟨u, v, h, l, by rw [IntKind.wrap_u64]; omega, by rw [IntKind.wrap_u64]; omega, by omega, by omega, by rw [hh, hP], by rw [hl, hP], ?_, hhb, ?_, ?_, ?_, ?_⟩
  · clear hPi hP hPb hh hl hPd hu hv ha hb
    rw [← hX]
    have hdv : ∃ t : Int, X = 18446744073709551616 * t + (l : Int) := by
      rcases key with ⟨_, _, e⟩ | ⟨_, _, e⟩ | ⟨_, _, e⟩ | ⟨_, _, e⟩
      · exact ⟨h, by omega⟩
      · exact ⟨h - b, by omega⟩
      · exact ⟨h - a, by omega⟩
      · exact ⟨h - b - a - 18446744073709551616, by omega⟩
    obtain ⟨t, ht⟩ := hdv
    clear key hX hPc
    omega
  all_goals
    rw [← hX]
    intro h1 h2
    obtain ⟨t, ht, htq⟩ : ∃ t : Int, X = 18446744073709551616 * t + (l : Int) ∧ ((¬ a < 0 ∧ ¬ b < 0 ∧ t = h) ∨ (a < 0 ∧ ¬ b < 0 ∧ t = h - b) ∨ (¬ a < 0 ∧ b < 0 ∧ t = h - a) ∨ (a < 0 ∧ b < 0 ∧ t = h - b - a - 18446744073709551616)) := by
      clear hPi hP hPb hh hl hPd hu hv
      rcases key with ⟨k1, k2, e⟩ | ⟨k1, k2, e⟩ | ⟨k1, k2, e⟩ | ⟨k1, k2, e⟩
      · exact ⟨h, by omega, .inl ⟨k1, k2, rfl⟩⟩
      · exact ⟨h - b, by omega, .inr (.inl ⟨k1, k2, rfl⟩)⟩
      · exact ⟨h - a, by omega, .inr (.inr (.inl ⟨k1, k2, rfl⟩))⟩
      · exact ⟨h - b - a - 18446744073709551616, by omega, .inr (.inr (.inr ⟨k1, k2, rfl⟩))⟩
    have htd : X / 18446744073709551616 = t := by clear key hPi hP hPb hh hl hPd hu hv hX hPc htq; omega
    have htb : -1 ≤ t ∧ t ≤ 0 := by clear key hPi hP hPb hh hl hPd hu hv hX hPc htq; omega
    rw [htd]
    simp only [IntKind.wrap_i64]
    rcases htq with ⟨k1, k2, e⟩ | ⟨k1, k2, e⟩ | ⟨k1, k2, e⟩ | ⟨k1, k2, e⟩
    all_goals first
      | exact absurd h1 k1
      | exact absurd h2 k2
      | exact absurd k1 h1
      | exact absurd k2 h2
      | (clear key hPi hP hPb hh hl hPd hu hv hX hPc ht htd hab hlb; omega)

set_option maxRecDepth 100000 in
set_option maxHeartbeats 2000000 in
theorem wideProduct_any (a b : Int) (ha : -9223372036854775808 ≤ a ∧ a ≤ 9223372036854775807) (hb : -9223372036854775808 ≤ b ∧ b ≤ 9223372036854775807) (hab : -9223372036854775808 ≤ a * b ∧ a * b ≤ 9223372036854775807) (w : World) :
    Calls Try.prog 43 #[.int .i64 a, .int .i64 b] w fun e w' => e = .returned (wd (a * b)) ∧ Below w.heap.size w w' := by
  obtain ⟨u, v, h, l, wu, wv, hu, hv, hh, hl, hlx, hhb, c1, c2, c3, c4⟩ := wd_mul ha hb hab
  have cM := fun w => mul64_any u v hu hv w
  rw [← hh, ← hl] at cM
  have hlb : l < 18446744073709551616 := by omega
  unfold wd
  rw [← hlx]
  obtain ⟨G, hG⟩ : ∃ G, G = a * b / 18446744073709551616 := ⟨_, rfl⟩
  rw [← hG] at c1 c2 c3 c4 ⊢
  have HB := hide (bnew w (.cells #[.int .i64 G, .int .u64 l] 55))
  clear hh hl hlx hG hab hu hv
  by_cases h1 : a < 0 <;> by_cases h2 : b < 0
  · have c4 := c4 h1 h2
    obtain ⟨H1, hH1⟩ : ∃ H1, IntKind.i64.wrap (h : Int) = H1 := ⟨_, rfl⟩
    rw [hH1] at c4
    obtain ⟨H2, hH2⟩ : ∃ H2, IntKind.i64.wrap (H1 - b) = H2 := ⟨_, rfl⟩
    rw [hH2] at c4
    clear c1 c2 c3
    go_enter Try.func43, Try.ntmps43
    go_wp2_with fail
    refine (cM _).mono ?_
    rintro e w1 ⟨rfl, rfl⟩
    go_wp2_with fail
    exact bodyPost_ret (v := .agg #[.int .i64 G, .int .u64 l]) (by simp [results, Try.results43, go_sem]) rfl ⟨rfl, HB.out⟩
  · have c4 := c2 h1 h2
    obtain ⟨H1, hH1⟩ : ∃ H1, IntKind.i64.wrap (h : Int) = H1 := ⟨_, rfl⟩
    rw [hH1] at c4
    clear c1 c2 c3
    go_enter Try.func43, Try.ntmps43
    go_wp2_with fail
    refine (cM _).mono ?_
    rintro e w1 ⟨rfl, rfl⟩
    go_wp2_with fail
    exact bodyPost_ret (v := .agg #[.int .i64 G, .int .u64 l]) (by simp [results, Try.results43, go_sem]) rfl ⟨rfl, HB.out⟩
  · have c4 := c3 h1 h2
    obtain ⟨H1, hH1⟩ : ∃ H1, IntKind.i64.wrap (h : Int) = H1 := ⟨_, rfl⟩
    rw [hH1] at c4
    clear c1 c2 c3
    go_enter Try.func43, Try.ntmps43
    go_wp2_with fail
    refine (cM _).mono ?_
    rintro e w1 ⟨rfl, rfl⟩
    go_wp2_with fail
    exact bodyPost_ret (v := .agg #[.int .i64 G, .int .u64 l]) (by simp [results, Try.results43, go_sem]) rfl ⟨rfl, HB.out⟩
  · have c4 := c1 h1 h2
    clear c1 c2 c3
    go_enter Try.func43, Try.ntmps43
    go_wp2_with fail
    refine (cM _).mono ?_
    rintro e w1 ⟨rfl, rfl⟩
    go_wp2_with fail
    exact bodyPost_ret (v := .agg #[.int .i64 G, .int .u64 l]) (by simp [results, Try.results43, go_sem]) rfl ⟨rfl, HB.out⟩

end Go.Proofs.Ytjdbiaoheoialaa

/- The program's products of two words, their sums and signs. -/
import Derived.Test.YtionmmmmmjjciaaWid
import Derived.Test.YtionmmmmmjjciaaHol
namespace Go.Proofs.Ytionmmmmmjjciaa
open Go.RowKit Go.Lib

theorem wd_mulB {a b : Int} (ha : -9223372036854775808 ≤ a ∧ a ≤ 9223372036854775807) (hb : -9223372036854775808 ≤ b ∧ b ≤ 9223372036854775807) (hab : -85070591730234615865843651857942052864 ≤ a * b ∧ a * b ≤ 85070591730234615865843651857942052864) :
    ∃ u v h l : Nat, IntKind.u64.wrap a = (u : Int) ∧ IntKind.u64.wrap b = (v : Int) ∧ u < 18446744073709551616 ∧ v < 18446744073709551616 ∧ h = u * v / 18446744073709551616 ∧ l = u * v % 18446744073709551616 ∧ (l : Int) = a * b % 18446744073709551616 ∧ h < 18446744073709551616 ∧
      (¬ a < 0 → ¬ b < 0 → IntKind.i64.wrap (h : Int) = a * b / 18446744073709551616) ∧
      (a < 0 → ¬ b < 0 → IntKind.i64.wrap (IntKind.i64.wrap (h : Int) - b) = a * b / 18446744073709551616) ∧
      (¬ a < 0 → b < 0 → IntKind.i64.wrap (IntKind.i64.wrap (h : Int) - a) = a * b / 18446744073709551616) ∧
      (a < 0 → b < 0 → IntKind.i64.wrap (IntKind.i64.wrap (IntKind.i64.wrap (h : Int) - b) - a) = a * b / 18446744073709551616) := by
  obtain ⟨u, hu⟩ : ∃ u : Nat, (u : Int) = a % 18446744073709551616 := ⟨(a % 18446744073709551616).toNat, by omega⟩
  obtain ⟨v, hv⟩ : ∃ v : Nat, (v : Int) = b % 18446744073709551616 := ⟨(b % 18446744073709551616).toNat, by omega⟩
  obtain ⟨P, hP⟩ : ∃ P : Nat, P = u * v := ⟨_, rfl⟩
  have hPi : (P : Int) = (u : Int) * (v : Int) := by rw [hP, Int.natCast_mul]
  obtain ⟨X, hX⟩ : ∃ X, X = a * b := ⟨_, rfl⟩
  have hPb : P ≤ 18446744073709551615 * 18446744073709551615 := by rw [hP]; exact Nat.mul_le_mul (by omega) (by omega)
  have key : (¬ a < 0 ∧ ¬ b < 0 ∧ (P : Int) = X) ∨ (a < 0 ∧ ¬ b < 0 ∧ (P : Int) = X + 18446744073709551616 * b) ∨ (¬ a < 0 ∧ b < 0 ∧ (P : Int) = X + 18446744073709551616 * a) ∨ (a < 0 ∧ b < 0 ∧ (P : Int) = X + 18446744073709551616 * b + 18446744073709551616 * a + 18446744073709551616 * 18446744073709551616) := by
    rw [hPi, hX]
    by_cases h1 : a < 0 <;> by_cases h2 : b < 0
    · right; right; right
      refine ⟨h1, h2, ?_⟩
      have e1 : (u : Int) = a + 18446744073709551616 := by omega
      have e2 : (v : Int) = b + 18446744073709551616 := by omega
      rw [e1, e2, Int.add_mul, Int.mul_add, Int.mul_add]
      rw [Int.mul_comm a 18446744073709551616]
      omega
    · right; left
      refine ⟨h1, h2, ?_⟩
      have e1 : (u : Int) = a + 18446744073709551616 := by omega
      have e2 : (v : Int) = b := by omega
      rw [e1, e2, Int.add_mul]
    · right; right; left
      refine ⟨h1, h2, ?_⟩
      have e1 : (u : Int) = a := by omega
      have e2 : (v : Int) = b + 18446744073709551616 := by omega
      rw [e1, e2, Int.mul_add, Int.mul_comm a 18446744073709551616]
    · left
      refine ⟨h1, h2, ?_⟩
      have e1 : (u : Int) = a := by omega
      have e2 : (v : Int) = b := by omega
      rw [e1, e2]
  rw [← hX] at hab
  obtain ⟨h, hh⟩ : ∃ h : Nat, h = P / 18446744073709551616 := ⟨_, rfl⟩
  obtain ⟨l, hl⟩ : ∃ l : Nat, l = P % 18446744073709551616 := ⟨_, rfl⟩
  have hlb : l < 18446744073709551616 := by rw [hl]; exact Nat.mod_lt _ (by omega)
  have hPd : P = 18446744073709551616 * h + l := by rw [hh, hl]; exact (Nat.div_add_mod P _).symm
  have hhb : h < 18446744073709551616 := by rw [hh]; exact Nat.div_lt_of_lt_mul (Nat.lt_of_le_of_lt hPb (by decide))
  have hPc : (P : Int) = 18446744073709551616 * (h : Int) + (l : Int) := by rw [hPd]; simp
  refine ⟨u, v, h, l, by rw [IntKind.wrap_u64]; omega, by rw [IntKind.wrap_u64]; omega, by omega, by omega, by rw [hh, hP], by rw [hl, hP], ?_, hhb, ?_, ?_, ?_, ?_⟩
  · clear hPi hP hPb hh hl hPd hu hv ha hb
    rw [← hX]
    have hdv : ∃ t : Int, X = 18446744073709551616 * t + (l : Int) := by
      rcases key with ⟨_, _, e⟩ | ⟨_, _, e⟩ | ⟨_, _, e⟩ | ⟨_, _, e⟩
      · exact ⟨h, by omega⟩
      · exact ⟨h - b, by omega⟩
      · exact ⟨h - a, by omega⟩
      · exact ⟨h - b - a - 18446744073709551616, by omega⟩
    obtain ⟨t, ht⟩ := hdv
    clear key hX hPc
    omega
  all_goals
    rw [← hX]
    intro h1 h2
    obtain ⟨t, ht, htq⟩ : ∃ t : Int, X = 18446744073709551616 * t + (l : Int) ∧ ((¬ a < 0 ∧ ¬ b < 0 ∧ t = h) ∨ (a < 0 ∧ ¬ b < 0 ∧ t = h - b) ∨ (¬ a < 0 ∧ b < 0 ∧ t = h - a) ∨ (a < 0 ∧ b < 0 ∧ t = h - b - a - 18446744073709551616)) := by
      clear hPi hP hPb hh hl hPd hu hv
      rcases key with ⟨k1, k2, e⟩ | ⟨k1, k2, e⟩ | ⟨k1, k2, e⟩ | ⟨k1, k2, e⟩
      · exact ⟨h, by omega, .inl ⟨k1, k2, rfl⟩⟩
      · exact ⟨h - b, by omega, .inr (.inl ⟨k1, k2, rfl⟩)⟩
      · exact ⟨h - a, by omega, .inr (.inr (.inl ⟨k1, k2, rfl⟩))⟩
      · exact ⟨h - b - a - 18446744073709551616, by omega, .inr (.inr (.inr ⟨k1, k2, rfl⟩))⟩
    have htd : X / 18446744073709551616 = t := by clear key hPi hP hPb hh hl hPd hu hv hX hPc htq; omega
    have htb : -4611686018427387905 ≤ t ∧ t ≤ 4611686018427387904 := by clear key hPi hP hPb hh hl hPd hu hv hX hPc htq; omega
    rw [htd]
    simp only [IntKind.wrap_i64]
    rcases htq with ⟨k1, k2, e⟩ | ⟨k1, k2, e⟩ | ⟨k1, k2, e⟩ | ⟨k1, k2, e⟩
    all_goals first
      | exact absurd h1 k1
      | exact absurd h2 k2
      | exact absurd k1 h1
      | exact absurd k2 h2
      | (clear key hPi hP hPb hh hl hPd hu hv hX hPc ht htd hab hlb; omega)

set_option maxRecDepth 100000 in
set_option maxHeartbeats 2000000 in
theorem wideProductB_any (a b : Int) (ha : -9223372036854775808 ≤ a ∧ a ≤ 9223372036854775807) (hb : -9223372036854775808 ≤ b ∧ b ≤ 9223372036854775807) (hab : -85070591730234615865843651857942052864 ≤ a * b ∧ a * b ≤ 85070591730234615865843651857942052864) (w : World) :
    Calls Try.prog 22 #[.int .i64 a, .int .i64 b] w fun e w' => e = .returned (wd (a * b)) ∧ Below w.heap.size w w' := by
  obtain ⟨u, v, h, l, wu, wv, hu, hv, hh, hl, hlx, hhb, c1, c2, c3, c4⟩ := wd_mulB ha hb hab
  have cM := fun w => mul64_any u v hu hv w
  rw [← hh, ← hl] at cM
  have hlb : l < 18446744073709551616 := by omega
  unfold wd
  rw [← hlx]
  obtain ⟨G, hG⟩ : ∃ G, G = a * b / 18446744073709551616 := ⟨_, rfl⟩
  rw [← hG] at c1 c2 c3 c4 ⊢
  have HB := hide (bnew w (.cells #[.int .i64 G, .int .u64 l] 55))
  clear hh hl hlx hG hab hu hv
  by_cases h1 : a < 0 <;> by_cases h2 : b < 0
  · have c4 := c4 h1 h2
    obtain ⟨H1, hH1⟩ : ∃ H1, IntKind.i64.wrap (h : Int) = H1 := ⟨_, rfl⟩
    rw [hH1] at c4
    obtain ⟨H2, hH2⟩ : ∃ H2, IntKind.i64.wrap (H1 - b) = H2 := ⟨_, rfl⟩
    rw [hH2] at c4
    clear c1 c2 c3
    go_enter Try.func22, Try.ntmps22
    go_wp2_with fail
    refine (cM _).mono ?_
    rintro e w1 ⟨rfl, rfl⟩
    go_wp2_with fail
    exact bodyPost_ret (v := .agg #[.int .i64 G, .int .u64 l]) (by simp [results, Try.results22, go_sem]) rfl ⟨rfl, HB.out⟩
  · have c4 := c2 h1 h2
    obtain ⟨H1, hH1⟩ : ∃ H1, IntKind.i64.wrap (h : Int) = H1 := ⟨_, rfl⟩
    rw [hH1] at c4
    clear c1 c2 c3
    go_enter Try.func22, Try.ntmps22
    go_wp2_with fail
    refine (cM _).mono ?_
    rintro e w1 ⟨rfl, rfl⟩
    go_wp2_with fail
    exact bodyPost_ret (v := .agg #[.int .i64 G, .int .u64 l]) (by simp [results, Try.results22, go_sem]) rfl ⟨rfl, HB.out⟩
  · have c4 := c3 h1 h2
    obtain ⟨H1, hH1⟩ : ∃ H1, IntKind.i64.wrap (h : Int) = H1 := ⟨_, rfl⟩
    rw [hH1] at c4
    clear c1 c2 c3
    go_enter Try.func22, Try.ntmps22
    go_wp2_with fail
    refine (cM _).mono ?_
    rintro e w1 ⟨rfl, rfl⟩
    go_wp2_with fail
    exact bodyPost_ret (v := .agg #[.int .i64 G, .int .u64 l]) (by simp [results, Try.results22, go_sem]) rfl ⟨rfl, HB.out⟩
  · have c4 := c1 h1 h2
    clear c1 c2 c3
    go_enter Try.func22, Try.ntmps22
    go_wp2_with fail
    refine (cM _).mono ?_
    rintro e w1 ⟨rfl, rfl⟩
    go_wp2_with fail
    exact bodyPost_ret (v := .agg #[.int .i64 G, .int .u64 l]) (by simp [results, Try.results22, go_sem]) rfl ⟨rfl, HB.out⟩


set_option maxRecDepth 100000 in
set_option maxHeartbeats 2000000 in
theorem widePlusB_any (x y : Int) (hx : -21267647932558653966460912964485513216 ≤ x ∧ x ≤ 21267647932558653966460912964485513216) (hy : -21267647932558653966460912964485513216 ≤ y ∧ y ≤ 21267647932558653966460912964485513216) (w : World) :
    Calls Try.prog 23 #[wd x, wd y] w fun e w' => e = .returned (wd (x + y)) ∧ Below w.heap.size w w' := by
  unfold wd
  obtain ⟨lx, hlx⟩ : ∃ l : Nat, (l : Int) = x % 18446744073709551616 := ⟨(x % 18446744073709551616).toNat, by omega⟩
  obtain ⟨ly, hly⟩ : ∃ l : Nat, (l : Int) = y % 18446744073709551616 := ⟨(y % 18446744073709551616).toNat, by omega⟩
  obtain ⟨X, hX⟩ : ∃ X, X = x / 18446744073709551616 := ⟨_, rfl⟩
  obtain ⟨Y, hY⟩ : ∃ Y, Y = y / 18446744073709551616 := ⟨_, rfl⟩
  obtain ⟨L, hL⟩ : ∃ L : Nat, L = (lx + ly) % 18446744073709551616 := ⟨_, rfl⟩
  obtain ⟨C, hC⟩ : ∃ C : Nat, C = (lx + ly) / 18446744073709551616 := ⟨_, rfl⟩
  have hA := add64_run lx ly
  rw [← hL, ← hC] at hA
  have hG : (x + y) / 18446744073709551616 = X + Y + C := by omega
  have hGl : (x + y) % 18446744073709551616 = L := by omega
  have wC : IntKind.i64.wrap (C : Int) = (C : Int) := by rw [IntKind.wrap_i64]; omega
  obtain ⟨S, hS⟩ : ∃ S, S = X + Y := ⟨_, rfl⟩
  obtain ⟨G, hG2⟩ : ∃ G, G = S + C := ⟨_, rfl⟩
  have w1 : IntKind.i64.wrap (X + Y) = S := by rw [IntKind.wrap_i64]; omega
  have w2 : IntKind.i64.wrap (S + C) = G := by rw [IntKind.wrap_i64]; omega
  rw [hG, hGl, ← hlx, ← hly, ← hX, ← hY, ← hS, ← hG2]
  have HB := hide (bnext (bnext (bnew w (.cells #[.int .i64 X, .int .u64 lx] 55)) (Nat.le_refl _) (bnew _ (.cells #[.int .i64 Y, .int .u64 ly] 55))) (Nat.le_refl _) (bnew _ (.cells #[.int .i64 G, .int .u64 L] 55)))
  clear hG hGl hlx hly hX hY hS hG2 hL hC hx hy
  go_enter Try.func23, Try.ntmps23
  go_wp2
  exact bodyPost_ret (v := .agg #[.int .i64 G, .int .u64 L]) (by simp [results, Try.results23, go_sem]) rfl ⟨rfl, HB.out⟩

def sgn (x : Int) : Int := if x < 0 then -1 else if x = 0 then 0 else 1
set_option maxRecDepth 100000 in
set_option maxHeartbeats 2000000 in
theorem wideSignB_any (x : Int) (hx : -21267647932558653966460912964485513216 ≤ x ∧ x ≤ 21267647932558653966460912964485513216) (w : World) :
    Calls Try.prog 24 #[wd x] w fun e w' => e = .returned (.int .i64 (sgn x)) ∧ Below w.heap.size w w' := by
  unfold wd sgn
  by_cases h1 : x < 0
  · obtain ⟨X, hX⟩ : ∃ X, X = x / 18446744073709551616 := ⟨_, rfl⟩
    obtain ⟨L, hL⟩ : ∃ L, L = x % 18446744073709551616 := ⟨_, rfl⟩
    have h2 : X < 0 := by omega
    rw [← hX, ← hL, if_pos h1]
    have HB := hide (bnew w (.cells #[.int .i64 X, .int .u64 L] 55))
    clear hX hL h1 hx
    go_enter Try.func24, Try.ntmps24
    go_wp2
    go_ret
    exact ⟨rfl, HB.out⟩
  · rw [if_neg h1]
    by_cases h2 : x = 0
    · subst h2
      have HB := hide (bnew w (.cells #[.int .i64 0, .int .u64 0] 55))
      go_enter Try.func24, Try.ntmps24
      go_wp2
      go_ret
      exact ⟨rfl, HB.out⟩
    · by_cases h3 : x / 18446744073709551616 = 0
      · obtain ⟨L, hL⟩ : ∃ L, L = x % 18446744073709551616 := ⟨_, rfl⟩
        have h4 : (L == 0) = false := by simp; omega
        have h5 : ¬ L = 0 := by omega
        rw [← hL, if_neg h2, h3]
        have HB := hide (bnew w (.cells #[.int .i64 0, .int .u64 L] 55))
        clear hL h1 h2 h3 hx
        go_enter Try.func24, Try.ntmps24
        go_wp2
        go_ret
        exact ⟨rfl, HB.out⟩
      · obtain ⟨X, hX⟩ : ∃ X, X = x / 18446744073709551616 := ⟨_, rfl⟩
        obtain ⟨L, hL⟩ : ∃ L, L = x % 18446744073709551616 := ⟨_, rfl⟩
        have h4 : (X == 0) = false := by simp; omega
        have h5 : ¬ X = 0 := by omega
        have h6 : ¬ X < 0 := by omega
        rw [← hX, ← hL, if_neg h2]
        have HB := hide (bnew w (.cells #[.int .i64 X, .int .u64 L] 55))
        clear hL hX h1 h2 h3 hx
        go_enter Try.func24, Try.ntmps24
        go_wp2
        go_ret
        exact ⟨rfl, HB.out⟩

end Go.Proofs.Ytionmmmmmjjciaa

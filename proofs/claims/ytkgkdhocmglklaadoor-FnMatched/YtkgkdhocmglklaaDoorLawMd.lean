/- A fit that is found costs what it says, and none that is tried costs less, or as much ahead of it: the law, walked. -/
import Derived.Test.YtkgkdhocmglklaaDoorDmf
import Derived.Test.YtkgkdhocmglklaaDoorVsm
import Derived.Test.YtkgkdhocmglklaaDoorMtj
import Derived.Test.YtkgkdhocmglklaaDoorMtf
import Derived.Test.YtkgkdhocmglklaaDoorRwb
import Derived.Deep.DeepCutAuto
namespace Go.Proofs.YtkgkdhocmglklaaDoor
open Go.RowKit

theorem lex1 {A B a b m : Nat} (hb : b < m) (h : A * m + a ≤ B * m + b) : A < B ∨ (A = B ∧ a ≤ b) := by
  by_cases h1 : A < B
  · exact .inl h1
  · by_cases h2 : A = B
    · subst h2; exact .inr ⟨rfl, by omega⟩
    · have : (B + 1) * m ≤ A * m := Nat.mul_le_mul_right m (by omega)
      rw [Nat.add_mul, Nat.one_mul] at this
      omega
theorem dm_eq (p m : Nat) : p = p / m * m + p % m := by have := Nat.div_add_mod p m; rw [Nat.mul_comm] at this; exact this.symm
/-- the four numbers of a fit, in a row -/
def f4 (t x y z : Int) (k : Nat) : Int := match k with | 0 => t | 1 => x | 2 => y | _ => z
/-- what is found: its cost, and that none comes ahead of it -/
theorem matched {X : Int} {n : Nat} {f f' : Nat → Int} {r : Int} (hl : likB X X X n f X X X n f' = true) (hr : 0 ≤ r ∧ r ≤ 2) :
    ∃ T x y z c : Int, matV X X X n f X X X n f' r = ⟨T, x, y, z, c⟩ ∧ 0 ≤ c ∧ fitV tqT X X X n f X X X n f' T x y z = c ∧
      ∀ t' x' y' z' : Int, (0 ≤ t' ∧ t' ≤ 11) → (-r ≤ x' ∧ x' ≤ r) → (-r ≤ y' ∧ y' ≤ r) → (-r ≤ z' ∧ z' ≤ r) → c ≤ fitV tqT X X X n f X X X n f' t' x' y' z' ∧ (fitV tqT X X X n f X X X n f' t' x' y' z' = c → ∀ i, i < 4 → (∀ j, j < i → f4 T x y z j = f4 t' x' y' z' j) → f4 T x y z i ≠ f4 t' x' y' z' i → f4 T x y z i < f4 t' x' y' z' i) := by
  obtain ⟨hcA, hcB, -, -⟩ := lik_parts hl
  obtain ⟨-, -, hX, hn, -⟩ := cubB_parts hcA
  obtain ⟨m, hm⟩ : ∃ m : Nat, (m : Int) = 2 * r + 1 := ⟨(2 * r + 1).toNat, by omega⟩
  have hm' : (2 * r + 1).toNat = m := by omega
  have hm1 : 0 < m := by omega
  have hpos : ∀ T, T < 12 → ∀ x y z, 0 ≤ mtC f f' X n T x y z := fun T hT x y z => (cst_bd hX hn (cub_in hcA) (cub_in (cub_turnF (tq_ok T hT) hcB)) x y z n (Nat.le_refl _)).1
  have hT12 : ∀ p, p < 12 * m * m * m → p / m / m / m < 12 := fun p hp => Nat.div_lt_of_lt_mul (by rw [Nat.mul_comm]; exact Nat.div_lt_of_lt_mul (by rw [Nat.mul_comm]; exact Nat.div_lt_of_lt_mul (by rw [Nat.mul_comm]; exact hp)))
  have hfit : ∀ (t' x' y' z' : Int), (0 ≤ t' ∧ t' ≤ 11) → (-r ≤ x' ∧ x' ≤ r) → (-r ≤ y' ∧ y' ≤ r) → (-r ≤ z' ∧ z' ≤ r) → fitV tqT X X X n f X X X n f' t' x' y' z' = mtC f f' X n t'.toNat x' y' z' := fun t' x' y' z' h1 h2 h3 h4 => by
    rw [fit_yes (by
      rw [hl, inB_iffF.2 h1, inB_iffF.2 (show -2 ≤ x' ∧ x' ≤ 2 by omega), inB_iffF.2 (show -2 ≤ y' ∧ y' ≤ 2 by omega), inB_iffF.2 (show -2 ≤ z' ∧ z' ≤ 2 by omega)]
      rfl)]
    rfl
  rw [mat_yes (by rw [hl, inB_iffF.2 hr]; rfl), hm', bt_fo]
  have hP : 1 ≤ 12 * m * m * m := by
    have := Nat.mul_le_mul (Nat.mul_le_mul (Nat.mul_le_mul (Nat.le_refl 12) hm1) hm1) hm1
    omega
  obtain ⟨q, hq, e, hle⟩ := fo_least (co := mtC f f' X n) (r := r) (m := m) (12 * m * m * m) (fun p hp => hpos _ (hT12 p hp) _ _ _) hP
  rw [e]
  have hq12 := hT12 q hq
  have b1 := Nat.mod_lt (q / m / m) hm1
  have b2 := Nat.mod_lt (q / m) hm1
  have b3 := Nat.mod_lt q hm1
  have hfq := hfit ((q / m / m / m : Nat) : Int) (((q / m / m % m : Nat) : Int) - r) (((q / m % m : Nat) : Int) - r) (((q % m : Nat) : Int) - r) ⟨Int.natCast_nonneg _, by exact_mod_cast Nat.le_of_lt_succ hq12⟩ ⟨by omega, by omega⟩ ⟨by omega, by omega⟩ ⟨by omega, by omega⟩
  refine ⟨_, _, _, _, _, rfl, hpos _ hq12 _ _ _, hfq, fun t' x' y' z' h1 h2 h3 h4 => ?_⟩
  obtain ⟨t, ht⟩ : ∃ t : Nat, (t : Int) = t' := ⟨t'.toNat, by omega⟩
  obtain ⟨i, hi⟩ : ∃ i : Nat, (i : Int) = x' + r := ⟨(x' + r).toNat, by omega⟩
  obtain ⟨j, hj⟩ : ∃ j : Nat, (j : Int) = y' + r := ⟨(y' + r).toNat, by omega⟩
  obtain ⟨k, hk⟩ : ∃ k : Nat, (k : Int) = z' + r := ⟨(z' + r).toNat, by omega⟩
  have hp : ((t * m + i) * m + j) * m + k < 12 * m * m * m := by
    have g1 : t * m + i + 1 ≤ 12 * m := by
      have := Nat.mul_le_mul_right m (show t + 1 ≤ 12 by omega)
      rw [Nat.add_mul, Nat.one_mul] at this
      omega
    have g2 : (t * m + i) * m + j + 1 ≤ 12 * m * m := by
      have := Nat.mul_le_mul_right m g1
      rw [Nat.add_mul, Nat.one_mul] at this
      omega
    have g3 := Nat.mul_le_mul_right m g2
    rw [Nat.add_mul _ 1, Nat.one_mul] at g3
    omega
  have hs := sq_at (mtC f f' X n) r (T := t) (i := i) (j := j) (k := k) (m := m) (by omega) (by omega) (by omega)
  obtain ⟨l1, l2⟩ := hle _ hp
  rw [hs] at l1 l2
  have ex : (i : Int) - r = x' := by omega
  have ey : (j : Int) - r = y' := by omega
  have ez : (k : Int) - r = z' := by omega
  have et : t'.toNat = t := by omega
  rw [hfit t' x' y' z' h1 h2 h3 h4, et]
  simp only [ex, ey, ez] at l1 l2
  refine ⟨l1, fun heq => ?_⟩
  have hqp := l2 heq.symm
  have hlex : q / m / m / m < t ∨ (q / m / m / m = t ∧ (q / m / m % m < i ∨ (q / m / m % m = i ∧ (q / m % m < j ∨ (q / m % m = j ∧ q % m ≤ k))))) := by
    rw [dm_eq q m] at hqp
    rcases lex1 (show k < m by omega) hqp with g | ⟨g, g3⟩
    · have g' : q / m ≤ (t * m + i) * m + j := by omega
      rw [dm_eq (q / m) m] at g
      rcases lex1 (b := j) (show j < m by omega) (Nat.le_of_lt g) with u | ⟨u, u3⟩
      · have u' : q / m / m ≤ t * m + i := Nat.le_of_lt u
        rw [dm_eq (q / m / m) m] at u
        rcases lex1 (b := i) (show i < m by omega) (Nat.le_of_lt u) with v | ⟨v, v3⟩
        · exact .inl v
        · refine .inr ⟨v, .inl ?_⟩
          rw [v] at u
          omega
      · have u' := u
        rw [dm_eq (q / m / m) m] at u
        rcases lex1 (b := i) (show i < m by omega) (Nat.le_of_eq u) with v | ⟨v, v3⟩
        · exact .inl v
        · refine .inr ⟨v, .inr ⟨?_, .inl ?_⟩⟩
          · rw [v] at u; omega
          · rw [u'] at g; omega
    · have g' := g
      rw [dm_eq (q / m) m] at g
      rcases lex1 (b := j) (show j < m by omega) (Nat.le_of_eq g) with u | ⟨u, u3⟩
      · exfalso
        have : q / m / m * m + m ≤ (t * m + i) * m := by
          have := Nat.mul_le_mul_right m (show q / m / m + 1 ≤ t * m + i by omega)
          rw [Nat.add_mul, Nat.one_mul] at this
          exact this
        omega
      · have u' := u
        rw [dm_eq (q / m / m) m] at u
        rcases lex1 (b := i) (show i < m by omega) (Nat.le_of_eq u) with v | ⟨v, v3⟩
        · exact .inl v
        · refine .inr ⟨v, .inr ⟨?_, .inr ⟨?_, g3⟩⟩⟩
          · rw [v] at u; omega
          · rw [u'] at g; omega
  intro i4 h4' hpre hne
  match i4, h4' with
  | 0, _ =>
    simp only [f4] at hne ⊢
    omega
  | 1, _ =>
    have p0 := hpre 0 (by omega)
    simp only [f4] at hne p0 ⊢
    omega
  | 2, _ =>
    have p0 := hpre 0 (by omega)
    have p1 := hpre 1 (by omega)
    simp only [f4] at hne p0 p1 ⊢
    omega
  | 3, _ =>
    have p0 := hpre 0 (by omega)
    have p1 := hpre 1 (by omega)
    have p2 := hpre 2 (by omega)
    simp only [f4] at hne p0 p1 p2 ⊢
    omega

set_option maxRecDepth 100000 in
set_option maxHeartbeats 8000000 in
theorem fnMatched_walk (c0 : Option Addr) (n0 k0 : Nat) (c1 : Option Addr) (n1 k1 : Nat) (w : World) (hy0 : Bytes c0 n0 w) (hy1 : Bytes c1 n1 w) (hT : Tbl w) :
    Calls Tryd.prog 4 #[.slice c0 n0 k0, .slice c1 n1 k1] w fun e w' => e = .returned (.bool true) ∧ Below w.heap.size w w' := by
  have b0 := big_any c0 n0 k0
  have b1 := big_any c1 n1 k1
  have HY0 := hide hy0
  have HY1 := hide hy1
  have HT := hide hT
  clear hy0 hy1 hT
  go_enter Tryd.func4, Tryd.ntmps4
  go_wp2_with fail
  refine (b0 _).mono ?_
  rintro e w1 ⟨rfl, h1⟩
  obtain rfl := h1.symm
  by_cases g0 : 1048576 < n0
  · have d0 : decide (1048576 < n0) = true := by simp [g0]
    clear b1 b0
    go_wp2_with fail
    go_ret
    exact ⟨rfl, Below.refl _ _⟩
  have d0 : decide (1048576 < n0) = false := by simp [g0]
  clear b0
  go_wp2_with fail
  refine (b1 _).mono ?_
  rintro e w2 ⟨rfl, h1⟩
  obtain rfl := h1.symm
  by_cases g1 : 1048576 < n1
  · have d1 : decide (1048576 < n1) = true := by simp [g1]
    clear b1
    go_wp2_with fail
    go_ret
    exact ⟨rfl, Below.refl _ _⟩
  have d1 : decide (1048576 < n1) = false := by simp [g1]
  clear b1
  have cA := drawMatch_any c0 n0 k0 w HY0.out
  go_wp2_with fail
  refine cA.mono ?_
  rintro e w5 ⟨V0, V1, V2, L, af, cf, U0, U1, U2, M, ag, cg, r, rfl, hL, hM, hr, l6, l7, hb5⟩
  obtain ⟨w6, hw6⟩ : ∃ w6, w6 = (w5.alloc (.cells #[.int .i64 V0, .int .i64 V1, .int .i64 V2, .slice af L.length cf] 26)).alloc (.cells #[.int .i64 U0, .int .i64 U1, .int .i64 U2, .slice ag M.length cg] 26) := ⟨_, rfl⟩
  have hb6 : Below w5.heap.size w5 w6 := by rw [hw6]; exact (bnew _ _).alloc (by simp) _
  have BA : Hid (Bx w5.heap.size (v4 V0 V1 V2 af L.length cf) w6) := by
    rw [hw6]; exact (Bx.new (v4 V0 V1 V2 af L.length cf) 26 w5).below (bnew _ _) (by simp)
  have BB : Hid (Bx (w5.heap.size + 1) (v4 U0 U1 U2 ag M.length cg) w6) := by
    rw [hw6]
    have := Bx.new (v4 U0 U1 U2 ag M.length cg) 26 (w5.alloc (.cells #[.int .i64 V0, .int .i64 V1, .int .i64 V2, .slice af L.length cf] 26))
    rwa [show (w5.alloc (.cells #[.int .i64 V0, .int .i64 V1, .int .i64 V2, .slice af L.length cf] 26)).heap.size = w5.heap.size + 1 by simp] at this
  have LA := hide (l6.next hb6)
  have LB := hide (l7.next hb6)
  have HW := hide (hb5.trans (hb6.mono hb5.size))
  have HR := hide hr
  have HLM := hide (And.intro hL hM)
  clear cA l6 l7 hb5 hb6 hr hL hM d0 d1 g0 g1 HY0
  go_upto_region 4 with fail
  rw [← hw6]
  clear hw6
  generalize w5.heap.size + 1 = Q at *
  generalize w5.heap.size = P at *
  have cA := drawFitCost_any c1 n1 k1 w6 (HY1.out.below HW.out)
  go_wp2_with fail
  refine cA.mono ?_
  rintro e w7 ⟨Y0, Y1, Y2, K1, ah, ch, Z0, Z1, Z2, K2, ai, ci, t, x, y, z, rfl, ht, hx, hy, hz, hb7⟩
  obtain ⟨w8, hw8⟩ : ∃ w8, w8 = (w7.alloc (.cells #[.int .i64 Y0, .int .i64 Y1, .int .i64 Y2, .slice ah K1.length ch] 26)).alloc (.cells #[.int .i64 Z0, .int .i64 Z1, .int .i64 Z2, .slice ai K2.length ci] 26) := ⟨_, rfl⟩
  have hb8 : Below w7.heap.size w7 w8 := by rw [hw8]; exact (bnew _ _).alloc (by simp) _
  have hb68 : Below w6.heap.size w6 w8 := hb7.trans (hb8.mono hb7.size)
  have BA8 := hide (BA.out.below hb68 BA.out.lt)
  have BB8 := hide (BB.out.below hb68 BB.out.lt)
  have LA8 := hide (LA.out.next hb68)
  have LB8 := hide (LB.out.next hb68)
  have HW8 := hide (HW.out.trans (hb68.mono HW.out.size))
  have HTZ := hide (And.intro ht (And.intro hx (And.intro hy hz)))
  clear cA hb7 hb8 hb68 ht hx hy hz BA BB LA LB HW HY1
  go_upto_region 5 with fail
  rw [← hw8]
  clear hw8
  by_cases h0 : r < 0
  · have HB := hide HW8.out
    go_wp2_with fail
    go_ret
    exact ⟨rfl, HB.out⟩
  by_cases h2 : 2 < r
  · have HB := hide HW8.out
    go_wp2_with fail
    go_ret
    exact ⟨rfl, HB.out⟩
  obtain ⟨x0, -⟩ := BA8.out 0 _ rfl
  obtain ⟨x1, -⟩ := BA8.out 1 _ rfl
  obtain ⟨x2, -⟩ := BA8.out 2 _ rfl
  obtain ⟨x3, -⟩ := BA8.out 3 _ rfl
  obtain ⟨z0, -⟩ := BB8.out 0 _ rfl
  obtain ⟨z1, -⟩ := BB8.out 1 _ rfl
  obtain ⟨z2, -⟩ := BB8.out 2 _ rfl
  obtain ⟨z3, -⟩ := BB8.out 3 _ rfl
  have hlA : L.length ≤ 1048576 := by have := HLM.out.1; omega
  have hlB : M.length ≤ 1048576 := by have := HLM.out.2; omega
  have cF := specFitCost_any V0 V1 V2 af L.length cf (fun k => L.getD k 0) hlA U0 U1 U2 ag M.length cg (fun k => M.getD k 0) hlB 0 0 0 0 w8 LA8.out.px LB8.out.px
  cases hlik : likB V0 V1 V2 L.length (fun k => L.getD k 0) U0 U1 U2 M.length (fun k => M.getD k 0)
  · rw [fit_no (by rw [hlik]; rfl)] at cF
    go_wp2_with fail
    refine cF.mono ?_
    rintro e w9 ⟨rfl, hb9⟩
    have HB := hide (HW8.out.trans (hb9.mono HW8.out.size))
    clear cF hb9 x0 x1 x2 x3 z0 z1 z2 z3
    go_wp2_with fail
    go_ret
    exact ⟨rfl, HB.out⟩
  obtain ⟨hcA, hcB, hXX, -⟩ := lik_parts hlik
  obtain ⟨ea1, ea2, hX, hnX, -⟩ := cubB_parts hcA
  obtain ⟨eb1, eb2, -, hnX', -⟩ := cubB_parts hcB
  subst ea1 ea2 hXX eb1 eb2
  have hnn : M.length = L.length := by omega
  rw [hnn] at hlik cF BB8 LB8 z3
  rw [hnn]
  clear hnn hlB hnX' hcA hcB
  have hn1 : 1 ≤ L.length := cube_pos hX.1 hnX
  have hl := hlA
  clear hlA hX hnX HLM
  obtain ⟨n, hn⟩ : ∃ n, n = L.length := ⟨_, rfl⟩
  rw [← hn] at hlik cF BB8 LB8 z3 hn1 hl BA8 LA8 x3
  rw [← hn]
  clear hn
  generalize (fun k => L.getD k 0) = f at *
  generalize (fun k => M.getD k 0) = f' at *
  have hr02 : 0 ≤ r ∧ r ≤ 2 := ⟨by omega, by omega⟩
  obtain ⟨T, fx, fy, fz, c, hmat, hc0, hfitc, hleast⟩ := matched hlik hr02
  have HLE := hide hleast
  have hf0 : ¬ fitV tqT V0 V0 V0 n f V0 V0 V0 n f' 0 0 0 0 < 0 := by
    have := (hleast 0 0 0 0 ⟨by omega, by omega⟩ ⟨by omega, by omega⟩ ⟨by omega, by omega⟩ ⟨by omega, by omega⟩).1
    omega
  clear hlik hleast
  generalize hF0 : fitV tqT V0 V0 V0 n f V0 V0 V0 n f' 0 0 0 0 = F0 at cF hf0
  clear hF0
  obtain ⟨bA, eA, -, hrA⟩ := LA8.out.resolve_left (by omega)
  obtain ⟨bB, eB, -, hrB⟩ := LB8.out.resolve_left (by omega)
  subst eA eB
  have RA := hide hrA
  have RB := hide hrB
  clear hrA hrB LA8 LB8
  go_wp2_with fail
  refine cF.mono ?_
  rintro e w9 ⟨rfl, hb9⟩
  have HB9 := hide hb9
  clear cF hb9 x0 x1 x2 x3 z0 z1 z2 z3
  have BA := hide (BA8.out.below HB9.out BA8.out.lt)
  have BB := hide (BB8.out.below HB9.out BB8.out.lt)
  have RA9 := hide (RA.out.below HB9.out (RA.out.lt hn1))
  have RB9 := hide (RB.out.below HB9.out (RB.out.lt hn1))
  have HW := hide (HW8.out.trans (HB9.out.mono HW8.out.size))
  have HTB := hide (HT.out.below HW.out (Nat.le_refl _))
  clear BA8 BB8 RA RB HW8 HB9 HT
  have cCA := fun wx hx => copyVolume_any V0 V0 V0 (some ⟨bA, 0, none⟩) n cf f hl hn1 wx hx
  have cCB := fun wx hx => copyVolume_any V0 V0 V0 (some ⟨bB, 0, none⟩) n cg f' hl hn1 wx hx
  have cMt := fun a' cp' b' cp'' wx hTb hr hr' => implMatch_any V0 V0 V0 a' n cp' f hl V0 V0 V0 b' n cp'' f' hl r wx hTb hr hr'
  rw [hmat] at cMt
  have cFi := fun a' cp' b' cp'' wx hTb hr hr' => implFitCost_any V0 V0 V0 a' n cp' f hl V0 V0 V0 b' n cp'' f' hl T fx fy fz wx hTb hr hr'
  rw [hfitc] at cFi
  have cFs := fun wx hr hr' => specFitCost_any V0 V0 V0 (some ⟨bA, 0, none⟩) n cf f hl V0 V0 V0 (some ⟨bB, 0, none⟩) n cg f' hl T fx fy fz wx hr hr'
  rw [hfitc] at cFs
  have cFt := fun wx hr hr' => specFitCost_any V0 V0 V0 (some ⟨bA, 0, none⟩) n cf f hl V0 V0 V0 (some ⟨bB, 0, none⟩) n cg f' hl t x y z wx hr hr'
  have HLt := hide (HLE.out t x y z)
  clear hmat hfitc HLE
  generalize fitV tqT V0 V0 V0 n f V0 V0 V0 n f' t x y z = c' at *
  go_upto_region 7 with fail
  go_cut [14] (fun sl wc => ∃ M, sl = .pointer (some ⟨M, 0, none⟩) ∧ Below w9.heap.size w9 wc ∧ Bx M (cF ⟨T, fx, fy, fz, c⟩) wc)
  case first =>
    obtain ⟨GY, hGY⟩ : ∃ G : Nat → Value → Prop, G = (fun j v => match j, v with | 0, v => v = vVolume V0 V0 V0 (some ⟨bA, 0, none⟩) n cf | 2, v => v = vVolume V0 V0 V0 (some ⟨bB, 0, none⟩) n cg | 4, v => v = .int .i64 r | 5, v => v = vF ⟨T, fx, fy, fz, c⟩ | _, _ => True) := ⟨_, rfl⟩
    obtain ⟨OY, hOY⟩ : ∃ O : Nat → Option (Nat → Int), O = (fun j => match j with | 1 => some f | 3 => some f' | _ => none) := ⟨_, rfl⟩
    have GY0 : Hid (∀ v, GY 0 v ↔ v = vVolume V0 V0 V0 (some ⟨bA, 0, none⟩) n cf) := fun v => by rw [hGY]; exact Iff.rfl
    have OY0 : Hid (OY 0 = none) := by rw [hOY]; rfl
    have GY1 : Hid (∀ v, GY 1 v) := fun v => by rw [hGY]; trivial
    have OY1 : Hid (OY 1 = some f) := by rw [hOY]; rfl
    have GY2 : Hid (∀ v, GY 2 v ↔ v = vVolume V0 V0 V0 (some ⟨bB, 0, none⟩) n cg) := fun v => by rw [hGY]; exact Iff.rfl
    have OY2 : Hid (OY 2 = none) := by rw [hOY]; rfl
    have GY3 : Hid (∀ v, GY 3 v) := fun v => by rw [hGY]; trivial
    have OY3 : Hid (OY 3 = some f') := by rw [hOY]; rfl
    have GY4 : Hid (∀ v, GY 4 v ↔ v = .int .i64 r) := fun v => by rw [hGY]; exact Iff.rfl
    have OY4 : Hid (OY 4 = none) := by rw [hOY]; rfl
    have GY5 : Hid (∀ v, GY 5 v ↔ v = vF ⟨T, fx, fy, fz, c⟩) := fun v => by rw [hGY]; exact Iff.rfl
    have OY5 : Hid (OY 5 = none) := by rw [hOY]; rfl
    have GY6 : Hid (∀ v, GY 6 v) := fun v => by rw [hGY]; trivial
    have OY6 : Hid (OY 6 = none) := by rw [hOY]; rfl
    have GY7 : Hid (∀ v, GY 7 v) := fun v => by rw [hGY]; trivial
    have OY7 : Hid (OY 7 = none) := by rw [hOY]; rfl
    clear hGY hOY
    obtain ⟨PY, hPY⟩ : ∃ P : Nat → World → Prop, P = (fun M wx => Bx M (cF ⟨T, fx, fy, fz, c⟩) wx) := ⟨_, rfl⟩
    have HPY : Hid (∀ (M : Nat) (wx wy : World), Below wx.heap.size wx wy → PY M wx → PY M wy) := by
      intro M wx wy hb hp
      rw [hPY] at hp ⊢
      exact hp.below hb hp.lt
    refine region_opsU (bR 6 7 (.int .i64 0) [.int .i64 0, .int .i64 0, .int .i64 0, .int .i64 0] w9) (bF 6 7 w9 V0 n GY OY PY) (by kernel_rfl) (by kernel_rfl) (by kernel_rfl) ?_ ?_ ?_
    · refine ⟨(Below.refl _ _).drew, fun M hM => ?_⟩
      exact Value.noConfusion (Eq.trans (Eq.symm hM) (show _ = undef by kernel_rfl))
    · refine ⟨?_, ?_, ?_, ?_, ?_, ?_, ?_, ?_, trivial⟩
      · intro u w21 au hau hu hF hp' K hK
        have t5 : au.tmps[5]?.getD undef = .pointer (some ⟨P, 0, none⟩) := by rw [hau.out]; kernel_rfl
        have bx := BA.out.below hF.1 BA.out.lt
        obtain ⟨x0, -⟩ := bx 0 _ rfl
        obtain ⟨x1, -⟩ := bx 1 _ rfl
        obtain ⟨x2, -⟩ := bx 2 _ rfl
        obtain ⟨x3, -⟩ := bx 3 _ rfl
        clear bx
        refine step_plain rfl ?_
        go_simp
        exact hK.out (vVolume V0 V0 V0 (some ⟨bA, 0, none⟩) n cf) _ (bR_up hF (Below.refl _ _) 0 (by omega) (by omega) _) (bF_val 0 (by omega) (by omega) OY0.out ((GY0.out _).2 rfl)) (fun j hj _ h => bF_up hn1 (fun M => HPY.out M _ _ (Below.refl _ _)) (Below.refl _ _) 0 (by omega) (by omega) _ j hj h)
      · intro u w21 au hau hu hF hp' K hK
        have h0 : u 0 = vVolume V0 V0 V0 (some ⟨bA, 0, none⟩) n cf := (GY0.out _).1 (PreF.get hp' 0 (by kernel_rfl)).1
        have t52 : au.tmps[52]?.getD undef = u 0 := by rw [hau.out]; kernel_rfl
        rw [h0] at t52
        have hS : u 7 = undef := (hu.out 7 (by decide) (.inr (by kernel_rfl))).trans (by kernel_rfl)
        have c9 := cCA w21 ((RA9.out.below hF.1 (RA9.out.lt hn1)).px)
        refine step_plain rfl ?_
        go_simp
        refine c9.mono ?_
        rintro e w22 ⟨b9, c9, rfl, hr9, hB9, hb9⟩
        exact hK.out (vVolume V0 V0 V0 (some ⟨b9, 0, none⟩) n c9) _ (bR_up hF hb9 1 (by omega) (by omega) _) (bF_vol 1 (by omega) (by omega) OY1.out GY1.out hF hS hB9 hr9) (fun j hj _ h => bF_up hn1 (fun M => HPY.out M _ _ hb9) hb9 1 (by omega) (by omega) _ j hj h)
      · intro u w21 au hau hu hF hp' K hK
        have t6 : au.tmps[6]?.getD undef = .pointer (some ⟨Q, 0, none⟩) := by rw [hau.out]; kernel_rfl
        have bx := BB.out.below hF.1 BB.out.lt
        obtain ⟨x0, -⟩ := bx 0 _ rfl
        obtain ⟨x1, -⟩ := bx 1 _ rfl
        obtain ⟨x2, -⟩ := bx 2 _ rfl
        obtain ⟨x3, -⟩ := bx 3 _ rfl
        clear bx
        refine step_plain rfl ?_
        go_simp
        exact hK.out (vVolume V0 V0 V0 (some ⟨bB, 0, none⟩) n cg) _ (bR_up hF (Below.refl _ _) 2 (by omega) (by omega) _) (bF_val 2 (by omega) (by omega) OY2.out ((GY2.out _).2 rfl)) (fun j hj _ h => bF_up hn1 (fun M => HPY.out M _ _ (Below.refl _ _)) (Below.refl _ _) 2 (by omega) (by omega) _ j hj h)
      · intro u w21 au hau hu hF hp' K hK
        have h2 : u 2 = vVolume V0 V0 V0 (some ⟨bB, 0, none⟩) n cg := (GY2.out _).1 (PreF.get hp' 2 (by kernel_rfl)).1
        have t54 : au.tmps[54]?.getD undef = u 2 := by rw [hau.out]; kernel_rfl
        rw [h2] at t54
        have hS : u 7 = undef := (hu.out 7 (by decide) (.inr (by kernel_rfl))).trans (by kernel_rfl)
        have c9 := cCB w21 ((RB9.out.below hF.1 (RB9.out.lt hn1)).px)
        refine step_plain rfl ?_
        go_simp
        refine c9.mono ?_
        rintro e w22 ⟨b9, c9, rfl, hr9, hB9, hb9⟩
        exact hK.out (vVolume V0 V0 V0 (some ⟨b9, 0, none⟩) n c9) _ (bR_up hF hb9 3 (by omega) (by omega) _) (bF_vol 3 (by omega) (by omega) OY3.out GY3.out hF hS hB9 hr9) (fun j hj _ h => bF_up hn1 (fun M => HPY.out M _ _ hb9) hb9 3 (by omega) (by omega) _ j hj h)
      · intro u w21 au hau hu hF hp' K hK
        have t7 : au.tmps[7]?.getD undef = .int .i64 r := by rw [hau.out]; kernel_rfl
        refine step_plain rfl ?_
        go_simp
        exact hK.out (.int .i64 r) _ (bR_up hF (Below.refl _ _) 4 (by omega) (by omega) _) (bF_val 4 (by omega) (by omega) OY4.out ((GY4.out _).2 rfl)) (fun j hj _ h => bF_up hn1 (fun M => HPY.out M _ _ (Below.refl _ _)) (Below.refl _ _) 4 (by omega) (by omega) _ j hj h)
      · intro u w21 au hau hu hF hp' K hK
        have hS : u 7 = undef := (hu.out 7 (by decide) (.inr (by kernel_rfl))).trans (by kernel_rfl)
        obtain ⟨b8, c8, g1, r8, -, -⟩ := ((PreF.get hp' 1 (by kernel_rfl)).2.1 f OY1.out).resolve_left (fun h => h hS)
        obtain ⟨b7, c7, g3, r7, -, -⟩ := ((PreF.get hp' 3 (by kernel_rfl)).2.1 f' OY3.out).resolve_left (fun h => h hS)
        have t53 : au.tmps[53]?.getD undef = u 1 := by rw [hau.out]; kernel_rfl
        rw [g1] at t53
        have t55 : au.tmps[55]?.getD undef = u 3 := by rw [hau.out]; kernel_rfl
        rw [g3] at t55
        have h4 : u 4 = .int .i64 r := (GY4.out _).1 (PreF.get hp' 4 (by kernel_rfl)).1
        have t56 : au.tmps[56]?.getD undef = u 4 := by rw [hau.out]; kernel_rfl
        rw [h4] at t56
        have cm := cMt (some ⟨b8, 0, none⟩) c8 (some ⟨b7, 0, none⟩) c7 w21 (HTB.out.below hF.1 (Nat.le_refl _)) r8.px r7.px
        refine step_plain rfl ?_
        go_simp
        refine cm.mono ?_
        rintro e w22 ⟨rfl, hb9⟩
        exact hK.out (vF ⟨T, fx, fy, fz, c⟩) _ (bR_up hF hb9 5 (by omega) (by omega) _) (bF_val 5 (by omega) (by omega) OY5.out ((GY5.out _).2 rfl)) (fun j hj _ h => bF_up hn1 (fun M => HPY.out M _ _ hb9) hb9 5 (by omega) (by omega) _ j hj h)
      · intro u w21 au hau hu hF hp' K hK
        refine step_plain rfl ?_
        go_simp
        exact hK.out (.pointer (some ⟨w21.heap.size, 0, none⟩)) _ (bR_al hF (Bx.new z5 34 w21)) (bF_ptr (by omega) GY6.out OY6.out hF.1.size) (fun j hj hf h => bF_al hn1 (by omega) _ j hj (fun e => by subst e; exact absurd (Eq.trans (Eq.symm (by kernel_rfl)) hf) Bool.false_ne_true) h)
      · intro u w21 au hau hu hF hp' K hK
        have hS : u 7 = undef := (hu.out 7 (by decide) (.inl rfl)).trans (by kernel_rfl)
        obtain ⟨M, hA, hBM⟩ := (PreF.get hp' 6 (by kernel_rfl)).2.2.1 rfl
        have hbx := (hF.2 M hA hBM).resolve_left (fun h => h hS)
        have t14 : au.tmps[14]?.getD undef = u 6 := by rw [hau.out]; kernel_rfl
        rw [hA] at t14
        have h5 : u 5 = vF ⟨T, fx, fy, fz, c⟩ := (GY5.out _).1 (PreF.get hp' 5 (by kernel_rfl)).1
        have t57 : au.tmps[57]?.getD undef = u 5 := by rw [hau.out]; kernel_rfl
        rw [h5] at t57
        obtain ⟨x0, y0⟩ := hbx 0 _ rfl
        obtain ⟨x1, y1⟩ := hbx 1 _ rfl
        obtain ⟨x2, y2⟩ := hbx 2 _ rfl
        obtain ⟨x3, y3⟩ := hbx 3 _ rfl
        obtain ⟨x4, y4⟩ := hbx 4 _ rfl
        refine step_plain rfl ?_
        go_simp
        exact hK.out (.bool true) _ (bR_st (((((hF.1.setCell (p := ⟨M, 0, none⟩) hBM _).setCell (p := ⟨M, 1, none⟩) hBM _).setCell (p := ⟨M, 2, none⟩) hBM _).setCell (p := ⟨M, 3, none⟩) hBM _).setCell (p := ⟨M, 4, none⟩) hBM _) (by simp [undef])) (bF_done (by omega) GY7.out OY7.out hA hBM (by rw [hPY]; exact hbx.to5 _ _ _ _ _)) (fun j hj _ h => bF_st (by omega) (by simp [undef]) j hj h)
    · intro u w30 hF hall
      obtain ⟨M9, hA, hBM, hp⟩ := (hall 7 (by decide)).2.2.2 rfl
      rw [hPY] at hp
      have HE9 := hide (And.intro hF.1 hp)
      clear hF hall hp hBM
      simp only [rgPut, Act.put, hA]
      clear hA
      go_simp
      go_wp2_with fail
      go_meet
      exact ⟨M9, rfl, HE9.out⟩
  case rest =>
    obtain ⟨MF, rfl, hwF, bxF⟩ := hcut
    obtain ⟨wF, hwc⟩ : ∃ wF, wF = wc := ⟨_, rfl⟩
    rw [← hwc] at hwF bxF
    rw [← hwc]
    clear hwc
    have HWF := hide hwF
    have BF := hide bxF
    clear hwF bxF
    have BA' := hide (BA.out.below HWF.out BA.out.lt)
    have BB' := hide (BB.out.below HWF.out BB.out.lt)
    have RA' := hide (RA9.out.below HWF.out (RA9.out.lt hn1))
    have RB' := hide (RB9.out.below HWF.out (RB9.out.lt hn1))
    have HW' := hide (HW.out.trans (HWF.out.mono HW.out.size))
    have HTF := hide (HTB.out.below HWF.out (Nat.le_refl _))
    clear BA BB RA9 RB9 HW HWF HTB cMt
    go_upto_region 8 with fail
    go_cut [94] (fun sl wc => sl = .bool false ∧ Below wF.heap.size wF wc)
    case first =>
      obtain ⟨H, hH⟩ : ∃ H : Nat → Value → World → Prop, H = (fun j v wx => match j with | 0 => v = .pointer (some ⟨MF, 4, none⟩) | 1 => v = .int .i64 c | 2 => v = .bool false | 3 => v = .bool false | 4 => v = .pointer (some ⟨MF, 4, none⟩) | 5 => v = .int .i64 c | 6 => v = vVolume V0 V0 V0 (some ⟨bA, 0, none⟩) n cf | 7 => ∃ b cp, v = vVolume V0 V0 V0 (some ⟨b, 0, none⟩) n cp ∧ Row b n f wx | 8 => v = vVolume V0 V0 V0 (some ⟨bB, 0, none⟩) n cg | 9 => ∃ b cp, v = vVolume V0 V0 V0 (some ⟨b, 0, none⟩) n cp ∧ Row b n f' wx | 10 => v = .pointer (some ⟨MF, 0, none⟩) | 11 => v = .int .i64 T | 12 => v = .pointer (some ⟨MF, 1, none⟩) | 13 => v = .int .i64 fx | 14 => v = .pointer (some ⟨MF, 2, none⟩) | 15 => v = .int .i64 fy | 16 => v = .pointer (some ⟨MF, 3, none⟩) | 17 => v = .int .i64 fz | 18 => v = .int .i64 c | 19 => v = .bool false | 20 => v = .bool false | 21 => v = .bool false | 22 => v = .pointer (some ⟨MF, 4, none⟩) | 23 => v = .int .i64 c | 24 => v = vVolume V0 V0 V0 (some ⟨bA, 0, none⟩) n cf | 25 => v = vVolume V0 V0 V0 (some ⟨bB, 0, none⟩) n cg | 26 => v = .pointer (some ⟨MF, 0, none⟩) | 27 => v = .int .i64 T | 28 => v = .pointer (some ⟨MF, 1, none⟩) | 29 => v = .int .i64 fx | 30 => v = .pointer (some ⟨MF, 2, none⟩) | 31 => v = .int .i64 fy | 32 => v = .pointer (some ⟨MF, 3, none⟩) | 33 => v = .int .i64 fz | 34 => v = .int .i64 c | 35 => v = .bool false | 36 => v = .bool false | _ => True) := ⟨_, rfl⟩
      have HUP : Hid (∀ (wx wy : World), Below wx.heap.size wx wy → ∀ j v, H j v wx → H j v wy) := by
        intro wx wy hb j v h
        rw [hH] at h ⊢
        match j, h with
        | 0, h => exact h
        | 1, h => exact h
        | 2, h => exact h
        | 3, h => exact h
        | 4, h => exact h
        | 5, h => exact h
        | 6, h => exact h
        | 7, h => obtain ⟨b, cp, e, hr⟩ := h; exact ⟨b, cp, e, hr.below hb (hr.lt hn1)⟩
        | 8, h => exact h
        | 9, h => obtain ⟨b, cp, e, hr⟩ := h; exact ⟨b, cp, e, hr.below hb (hr.lt hn1)⟩
        | 10, h => exact h
        | 11, h => exact h
        | 12, h => exact h
        | 13, h => exact h
        | 14, h => exact h
        | 15, h => exact h
        | 16, h => exact h
        | 17, h => exact h
        | 18, h => exact h
        | 19, h => exact h
        | 20, h => exact h
        | 21, h => exact h
        | 22, h => exact h
        | 23, h => exact h
        | 24, h => exact h
        | 25, h => exact h
        | 26, h => exact h
        | 27, h => exact h
        | 28, h => exact h
        | 29, h => exact h
        | 30, h => exact h
        | 31, h => exact h
        | 32, h => exact h
        | 33, h => exact h
        | 34, h => exact h
        | 35, h => exact h
        | 36, h => exact h
        | _ + 37, _ => trivial
      have H0 : Hid (∀ v wx, H 0 v wx ↔ v = .pointer (some ⟨MF, 4, none⟩)) := fun v wx => by rw [hH]; exact Iff.rfl
      have H1 : Hid (∀ v wx, H 1 v wx ↔ v = .int .i64 c) := fun v wx => by rw [hH]; exact Iff.rfl
      have H2 : Hid (∀ v wx, H 2 v wx ↔ v = .bool false) := fun v wx => by rw [hH]; exact Iff.rfl
      have H3 : Hid (∀ v wx, H 3 v wx ↔ v = .bool false) := fun v wx => by rw [hH]; exact Iff.rfl
      have H4 : Hid (∀ v wx, H 4 v wx ↔ v = .pointer (some ⟨MF, 4, none⟩)) := fun v wx => by rw [hH]; exact Iff.rfl
      have H5 : Hid (∀ v wx, H 5 v wx ↔ v = .int .i64 c) := fun v wx => by rw [hH]; exact Iff.rfl
      have H6 : Hid (∀ v wx, H 6 v wx ↔ v = vVolume V0 V0 V0 (some ⟨bA, 0, none⟩) n cf) := fun v wx => by rw [hH]; exact Iff.rfl
      have H7 : Hid (∀ v wx, H 7 v wx ↔ ∃ b cp, v = vVolume V0 V0 V0 (some ⟨b, 0, none⟩) n cp ∧ Row b n f wx) := fun v wx => by rw [hH]; exact Iff.rfl
      have H8 : Hid (∀ v wx, H 8 v wx ↔ v = vVolume V0 V0 V0 (some ⟨bB, 0, none⟩) n cg) := fun v wx => by rw [hH]; exact Iff.rfl
      have H9 : Hid (∀ v wx, H 9 v wx ↔ ∃ b cp, v = vVolume V0 V0 V0 (some ⟨b, 0, none⟩) n cp ∧ Row b n f' wx) := fun v wx => by rw [hH]; exact Iff.rfl
      have H10 : Hid (∀ v wx, H 10 v wx ↔ v = .pointer (some ⟨MF, 0, none⟩)) := fun v wx => by rw [hH]; exact Iff.rfl
      have H11 : Hid (∀ v wx, H 11 v wx ↔ v = .int .i64 T) := fun v wx => by rw [hH]; exact Iff.rfl
      have H12 : Hid (∀ v wx, H 12 v wx ↔ v = .pointer (some ⟨MF, 1, none⟩)) := fun v wx => by rw [hH]; exact Iff.rfl
      have H13 : Hid (∀ v wx, H 13 v wx ↔ v = .int .i64 fx) := fun v wx => by rw [hH]; exact Iff.rfl
      have H14 : Hid (∀ v wx, H 14 v wx ↔ v = .pointer (some ⟨MF, 2, none⟩)) := fun v wx => by rw [hH]; exact Iff.rfl
      have H15 : Hid (∀ v wx, H 15 v wx ↔ v = .int .i64 fy) := fun v wx => by rw [hH]; exact Iff.rfl
      have H16 : Hid (∀ v wx, H 16 v wx ↔ v = .pointer (some ⟨MF, 3, none⟩)) := fun v wx => by rw [hH]; exact Iff.rfl
      have H17 : Hid (∀ v wx, H 17 v wx ↔ v = .int .i64 fz) := fun v wx => by rw [hH]; exact Iff.rfl
      have H18 : Hid (∀ v wx, H 18 v wx ↔ v = .int .i64 c) := fun v wx => by rw [hH]; exact Iff.rfl
      have H19 : Hid (∀ v wx, H 19 v wx ↔ v = .bool false) := fun v wx => by rw [hH]; exact Iff.rfl
      have H20 : Hid (∀ v wx, H 20 v wx ↔ v = .bool false) := fun v wx => by rw [hH]; exact Iff.rfl
      have H21 : Hid (∀ v wx, H 21 v wx ↔ v = .bool false) := fun v wx => by rw [hH]; exact Iff.rfl
      have H22 : Hid (∀ v wx, H 22 v wx ↔ v = .pointer (some ⟨MF, 4, none⟩)) := fun v wx => by rw [hH]; exact Iff.rfl
      have H23 : Hid (∀ v wx, H 23 v wx ↔ v = .int .i64 c) := fun v wx => by rw [hH]; exact Iff.rfl
      have H24 : Hid (∀ v wx, H 24 v wx ↔ v = vVolume V0 V0 V0 (some ⟨bA, 0, none⟩) n cf) := fun v wx => by rw [hH]; exact Iff.rfl
      have H25 : Hid (∀ v wx, H 25 v wx ↔ v = vVolume V0 V0 V0 (some ⟨bB, 0, none⟩) n cg) := fun v wx => by rw [hH]; exact Iff.rfl
      have H26 : Hid (∀ v wx, H 26 v wx ↔ v = .pointer (some ⟨MF, 0, none⟩)) := fun v wx => by rw [hH]; exact Iff.rfl
      have H27 : Hid (∀ v wx, H 27 v wx ↔ v = .int .i64 T) := fun v wx => by rw [hH]; exact Iff.rfl
      have H28 : Hid (∀ v wx, H 28 v wx ↔ v = .pointer (some ⟨MF, 1, none⟩)) := fun v wx => by rw [hH]; exact Iff.rfl
      have H29 : Hid (∀ v wx, H 29 v wx ↔ v = .int .i64 fx) := fun v wx => by rw [hH]; exact Iff.rfl
      have H30 : Hid (∀ v wx, H 30 v wx ↔ v = .pointer (some ⟨MF, 2, none⟩)) := fun v wx => by rw [hH]; exact Iff.rfl
      have H31 : Hid (∀ v wx, H 31 v wx ↔ v = .int .i64 fy) := fun v wx => by rw [hH]; exact Iff.rfl
      have H32 : Hid (∀ v wx, H 32 v wx ↔ v = .pointer (some ⟨MF, 3, none⟩)) := fun v wx => by rw [hH]; exact Iff.rfl
      have H33 : Hid (∀ v wx, H 33 v wx ↔ v = .int .i64 fz) := fun v wx => by rw [hH]; exact Iff.rfl
      have H34 : Hid (∀ v wx, H 34 v wx ↔ v = .int .i64 c) := fun v wx => by rw [hH]; exact Iff.rfl
      have H35 : Hid (∀ v wx, H 35 v wx ↔ v = .bool false) := fun v wx => by rw [hH]; exact Iff.rfl
      have H36 : Hid (∀ v wx, H 36 v wx ↔ v = .bool false) := fun v wx => by rw [hH]; exact Iff.rfl
      clear hH
      have hcn : ¬ c < 0 := by omega
      have hcc : (c != c) = false := by simp
      refine region_ops (fun w' => Below wF.heap.size wF w') (hF H) (by kernel_rfl) (by kernel_rfl) (by kernel_rfl) (Below.refl _ _).drew ?_ ?_
      · refine ⟨?_, ?_, ?_, ?_, ?_, ?_, ?_, ?_, ?_, ?_, ?_, ?_, ?_, ?_, ?_, ?_, ?_, ?_, ?_, ?_, ?_, ?_, ?_, ?_, ?_, ?_, ?_, ?_, ?_, ?_, ?_, ?_, ?_, ?_, ?_, ?_, ?_, trivial⟩
        · intro u w21 au hau hu hF' hp' K hK
          have t14 : au.tmps[14]?.getD undef = .pointer (some ⟨MF, 0, none⟩) := by rw [hau.out]; kernel_rfl
          refine step_plain rfl ?_
          go_simp
          exact hK.out (.pointer (some ⟨MF, 4, none⟩)) _ hF' (hF_val 0 ((H0.out _ _).2 rfl)) (fun j hj _ h => hF_up (HUP.out _ _ (Below.refl _ _)) 0 _ j hj h)
        · intro u w21 au hau hu hF' hp' K hK
          have h0 : u 0 = .pointer (some ⟨MF, 4, none⟩) := (H0.out _ _).1 (PreF.get hp' 0 (by kernel_rfl))
          have t58 : au.tmps[58]?.getD undef = u 0 := by rw [hau.out]; kernel_rfl
          rw [h0] at t58
          have bx := BF.out.below hF' BF.out.lt
          obtain ⟨x0, -⟩ := bx 4 _ rfl
          clear bx
          refine step_plain rfl ?_
          go_simp
          exact hK.out (.int .i64 c) _ hF' (hF_val 1 ((H1.out _ _).2 rfl)) (fun j hj _ h => hF_up (HUP.out _ _ (Below.refl _ _)) 1 _ j hj h)
        · intro u w21 au hau hu hF' hp' K hK
          have h1 : u 1 = .int .i64 c := (H1.out _ _).1 (PreF.get hp' 1 (by kernel_rfl))
          have t59 : au.tmps[59]?.getD undef = u 1 := by rw [hau.out]; kernel_rfl
          rw [h1] at t59
          refine step_plain rfl ?_
          go_simp
          exact hK.out (.bool false) _ hF' (hF_val 2 ((H2.out _ _).2 rfl)) (fun j hj _ h => hF_up (HUP.out _ _ (Below.refl _ _)) 2 _ j hj h)
        · intro u w21 au hau hu hF' hp' K hK
          have h2 : u 2 = .bool false := (H2.out _ _).1 (PreF.get hp' 2 (by kernel_rfl))
          have t60 : au.tmps[60]?.getD undef = u 2 := by rw [hau.out]; kernel_rfl
          rw [h2] at t60
          refine step_plain rfl ?_
          go_simp
          exact hK.out (.bool false) _ hF' (hF_val 3 ((H3.out _ _).2 rfl)) (fun j hj _ h => hF_up (HUP.out _ _ (Below.refl _ _)) 3 _ j hj h)
        · intro u w21 au hau hu hF' hp' K hK
          have t14 : au.tmps[14]?.getD undef = .pointer (some ⟨MF, 0, none⟩) := by rw [hau.out]; kernel_rfl
          have hg : u 3 = .bool false := (H3.out _ _).1 (PreF.get hp' 3 (by kernel_rfl))
          have tg : au.tmps[61]?.getD undef = u 3 := by rw [hau.out]; kernel_rfl
          rw [hg] at tg
          have hs : 61 < au.tmps.size := by rw [hau.out]; exact of_decide_eq_true (by kernel_rfl)
          refine step_guard rfl rfl rfl hs tg ?_
          clear tg hs hg
          go_simp
          exact hK.out (.pointer (some ⟨MF, 4, none⟩)) _ hF' (hF_val 4 ((H4.out _ _).2 rfl)) (fun j hj _ h => hF_up (HUP.out _ _ (Below.refl _ _)) 4 _ j hj h)
        · intro u w21 au hau hu hF' hp' K hK
          have h4 : u 4 = .pointer (some ⟨MF, 4, none⟩) := (H4.out _ _).1 (PreF.get hp' 4 (by kernel_rfl))
          have t62 : au.tmps[62]?.getD undef = u 4 := by rw [hau.out]; kernel_rfl
          rw [h4] at t62
          have bx := BF.out.below hF' BF.out.lt
          obtain ⟨x0, -⟩ := bx 4 _ rfl
          clear bx
          have hg : u 3 = .bool false := (H3.out _ _).1 (PreF.get hp' 3 (by kernel_rfl))
          have tg : au.tmps[61]?.getD undef = u 3 := by rw [hau.out]; kernel_rfl
          rw [hg] at tg
          have hs : 61 < au.tmps.size := by rw [hau.out]; exact of_decide_eq_true (by kernel_rfl)
          refine step_guard rfl rfl rfl hs tg ?_
          clear tg hs hg
          go_simp
          exact hK.out (.int .i64 c) _ hF' (hF_val 5 ((H5.out _ _).2 rfl)) (fun j hj _ h => hF_up (HUP.out _ _ (Below.refl _ _)) 5 _ j hj h)
        · intro u w21 au hau hu hF' hp' K hK
          have t5 : au.tmps[5]?.getD undef = .pointer (some ⟨P, 0, none⟩) := by rw [hau.out]; kernel_rfl
          have bx := BA'.out.below hF' BA'.out.lt
          obtain ⟨x0, -⟩ := bx 0 _ rfl
          obtain ⟨x1, -⟩ := bx 1 _ rfl
          obtain ⟨x2, -⟩ := bx 2 _ rfl
          obtain ⟨x3, -⟩ := bx 3 _ rfl
          clear bx
          have hg : u 3 = .bool false := (H3.out _ _).1 (PreF.get hp' 3 (by kernel_rfl))
          have tg : au.tmps[61]?.getD undef = u 3 := by rw [hau.out]; kernel_rfl
          rw [hg] at tg
          have hs : 61 < au.tmps.size := by rw [hau.out]; exact of_decide_eq_true (by kernel_rfl)
          refine step_guard rfl rfl rfl hs tg ?_
          clear tg hs hg
          go_simp
          exact hK.out (vVolume V0 V0 V0 (some ⟨bA, 0, none⟩) n cf) _ hF' (hF_val 6 ((H6.out _ _).2 rfl)) (fun j hj _ h => hF_up (HUP.out _ _ (Below.refl _ _)) 6 _ j hj h)
        · intro u w21 au hau hu hF' hp' K hK
          have h6 : u 6 = vVolume V0 V0 V0 (some ⟨bA, 0, none⟩) n cf := (H6.out _ _).1 (PreF.get hp' 6 (by kernel_rfl))
          have t64 : au.tmps[64]?.getD undef = u 6 := by rw [hau.out]; kernel_rfl
          rw [h6] at t64
          have c9 := cCA w21 ((RA'.out.below hF' (RA'.out.lt hn1)).px)
          have hg : u 3 = .bool false := (H3.out _ _).1 (PreF.get hp' 3 (by kernel_rfl))
          have tg : au.tmps[61]?.getD undef = u 3 := by rw [hau.out]; kernel_rfl
          rw [hg] at tg
          have hs : 61 < au.tmps.size := by rw [hau.out]; exact of_decide_eq_true (by kernel_rfl)
          refine step_guard rfl rfl rfl hs tg ?_
          clear tg hs hg
          go_simp
          refine c9.mono ?_
          rintro e w22 ⟨b9, c9, rfl, hr9, hB9, hb9⟩
          exact hK.out (vVolume V0 V0 V0 (some ⟨b9, 0, none⟩) n c9) _ (hF'.trans (hb9.mono hF'.size)) (hF_val 7 ((H7.out _ _).2 ⟨b9, c9, rfl, hr9⟩)) (fun j hj _ h => hF_up (HUP.out _ _ hb9) 7 _ j hj h)
        · intro u w21 au hau hu hF' hp' K hK
          have t6 : au.tmps[6]?.getD undef = .pointer (some ⟨Q, 0, none⟩) := by rw [hau.out]; kernel_rfl
          have bx := BB'.out.below hF' BB'.out.lt
          obtain ⟨x0, -⟩ := bx 0 _ rfl
          obtain ⟨x1, -⟩ := bx 1 _ rfl
          obtain ⟨x2, -⟩ := bx 2 _ rfl
          obtain ⟨x3, -⟩ := bx 3 _ rfl
          clear bx
          have hg : u 3 = .bool false := (H3.out _ _).1 (PreF.get hp' 3 (by kernel_rfl))
          have tg : au.tmps[61]?.getD undef = u 3 := by rw [hau.out]; kernel_rfl
          rw [hg] at tg
          have hs : 61 < au.tmps.size := by rw [hau.out]; exact of_decide_eq_true (by kernel_rfl)
          refine step_guard rfl rfl rfl hs tg ?_
          clear tg hs hg
          go_simp
          exact hK.out (vVolume V0 V0 V0 (some ⟨bB, 0, none⟩) n cg) _ hF' (hF_val 8 ((H8.out _ _).2 rfl)) (fun j hj _ h => hF_up (HUP.out _ _ (Below.refl _ _)) 8 _ j hj h)
        · intro u w21 au hau hu hF' hp' K hK
          have h8 : u 8 = vVolume V0 V0 V0 (some ⟨bB, 0, none⟩) n cg := (H8.out _ _).1 (PreF.get hp' 8 (by kernel_rfl))
          have t66 : au.tmps[66]?.getD undef = u 8 := by rw [hau.out]; kernel_rfl
          rw [h8] at t66
          have c9 := cCB w21 ((RB'.out.below hF' (RB'.out.lt hn1)).px)
          have hg : u 3 = .bool false := (H3.out _ _).1 (PreF.get hp' 3 (by kernel_rfl))
          have tg : au.tmps[61]?.getD undef = u 3 := by rw [hau.out]; kernel_rfl
          rw [hg] at tg
          have hs : 61 < au.tmps.size := by rw [hau.out]; exact of_decide_eq_true (by kernel_rfl)
          refine step_guard rfl rfl rfl hs tg ?_
          clear tg hs hg
          go_simp
          refine c9.mono ?_
          rintro e w22 ⟨b9, c9, rfl, hr9, hB9, hb9⟩
          exact hK.out (vVolume V0 V0 V0 (some ⟨b9, 0, none⟩) n c9) _ (hF'.trans (hb9.mono hF'.size)) (hF_val 9 ((H9.out _ _).2 ⟨b9, c9, rfl, hr9⟩)) (fun j hj _ h => hF_up (HUP.out _ _ hb9) 9 _ j hj h)
        · intro u w21 au hau hu hF' hp' K hK
          have t14 : au.tmps[14]?.getD undef = .pointer (some ⟨MF, 0, none⟩) := by rw [hau.out]; kernel_rfl
          have hg : u 3 = .bool false := (H3.out _ _).1 (PreF.get hp' 3 (by kernel_rfl))
          have tg : au.tmps[61]?.getD undef = u 3 := by rw [hau.out]; kernel_rfl
          rw [hg] at tg
          have hs : 61 < au.tmps.size := by rw [hau.out]; exact of_decide_eq_true (by kernel_rfl)
          refine step_guard rfl rfl rfl hs tg ?_
          clear tg hs hg
          go_simp
          exact hK.out (.pointer (some ⟨MF, 0, none⟩)) _ hF' (hF_val 10 ((H10.out _ _).2 rfl)) (fun j hj _ h => hF_up (HUP.out _ _ (Below.refl _ _)) 10 _ j hj h)
        · intro u w21 au hau hu hF' hp' K hK
          have h10 : u 10 = .pointer (some ⟨MF, 0, none⟩) := (H10.out _ _).1 (PreF.get hp' 10 (by kernel_rfl))
          have t68 : au.tmps[68]?.getD undef = u 10 := by rw [hau.out]; kernel_rfl
          rw [h10] at t68
          have bx := BF.out.below hF' BF.out.lt
          obtain ⟨x0, -⟩ := bx 0 _ rfl
          clear bx
          have hg : u 3 = .bool false := (H3.out _ _).1 (PreF.get hp' 3 (by kernel_rfl))
          have tg : au.tmps[61]?.getD undef = u 3 := by rw [hau.out]; kernel_rfl
          rw [hg] at tg
          have hs : 61 < au.tmps.size := by rw [hau.out]; exact of_decide_eq_true (by kernel_rfl)
          refine step_guard rfl rfl rfl hs tg ?_
          clear tg hs hg
          go_simp
          exact hK.out (.int .i64 T) _ hF' (hF_val 11 ((H11.out _ _).2 rfl)) (fun j hj _ h => hF_up (HUP.out _ _ (Below.refl _ _)) 11 _ j hj h)
        · intro u w21 au hau hu hF' hp' K hK
          have t14 : au.tmps[14]?.getD undef = .pointer (some ⟨MF, 0, none⟩) := by rw [hau.out]; kernel_rfl
          have hg : u 3 = .bool false := (H3.out _ _).1 (PreF.get hp' 3 (by kernel_rfl))
          have tg : au.tmps[61]?.getD undef = u 3 := by rw [hau.out]; kernel_rfl
          rw [hg] at tg
          have hs : 61 < au.tmps.size := by rw [hau.out]; exact of_decide_eq_true (by kernel_rfl)
          refine step_guard rfl rfl rfl hs tg ?_
          clear tg hs hg
          go_simp
          exact hK.out (.pointer (some ⟨MF, 1, none⟩)) _ hF' (hF_val 12 ((H12.out _ _).2 rfl)) (fun j hj _ h => hF_up (HUP.out _ _ (Below.refl _ _)) 12 _ j hj h)
        · intro u w21 au hau hu hF' hp' K hK
          have h12 : u 12 = .pointer (some ⟨MF, 1, none⟩) := (H12.out _ _).1 (PreF.get hp' 12 (by kernel_rfl))
          have t70 : au.tmps[70]?.getD undef = u 12 := by rw [hau.out]; kernel_rfl
          rw [h12] at t70
          have bx := BF.out.below hF' BF.out.lt
          obtain ⟨x0, -⟩ := bx 1 _ rfl
          clear bx
          have hg : u 3 = .bool false := (H3.out _ _).1 (PreF.get hp' 3 (by kernel_rfl))
          have tg : au.tmps[61]?.getD undef = u 3 := by rw [hau.out]; kernel_rfl
          rw [hg] at tg
          have hs : 61 < au.tmps.size := by rw [hau.out]; exact of_decide_eq_true (by kernel_rfl)
          refine step_guard rfl rfl rfl hs tg ?_
          clear tg hs hg
          go_simp
          exact hK.out (.int .i64 fx) _ hF' (hF_val 13 ((H13.out _ _).2 rfl)) (fun j hj _ h => hF_up (HUP.out _ _ (Below.refl _ _)) 13 _ j hj h)
        · intro u w21 au hau hu hF' hp' K hK
          have t14 : au.tmps[14]?.getD undef = .pointer (some ⟨MF, 0, none⟩) := by rw [hau.out]; kernel_rfl
          have hg : u 3 = .bool false := (H3.out _ _).1 (PreF.get hp' 3 (by kernel_rfl))
          have tg : au.tmps[61]?.getD undef = u 3 := by rw [hau.out]; kernel_rfl
          rw [hg] at tg
          have hs : 61 < au.tmps.size := by rw [hau.out]; exact of_decide_eq_true (by kernel_rfl)
          refine step_guard rfl rfl rfl hs tg ?_
          clear tg hs hg
          go_simp
          exact hK.out (.pointer (some ⟨MF, 2, none⟩)) _ hF' (hF_val 14 ((H14.out _ _).2 rfl)) (fun j hj _ h => hF_up (HUP.out _ _ (Below.refl _ _)) 14 _ j hj h)
        · intro u w21 au hau hu hF' hp' K hK
          have h14 : u 14 = .pointer (some ⟨MF, 2, none⟩) := (H14.out _ _).1 (PreF.get hp' 14 (by kernel_rfl))
          have t72 : au.tmps[72]?.getD undef = u 14 := by rw [hau.out]; kernel_rfl
          rw [h14] at t72
          have bx := BF.out.below hF' BF.out.lt
          obtain ⟨x0, -⟩ := bx 2 _ rfl
          clear bx
          have hg : u 3 = .bool false := (H3.out _ _).1 (PreF.get hp' 3 (by kernel_rfl))
          have tg : au.tmps[61]?.getD undef = u 3 := by rw [hau.out]; kernel_rfl
          rw [hg] at tg
          have hs : 61 < au.tmps.size := by rw [hau.out]; exact of_decide_eq_true (by kernel_rfl)
          refine step_guard rfl rfl rfl hs tg ?_
          clear tg hs hg
          go_simp
          exact hK.out (.int .i64 fy) _ hF' (hF_val 15 ((H15.out _ _).2 rfl)) (fun j hj _ h => hF_up (HUP.out _ _ (Below.refl _ _)) 15 _ j hj h)
        · intro u w21 au hau hu hF' hp' K hK
          have t14 : au.tmps[14]?.getD undef = .pointer (some ⟨MF, 0, none⟩) := by rw [hau.out]; kernel_rfl
          have hg : u 3 = .bool false := (H3.out _ _).1 (PreF.get hp' 3 (by kernel_rfl))
          have tg : au.tmps[61]?.getD undef = u 3 := by rw [hau.out]; kernel_rfl
          rw [hg] at tg
          have hs : 61 < au.tmps.size := by rw [hau.out]; exact of_decide_eq_true (by kernel_rfl)
          refine step_guard rfl rfl rfl hs tg ?_
          clear tg hs hg
          go_simp
          exact hK.out (.pointer (some ⟨MF, 3, none⟩)) _ hF' (hF_val 16 ((H16.out _ _).2 rfl)) (fun j hj _ h => hF_up (HUP.out _ _ (Below.refl _ _)) 16 _ j hj h)
        · intro u w21 au hau hu hF' hp' K hK
          have h16 : u 16 = .pointer (some ⟨MF, 3, none⟩) := (H16.out _ _).1 (PreF.get hp' 16 (by kernel_rfl))
          have t74 : au.tmps[74]?.getD undef = u 16 := by rw [hau.out]; kernel_rfl
          rw [h16] at t74
          have bx := BF.out.below hF' BF.out.lt
          obtain ⟨x0, -⟩ := bx 3 _ rfl
          clear bx
          have hg : u 3 = .bool false := (H3.out _ _).1 (PreF.get hp' 3 (by kernel_rfl))
          have tg : au.tmps[61]?.getD undef = u 3 := by rw [hau.out]; kernel_rfl
          rw [hg] at tg
          have hs : 61 < au.tmps.size := by rw [hau.out]; exact of_decide_eq_true (by kernel_rfl)
          refine step_guard rfl rfl rfl hs tg ?_
          clear tg hs hg
          go_simp
          exact hK.out (.int .i64 fz) _ hF' (hF_val 17 ((H17.out _ _).2 rfl)) (fun j hj _ h => hF_up (HUP.out _ _ (Below.refl _ _)) 17 _ j hj h)
        · intro u w21 au hau hu hF' hp' K hK
          obtain ⟨b8, c8, h7, r8⟩ := (H7.out _ _).1 (PreF.get hp' 7 (by kernel_rfl))
          have t65 : au.tmps[65]?.getD undef = u 7 := by rw [hau.out]; kernel_rfl
          rw [h7] at t65
          obtain ⟨b7, c7, h9, r7⟩ := (H9.out _ _).1 (PreF.get hp' 9 (by kernel_rfl))
          have t67 : au.tmps[67]?.getD undef = u 9 := by rw [hau.out]; kernel_rfl
          rw [h9] at t67
          have h11 : u 11 = .int .i64 T := (H11.out _ _).1 (PreF.get hp' 11 (by kernel_rfl))
          have t69 : au.tmps[69]?.getD undef = u 11 := by rw [hau.out]; kernel_rfl
          rw [h11] at t69
          have h13 : u 13 = .int .i64 fx := (H13.out _ _).1 (PreF.get hp' 13 (by kernel_rfl))
          have t71 : au.tmps[71]?.getD undef = u 13 := by rw [hau.out]; kernel_rfl
          rw [h13] at t71
          have h15 : u 15 = .int .i64 fy := (H15.out _ _).1 (PreF.get hp' 15 (by kernel_rfl))
          have t73 : au.tmps[73]?.getD undef = u 15 := by rw [hau.out]; kernel_rfl
          rw [h15] at t73
          have h17 : u 17 = .int .i64 fz := (H17.out _ _).1 (PreF.get hp' 17 (by kernel_rfl))
          have t75 : au.tmps[75]?.getD undef = u 17 := by rw [hau.out]; kernel_rfl
          rw [h17] at t75
          have cm := cFi (some ⟨b8, 0, none⟩) c8 (some ⟨b7, 0, none⟩) c7 w21 (HTF.out.below hF' (Nat.le_refl _)) r8.px r7.px
          have hg : u 3 = .bool false := (H3.out _ _).1 (PreF.get hp' 3 (by kernel_rfl))
          have tg : au.tmps[61]?.getD undef = u 3 := by rw [hau.out]; kernel_rfl
          rw [hg] at tg
          have hs : 61 < au.tmps.size := by rw [hau.out]; exact of_decide_eq_true (by kernel_rfl)
          refine step_guard rfl rfl rfl hs tg ?_
          clear tg hs hg
          go_simp
          refine cm.mono ?_
          rintro e w22 ⟨rfl, hb9⟩
          exact hK.out (.int .i64 c) _ (hF'.trans (hb9.mono hF'.size)) (hF_val 18 ((H18.out _ _).2 rfl)) (fun j hj _ h => hF_up (HUP.out _ _ hb9) 18 _ j hj h)
        · intro u w21 au hau hu hF' hp' K hK
          have h5 : u 5 = .int .i64 c := (H5.out _ _).1 (PreF.get hp' 5 (by kernel_rfl))
          have t63 : au.tmps[63]?.getD undef = u 5 := by rw [hau.out]; kernel_rfl
          rw [h5] at t63
          have h18 : u 18 = .int .i64 c := (H18.out _ _).1 (PreF.get hp' 18 (by kernel_rfl))
          have t76 : au.tmps[76]?.getD undef = u 18 := by rw [hau.out]; kernel_rfl
          rw [h18] at t76
          have hg : u 3 = .bool false := (H3.out _ _).1 (PreF.get hp' 3 (by kernel_rfl))
          have tg : au.tmps[61]?.getD undef = u 3 := by rw [hau.out]; kernel_rfl
          rw [hg] at tg
          have hs : 61 < au.tmps.size := by rw [hau.out]; exact of_decide_eq_true (by kernel_rfl)
          refine step_guard rfl rfl rfl hs tg ?_
          clear tg hs hg
          go_simp
          exact hK.out (.bool false) _ hF' (hF_val 19 ((H19.out _ _).2 rfl)) (fun j hj _ h => hF_up (HUP.out _ _ (Below.refl _ _)) 19 _ j hj h)
        · intro u w21 au hau hu hF' hp' K hK
          have h3 : u 3 = .bool false := (H3.out _ _).1 (PreF.get hp' 3 (by kernel_rfl))
          have t61 : au.tmps[61]?.getD undef = u 3 := by rw [hau.out]; kernel_rfl
          rw [h3] at t61
          have h19 : u 19 = .bool false := (H19.out _ _).1 (PreF.get hp' 19 (by kernel_rfl))
          have t77 : au.tmps[77]?.getD undef = u 19 := by rw [hau.out]; kernel_rfl
          rw [h19] at t77
          refine step_plain rfl ?_
          go_simp
          exact hK.out (.bool false) _ hF' (hF_val 20 ((H20.out _ _).2 rfl)) (fun j hj _ h => hF_up (HUP.out _ _ (Below.refl _ _)) 20 _ j hj h)
        · intro u w21 au hau hu hF' hp' K hK
          have h20 : u 20 = .bool false := (H20.out _ _).1 (PreF.get hp' 20 (by kernel_rfl))
          have t78 : au.tmps[78]?.getD undef = u 20 := by rw [hau.out]; kernel_rfl
          rw [h20] at t78
          refine step_plain rfl ?_
          go_simp
          exact hK.out (.bool false) _ hF' (hF_val 21 ((H21.out _ _).2 rfl)) (fun j hj _ h => hF_up (HUP.out _ _ (Below.refl _ _)) 21 _ j hj h)
        · intro u w21 au hau hu hF' hp' K hK
          have t14 : au.tmps[14]?.getD undef = .pointer (some ⟨MF, 0, none⟩) := by rw [hau.out]; kernel_rfl
          have hg : u 21 = .bool false := (H21.out _ _).1 (PreF.get hp' 21 (by kernel_rfl))
          have tg : au.tmps[79]?.getD undef = u 21 := by rw [hau.out]; kernel_rfl
          rw [hg] at tg
          have hs : 79 < au.tmps.size := by rw [hau.out]; exact of_decide_eq_true (by kernel_rfl)
          refine step_guard rfl rfl rfl hs tg ?_
          clear tg hs hg
          go_simp
          exact hK.out (.pointer (some ⟨MF, 4, none⟩)) _ hF' (hF_val 22 ((H22.out _ _).2 rfl)) (fun j hj _ h => hF_up (HUP.out _ _ (Below.refl _ _)) 22 _ j hj h)
        · intro u w21 au hau hu hF' hp' K hK
          have h22 : u 22 = .pointer (some ⟨MF, 4, none⟩) := (H22.out _ _).1 (PreF.get hp' 22 (by kernel_rfl))
          have t80 : au.tmps[80]?.getD undef = u 22 := by rw [hau.out]; kernel_rfl
          rw [h22] at t80
          have bx := BF.out.below hF' BF.out.lt
          obtain ⟨x0, -⟩ := bx 4 _ rfl
          clear bx
          have hg : u 21 = .bool false := (H21.out _ _).1 (PreF.get hp' 21 (by kernel_rfl))
          have tg : au.tmps[79]?.getD undef = u 21 := by rw [hau.out]; kernel_rfl
          rw [hg] at tg
          have hs : 79 < au.tmps.size := by rw [hau.out]; exact of_decide_eq_true (by kernel_rfl)
          refine step_guard rfl rfl rfl hs tg ?_
          clear tg hs hg
          go_simp
          exact hK.out (.int .i64 c) _ hF' (hF_val 23 ((H23.out _ _).2 rfl)) (fun j hj _ h => hF_up (HUP.out _ _ (Below.refl _ _)) 23 _ j hj h)
        · intro u w21 au hau hu hF' hp' K hK
          have t5 : au.tmps[5]?.getD undef = .pointer (some ⟨P, 0, none⟩) := by rw [hau.out]; kernel_rfl
          have bx := BA'.out.below hF' BA'.out.lt
          obtain ⟨x0, -⟩ := bx 0 _ rfl
          obtain ⟨x1, -⟩ := bx 1 _ rfl
          obtain ⟨x2, -⟩ := bx 2 _ rfl
          obtain ⟨x3, -⟩ := bx 3 _ rfl
          clear bx
          have hg : u 21 = .bool false := (H21.out _ _).1 (PreF.get hp' 21 (by kernel_rfl))
          have tg : au.tmps[79]?.getD undef = u 21 := by rw [hau.out]; kernel_rfl
          rw [hg] at tg
          have hs : 79 < au.tmps.size := by rw [hau.out]; exact of_decide_eq_true (by kernel_rfl)
          refine step_guard rfl rfl rfl hs tg ?_
          clear tg hs hg
          go_simp
          exact hK.out (vVolume V0 V0 V0 (some ⟨bA, 0, none⟩) n cf) _ hF' (hF_val 24 ((H24.out _ _).2 rfl)) (fun j hj _ h => hF_up (HUP.out _ _ (Below.refl _ _)) 24 _ j hj h)
        · intro u w21 au hau hu hF' hp' K hK
          have t6 : au.tmps[6]?.getD undef = .pointer (some ⟨Q, 0, none⟩) := by rw [hau.out]; kernel_rfl
          have bx := BB'.out.below hF' BB'.out.lt
          obtain ⟨x0, -⟩ := bx 0 _ rfl
          obtain ⟨x1, -⟩ := bx 1 _ rfl
          obtain ⟨x2, -⟩ := bx 2 _ rfl
          obtain ⟨x3, -⟩ := bx 3 _ rfl
          clear bx
          have hg : u 21 = .bool false := (H21.out _ _).1 (PreF.get hp' 21 (by kernel_rfl))
          have tg : au.tmps[79]?.getD undef = u 21 := by rw [hau.out]; kernel_rfl
          rw [hg] at tg
          have hs : 79 < au.tmps.size := by rw [hau.out]; exact of_decide_eq_true (by kernel_rfl)
          refine step_guard rfl rfl rfl hs tg ?_
          clear tg hs hg
          go_simp
          exact hK.out (vVolume V0 V0 V0 (some ⟨bB, 0, none⟩) n cg) _ hF' (hF_val 25 ((H25.out _ _).2 rfl)) (fun j hj _ h => hF_up (HUP.out _ _ (Below.refl _ _)) 25 _ j hj h)
        · intro u w21 au hau hu hF' hp' K hK
          have t14 : au.tmps[14]?.getD undef = .pointer (some ⟨MF, 0, none⟩) := by rw [hau.out]; kernel_rfl
          have hg : u 21 = .bool false := (H21.out _ _).1 (PreF.get hp' 21 (by kernel_rfl))
          have tg : au.tmps[79]?.getD undef = u 21 := by rw [hau.out]; kernel_rfl
          rw [hg] at tg
          have hs : 79 < au.tmps.size := by rw [hau.out]; exact of_decide_eq_true (by kernel_rfl)
          refine step_guard rfl rfl rfl hs tg ?_
          clear tg hs hg
          go_simp
          exact hK.out (.pointer (some ⟨MF, 0, none⟩)) _ hF' (hF_val 26 ((H26.out _ _).2 rfl)) (fun j hj _ h => hF_up (HUP.out _ _ (Below.refl _ _)) 26 _ j hj h)
        · intro u w21 au hau hu hF' hp' K hK
          have h26 : u 26 = .pointer (some ⟨MF, 0, none⟩) := (H26.out _ _).1 (PreF.get hp' 26 (by kernel_rfl))
          have t84 : au.tmps[84]?.getD undef = u 26 := by rw [hau.out]; kernel_rfl
          rw [h26] at t84
          have bx := BF.out.below hF' BF.out.lt
          obtain ⟨x0, -⟩ := bx 0 _ rfl
          clear bx
          have hg : u 21 = .bool false := (H21.out _ _).1 (PreF.get hp' 21 (by kernel_rfl))
          have tg : au.tmps[79]?.getD undef = u 21 := by rw [hau.out]; kernel_rfl
          rw [hg] at tg
          have hs : 79 < au.tmps.size := by rw [hau.out]; exact of_decide_eq_true (by kernel_rfl)
          refine step_guard rfl rfl rfl hs tg ?_
          clear tg hs hg
          go_simp
          exact hK.out (.int .i64 T) _ hF' (hF_val 27 ((H27.out _ _).2 rfl)) (fun j hj _ h => hF_up (HUP.out _ _ (Below.refl _ _)) 27 _ j hj h)
        · intro u w21 au hau hu hF' hp' K hK
          have t14 : au.tmps[14]?.getD undef = .pointer (some ⟨MF, 0, none⟩) := by rw [hau.out]; kernel_rfl
          have hg : u 21 = .bool false := (H21.out _ _).1 (PreF.get hp' 21 (by kernel_rfl))
          have tg : au.tmps[79]?.getD undef = u 21 := by rw [hau.out]; kernel_rfl
          rw [hg] at tg
          have hs : 79 < au.tmps.size := by rw [hau.out]; exact of_decide_eq_true (by kernel_rfl)
          refine step_guard rfl rfl rfl hs tg ?_
          clear tg hs hg
          go_simp
          exact hK.out (.pointer (some ⟨MF, 1, none⟩)) _ hF' (hF_val 28 ((H28.out _ _).2 rfl)) (fun j hj _ h => hF_up (HUP.out _ _ (Below.refl _ _)) 28 _ j hj h)
        · intro u w21 au hau hu hF' hp' K hK
          have h28 : u 28 = .pointer (some ⟨MF, 1, none⟩) := (H28.out _ _).1 (PreF.get hp' 28 (by kernel_rfl))
          have t86 : au.tmps[86]?.getD undef = u 28 := by rw [hau.out]; kernel_rfl
          rw [h28] at t86
          have bx := BF.out.below hF' BF.out.lt
          obtain ⟨x0, -⟩ := bx 1 _ rfl
          clear bx
          have hg : u 21 = .bool false := (H21.out _ _).1 (PreF.get hp' 21 (by kernel_rfl))
          have tg : au.tmps[79]?.getD undef = u 21 := by rw [hau.out]; kernel_rfl
          rw [hg] at tg
          have hs : 79 < au.tmps.size := by rw [hau.out]; exact of_decide_eq_true (by kernel_rfl)
          refine step_guard rfl rfl rfl hs tg ?_
          clear tg hs hg
          go_simp
          exact hK.out (.int .i64 fx) _ hF' (hF_val 29 ((H29.out _ _).2 rfl)) (fun j hj _ h => hF_up (HUP.out _ _ (Below.refl _ _)) 29 _ j hj h)
        · intro u w21 au hau hu hF' hp' K hK
          have t14 : au.tmps[14]?.getD undef = .pointer (some ⟨MF, 0, none⟩) := by rw [hau.out]; kernel_rfl
          have hg : u 21 = .bool false := (H21.out _ _).1 (PreF.get hp' 21 (by kernel_rfl))
          have tg : au.tmps[79]?.getD undef = u 21 := by rw [hau.out]; kernel_rfl
          rw [hg] at tg
          have hs : 79 < au.tmps.size := by rw [hau.out]; exact of_decide_eq_true (by kernel_rfl)
          refine step_guard rfl rfl rfl hs tg ?_
          clear tg hs hg
          go_simp
          exact hK.out (.pointer (some ⟨MF, 2, none⟩)) _ hF' (hF_val 30 ((H30.out _ _).2 rfl)) (fun j hj _ h => hF_up (HUP.out _ _ (Below.refl _ _)) 30 _ j hj h)
        · intro u w21 au hau hu hF' hp' K hK
          have h30 : u 30 = .pointer (some ⟨MF, 2, none⟩) := (H30.out _ _).1 (PreF.get hp' 30 (by kernel_rfl))
          have t88 : au.tmps[88]?.getD undef = u 30 := by rw [hau.out]; kernel_rfl
          rw [h30] at t88
          have bx := BF.out.below hF' BF.out.lt
          obtain ⟨x0, -⟩ := bx 2 _ rfl
          clear bx
          have hg : u 21 = .bool false := (H21.out _ _).1 (PreF.get hp' 21 (by kernel_rfl))
          have tg : au.tmps[79]?.getD undef = u 21 := by rw [hau.out]; kernel_rfl
          rw [hg] at tg
          have hs : 79 < au.tmps.size := by rw [hau.out]; exact of_decide_eq_true (by kernel_rfl)
          refine step_guard rfl rfl rfl hs tg ?_
          clear tg hs hg
          go_simp
          exact hK.out (.int .i64 fy) _ hF' (hF_val 31 ((H31.out _ _).2 rfl)) (fun j hj _ h => hF_up (HUP.out _ _ (Below.refl _ _)) 31 _ j hj h)
        · intro u w21 au hau hu hF' hp' K hK
          have t14 : au.tmps[14]?.getD undef = .pointer (some ⟨MF, 0, none⟩) := by rw [hau.out]; kernel_rfl
          have hg : u 21 = .bool false := (H21.out _ _).1 (PreF.get hp' 21 (by kernel_rfl))
          have tg : au.tmps[79]?.getD undef = u 21 := by rw [hau.out]; kernel_rfl
          rw [hg] at tg
          have hs : 79 < au.tmps.size := by rw [hau.out]; exact of_decide_eq_true (by kernel_rfl)
          refine step_guard rfl rfl rfl hs tg ?_
          clear tg hs hg
          go_simp
          exact hK.out (.pointer (some ⟨MF, 3, none⟩)) _ hF' (hF_val 32 ((H32.out _ _).2 rfl)) (fun j hj _ h => hF_up (HUP.out _ _ (Below.refl _ _)) 32 _ j hj h)
        · intro u w21 au hau hu hF' hp' K hK
          have h32 : u 32 = .pointer (some ⟨MF, 3, none⟩) := (H32.out _ _).1 (PreF.get hp' 32 (by kernel_rfl))
          have t90 : au.tmps[90]?.getD undef = u 32 := by rw [hau.out]; kernel_rfl
          rw [h32] at t90
          have bx := BF.out.below hF' BF.out.lt
          obtain ⟨x0, -⟩ := bx 3 _ rfl
          clear bx
          have hg : u 21 = .bool false := (H21.out _ _).1 (PreF.get hp' 21 (by kernel_rfl))
          have tg : au.tmps[79]?.getD undef = u 21 := by rw [hau.out]; kernel_rfl
          rw [hg] at tg
          have hs : 79 < au.tmps.size := by rw [hau.out]; exact of_decide_eq_true (by kernel_rfl)
          refine step_guard rfl rfl rfl hs tg ?_
          clear tg hs hg
          go_simp
          exact hK.out (.int .i64 fz) _ hF' (hF_val 33 ((H33.out _ _).2 rfl)) (fun j hj _ h => hF_up (HUP.out _ _ (Below.refl _ _)) 33 _ j hj h)
        · intro u w21 au hau hu hF' hp' K hK
          have h24 : u 24 = vVolume V0 V0 V0 (some ⟨bA, 0, none⟩) n cf := (H24.out _ _).1 (PreF.get hp' 24 (by kernel_rfl))
          have t82 : au.tmps[82]?.getD undef = u 24 := by rw [hau.out]; kernel_rfl
          rw [h24] at t82
          have h25 : u 25 = vVolume V0 V0 V0 (some ⟨bB, 0, none⟩) n cg := (H25.out _ _).1 (PreF.get hp' 25 (by kernel_rfl))
          have t83 : au.tmps[83]?.getD undef = u 25 := by rw [hau.out]; kernel_rfl
          rw [h25] at t83
          have h27 : u 27 = .int .i64 T := (H27.out _ _).1 (PreF.get hp' 27 (by kernel_rfl))
          have t85 : au.tmps[85]?.getD undef = u 27 := by rw [hau.out]; kernel_rfl
          rw [h27] at t85
          have h29 : u 29 = .int .i64 fx := (H29.out _ _).1 (PreF.get hp' 29 (by kernel_rfl))
          have t87 : au.tmps[87]?.getD undef = u 29 := by rw [hau.out]; kernel_rfl
          rw [h29] at t87
          have h31 : u 31 = .int .i64 fy := (H31.out _ _).1 (PreF.get hp' 31 (by kernel_rfl))
          have t89 : au.tmps[89]?.getD undef = u 31 := by rw [hau.out]; kernel_rfl
          rw [h31] at t89
          have h33 : u 33 = .int .i64 fz := (H33.out _ _).1 (PreF.get hp' 33 (by kernel_rfl))
          have t91 : au.tmps[91]?.getD undef = u 33 := by rw [hau.out]; kernel_rfl
          rw [h33] at t91
          have cm := cFs w21 (RA'.out.below hF' (RA'.out.lt hn1)).px (RB'.out.below hF' (RB'.out.lt hn1)).px
          have hg : u 21 = .bool false := (H21.out _ _).1 (PreF.get hp' 21 (by kernel_rfl))
          have tg : au.tmps[79]?.getD undef = u 21 := by rw [hau.out]; kernel_rfl
          rw [hg] at tg
          have hs : 79 < au.tmps.size := by rw [hau.out]; exact of_decide_eq_true (by kernel_rfl)
          refine step_guard rfl rfl rfl hs tg ?_
          clear tg hs hg
          go_simp
          refine cm.mono ?_
          rintro e w22 ⟨rfl, hb9⟩
          exact hK.out (.int .i64 c) _ (hF'.trans (hb9.mono hF'.size)) (hF_val 34 ((H34.out _ _).2 rfl)) (fun j hj _ h => hF_up (HUP.out _ _ hb9) 34 _ j hj h)
        · intro u w21 au hau hu hF' hp' K hK
          have h23 : u 23 = .int .i64 c := (H23.out _ _).1 (PreF.get hp' 23 (by kernel_rfl))
          have t81 : au.tmps[81]?.getD undef = u 23 := by rw [hau.out]; kernel_rfl
          rw [h23] at t81
          have h34 : u 34 = .int .i64 c := (H34.out _ _).1 (PreF.get hp' 34 (by kernel_rfl))
          have t92 : au.tmps[92]?.getD undef = u 34 := by rw [hau.out]; kernel_rfl
          rw [h34] at t92
          have hg : u 21 = .bool false := (H21.out _ _).1 (PreF.get hp' 21 (by kernel_rfl))
          have tg : au.tmps[79]?.getD undef = u 21 := by rw [hau.out]; kernel_rfl
          rw [hg] at tg
          have hs : 79 < au.tmps.size := by rw [hau.out]; exact of_decide_eq_true (by kernel_rfl)
          refine step_guard rfl rfl rfl hs tg ?_
          clear tg hs hg
          go_simp
          exact hK.out (.bool false) _ hF' (hF_val 35 ((H35.out _ _).2 rfl)) (fun j hj _ h => hF_up (HUP.out _ _ (Below.refl _ _)) 35 _ j hj h)
        · intro u w21 au hau hu hF' hp' K hK
          have h21 : u 21 = .bool false := (H21.out _ _).1 (PreF.get hp' 21 (by kernel_rfl))
          have t79 : au.tmps[79]?.getD undef = u 21 := by rw [hau.out]; kernel_rfl
          rw [h21] at t79
          have h35 : u 35 = .bool false := (H35.out _ _).1 (PreF.get hp' 35 (by kernel_rfl))
          have t93 : au.tmps[93]?.getD undef = u 35 := by rw [hau.out]; kernel_rfl
          rw [h35] at t93
          refine step_plain rfl ?_
          go_simp
          exact hK.out (.bool false) _ hF' (hF_val 36 ((H36.out _ _).2 rfl)) (fun j hj _ h => hF_up (HUP.out _ _ (Below.refl _ _)) 36 _ j hj h)
      · intro u w30 hF' hall
        have h36 : u 36 = .bool false := (H36.out _ _).1 (hall 36 (by decide))
        have HE := hide hF'
        clear hF' hall
        simp only [rgPut, Act.put, h36]
        go_simp
        go_wp2_with fail
        go_meet
        exact ⟨rfl, HE.out⟩
    case rest =>
      obtain ⟨rfl, hwG⟩ := hcut
      obtain ⟨wG, hwc⟩ : ∃ wG, wG = wc := ⟨_, rfl⟩
      rw [← hwc] at hwG
      rw [← hwc]
      clear hwc
      have HWG := hide hwG
      clear hwG
      have BA := hide (BA'.out.below HWG.out BA'.out.lt)
      have BB := hide (BB'.out.below HWG.out BB'.out.lt)
      have BG := hide (BF.out.below HWG.out BF.out.lt)
      have RA := hide (RA'.out.below HWG.out (RA'.out.lt hn1))
      have RB := hide (RB'.out.below HWG.out (RB'.out.lt hn1))
      have HW := hide (HW'.out.trans (HWG.out.mono HW'.out.size))
      clear BA' BB' BF RA' RB' HW' HWG HTF cFi cFs cCA cCB
      have hneg : IntKind.i64.wrap (-r) = -r := by rw [IntKind.wrap_i64]; omega
      by_cases q1 : t < 0
      · have HB := hide HW.out
        go_wp2_with fail
        go_ret
        exact ⟨rfl, HB.out⟩
      by_cases q2 : 11 < t
      · have HB := hide HW.out
        go_wp2_with fail
        go_ret
        exact ⟨rfl, HB.out⟩
      by_cases q3 : x < -r
      · have HB := hide HW.out
        go_wp2_with fail
        go_ret
        exact ⟨rfl, HB.out⟩
      by_cases q4 : r < x
      · have HB := hide HW.out
        go_wp2_with fail
        go_ret
        exact ⟨rfl, HB.out⟩
      by_cases q5 : y < -r
      · have HB := hide HW.out
        go_wp2_with fail
        go_ret
        exact ⟨rfl, HB.out⟩
      by_cases q6 : r < y
      · have HB := hide HW.out
        go_wp2_with fail
        go_ret
        exact ⟨rfl, HB.out⟩
      by_cases q7 : z < -r
      · have HB := hide HW.out
        go_wp2_with fail
        go_ret
        exact ⟨rfl, HB.out⟩
      by_cases q8 : r < z
      · have HB := hide HW.out
        go_wp2_with fail
        go_ret
        exact ⟨rfl, HB.out⟩
      obtain ⟨hle, hlex⟩ := HLt.out ⟨by omega, by omega⟩ ⟨by omega, by omega⟩ ⟨by omega, by omega⟩ ⟨by omega, by omega⟩
      clear HLt
      obtain ⟨x0, -⟩ := BA.out 0 _ rfl
      obtain ⟨x1, -⟩ := BA.out 1 _ rfl
      obtain ⟨x2, -⟩ := BA.out 2 _ rfl
      obtain ⟨x3, -⟩ := BA.out 3 _ rfl
      obtain ⟨z0, -⟩ := BB.out 0 _ rfl
      obtain ⟨z1, -⟩ := BB.out 1 _ rfl
      obtain ⟨z2, -⟩ := BB.out 2 _ rfl
      obtain ⟨z3, -⟩ := BB.out 3 _ rfl
      have cF := cFt wG RA.out.px RB.out.px
      clear cFt
      go_wp2_with fail
      refine cF.mono ?_
      rintro e wH ⟨rfl, hbH⟩
      have BH := hide (BG.out.below hbH BG.out.lt)
      have HWH := hide (HW.out.trans (hbH.mono HW.out.size))
      clear cF hbH x0 x1 x2 x3 z0 z1 z2 z3 BA BB BG RA RB HW hneg q1 q2 q3 q4 q5 q6 q7 q8
      obtain ⟨y0, -⟩ := BH.out 0 _ rfl
      obtain ⟨y1, -⟩ := BH.out 1 _ rfl
      obtain ⟨y2, -⟩ := BH.out 2 _ rfl
      obtain ⟨y3, -⟩ := BH.out 3 _ rfl
      obtain ⟨y4, -⟩ := BH.out 4 _ rfl
      by_cases hcc : c' = c
      · have hlx := hlex hcc
        subst hcc
        have hq : (c' != c') = false := by simp
        have HLX := hide hlx
        clear hlex hlx hle
        have HBG : Hid (Bx wH.heap.size [.int .i64 T, .int .i64 fx, .int .i64 fy, .int .i64 fz] ((wH.alloc (.cells #[.int .i64 T, .int .i64 fx, .int .i64 fy, .int .i64 fz] 2)).alloc (.cells #[.int .i64 t, .int .i64 x, .int .i64 y, .int .i64 z] 2))) := (Bx.new [.int .i64 T, .int .i64 fx, .int .i64 fy, .int .i64 fz] 2 wH).below (bnew _ _) (by simp)
        have HBH : Hid (Bx (wH.heap.size + 1) [.int .i64 t, .int .i64 x, .int .i64 y, .int .i64 z] ((wH.alloc (.cells #[.int .i64 T, .int .i64 fx, .int .i64 fy, .int .i64 fz] 2)).alloc (.cells #[.int .i64 t, .int .i64 x, .int .i64 y, .int .i64 z] 2))) := by
          have := Bx.new [.int .i64 t, .int .i64 x, .int .i64 y, .int .i64 z] 2 (wH.alloc (.cells #[.int .i64 T, .int .i64 fx, .int .i64 fy, .int .i64 fz] 2))
          rwa [show (wH.alloc (.cells #[.int .i64 T, .int .i64 fx, .int .i64 fy, .int .i64 fz] 2)).heap.size = wH.heap.size + 1 by simp] at this
        have HWI : Hid (Below w.heap.size w ((wH.alloc (.cells #[.int .i64 T, .int .i64 fx, .int .i64 fy, .int .i64 fz] 2)).alloc (.cells #[.int .i64 t, .int .i64 x, .int .i64 y, .int .i64 z] 2))) := (HWH.out.alloc HWH.out.size _).alloc (by have := HWH.out.size; simp; omega) _
        go_upto_region 17 with fail
        generalize hwI : (wH.alloc (.cells #[.int .i64 T, .int .i64 fx, .int .i64 fy, .int .i64 fz] 2)).alloc (.cells #[.int .i64 t, .int .i64 x, .int .i64 y, .int .i64 z] 2) = wI at *
        clear hwI
        generalize wH.heap.size + 1 = GH at *
        generalize wH.heap.size = GG at *
        clear y0 y1 y2 y3 y4 BH HWH hq
        have HCE : Hid (∀ k : Nat, k < 4 → wI.cell? ⟨GG, k, none⟩ = some (.int .i64 (f4 T fx fy fz k)) ∧ wI.cell? ⟨GH, k, none⟩ = some (.int .i64 (f4 t x y z k))) := by
          intro k hk
          match k, hk with
          | 0, _ => exact ⟨(HBG.out 0 _ rfl).1, (HBH.out 0 _ rfl).1⟩
          | 1, _ => exact ⟨(HBG.out 1 _ rfl).1, (HBH.out 1 _ rfl).1⟩
          | 2, _ => exact ⟨(HBG.out 2 _ rfl).1, (HBH.out 2 _ rfl).1⟩
          | 3, _ => exact ⟨(HBG.out 3 _ rfl).1, (HBH.out 3 _ rfl).1⟩
        clear HBG HBH
        generalize f4 T fx fy fz = g9 at *
        generalize f4 t x y z = h9 at *
        go_wp2_with fail
        go_loopw [18] (fun s wr => ∃ k d : Nat, k ≤ 4 ∧ s = .int .i64 (k : Int) ∧ (∀ j, j < k → g9 j = h9 j) ∧ wr = wI.drewN d) (fun s _ => (4 - intOf s).toNat)
        case atStart => exact ⟨0, 0, by omega, rfl, fun j hj => by omega, rfl⟩
        case round =>
          obtain ⟨k, d, hk4, rfl, hpre, rfl⟩ := hrel
          have HPRE := hide hpre
          clear hpre
          by_cases hlt : k < 4
          · have hk1 : (k : Int) < 4 := by omega
            obtain ⟨x0, z0⟩ := HCE.out k hlt
            by_cases e : g9 k = h9 k
            · have hq : (g9 k != h9 k) = false := by simp [e]
              have HP' : Hid (∀ j, j < k + 1 → g9 j = h9 j) := fun j hj => by
                by_cases e' : j = k
                · rw [e']; exact e
                · exact HPRE.out j (by omega)
              clear e HPRE
              generalize g9 k = x at *
              generalize h9 k = y at *
              go_wp2_with fail
              go_quiet (fail)
              go_wp2_with fail
              exact ⟨⟨k + 1, _, by omega, by simp, HP'.out, rfl⟩, by simp [intOf] <;> omega⟩
            · have hq : (g9 k != h9 k) = true := by simp [e]
              have hlt9 := HLX.out k hlt HPRE.out e
              have HB := hide HWI.out
              clear e HPRE HLX HWI
              generalize g9 k = x at *
              generalize h9 k = y at *
              go_wp2_with fail
              go_quiet (fail)
              go_wp2_with fail
              go_quiet (fail)
              go_wp2_with fail
              go_ret
              exact ⟨rfl, below_drewN (below_drewN (below_drewN HB.out _) _) _⟩
          · obtain rfl : k = 4 := by omega
            have HB : Hid (Below w.heap.size w (wI.drewN d)) := below_drewN HWI.out d
            go_wp2_with fail
            go_ret
            exact ⟨rfl, HB.out⟩
      · have hq : (c' != c) = true := by simp [hcc]
        have hgt : c < c' := by omega
        have HB := hide HWH.out
        clear hlex hle hcc
        go_wp2_with fail
        go_ret
        exact ⟨rfl, HB.out⟩

end Go.Proofs.YtkgkdhocmglklaaDoor

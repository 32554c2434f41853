/- A product is the same either way, i times i is -1, turns add up: as facts on words, and the contracts that say so. -/
import Derived.Test.YtbhomfgponhemaaZDrawCx2
import Derived.Test.YtbhomfgponhemaaFmu
import Derived.Test.YtbhomfgponhemaaZSameC
import Derived.Laws.StructEq
namespace Go.Proofs.Ytbhomfgponhemaa
open Ieee Go.RowKit Fl Z

theorem sum_comm (x y : Datum) : x.sum y = y.sum x := by
  cases x <;> cases y <;> simp only [Datum.sum]
  case infinity.infinity s t => by_cases h : s = t <;> simp [h, Ne.symm]
  case number.number s m i t n j =>
    rw [Int.min_comm i j, Int.add_comm (signed s m _), Bool.and_comm]
theorem product_comm (x y : Datum) : x.product y = y.product x := by
  cases x <;> cases y <;> simp only [Datum.product]
  case infinity.infinity s t => rw [Bool.xor_comm]
  case number.number s m i t n j => rw [Bool.xor_comm, Nat.mul_comm, Int.add_comm]

theorem add_comm_bits (x y : Nat) : floatBits .add .f64 x y = floatBits .add .f64 y x := by
  show FloatKind.f64.format.add x y = FloatKind.f64.format.add y x
  unfold Format.add; rw [sum_comm]
theorem mul_comm_bits (x y : Nat) : floatBits .mul .f64 x y = floatBits .mul .f64 y x := by
  show FloatKind.f64.format.mul x y = FloatKind.f64.format.mul y x
  unfold Format.mul; rw [product_comm]
theorem Res.swapAdd {x y r : Nat} (h : Res .add x y r) : Res .add y x r := by
  unfold Res at *; rwa [add_comm_bits y x]
theorem Res.swapMul {x y r : Nat} (h : Res .mul x y r) : Res .mul y x r := by
  unfold Res at *; rwa [mul_comm_bits y x]

theorem MulRe.swap {a b c d r : Nat} (h : MulRe a b c d r) : MulRe c d a b r := by
  obtain ⟨p, q, h1, h2, h3⟩ := h
  exact ⟨p, q, h1.swapMul, h2.swapMul, h3⟩
theorem MulIm.swap {a b c d r : Nat} (h : MulIm a b c d r) : MulIm c d a b r := by
  obtain ⟨p, q, h1, h2, h3⟩ := h
  exact ⟨q, p, h2.swapMul, h1.swapMul, h3.swapAdd⟩

theorem okey_of_same {a b : Nat} (h : same a b) : okey a = okey b := by
  rcases h with rfl | ⟨h1, h2⟩
  · rfl
  · rw [okey_nan h1, okey_nan h2]
theorem eqv_of_same {a b : Nat} (h : same a b) : eqv a b = true := decide_eq_true (okey_of_same h)

/-- the product of two numbers, with what stays of the world -/
theorem mul_any (a b c d : Nat) (w : World) :
    Calls Try.prog 7 #[cx a b, cx c d] w fun e w' => ∃ r s, e = .returned (cx r s) ∧ MulRe a b c d r ∧ MulIm a b c d s ∧ Below w.heap.size w w' := by
  refine (mul_impl a b c d w).mono ?_
  rintro e w' ⟨r, s, n, rfl, rfl, hr, hs⟩
  exact ⟨r, s, rfl, hr, hs, below_drewN (by go_grown) _⟩

theorem res_of {op : BinOp} {x y r v : Nat} (h : Res op x y r) (hv : floatBits op .f64 x y = some v) : r = v := by
  rcases h with h | ⟨h, _⟩
  · rw [hv] at h; cases h; rfl
  · rw [hv] at h; cases h

theorem ii_re {r : Nat} (h : MulRe 0 4607182418800017408 0 4607182418800017408 r) : r = 13830554455654793216 := by
  obtain ⟨p, q, h1, h2, h3⟩ := h
  obtain rfl := res_of h1 (v := 0) (by decide +kernel)
  obtain rfl := res_of h2 (v := 4607182418800017408) (by decide +kernel)
  exact res_of h3 (by decide +kernel)
theorem ii_im {r : Nat} (h : MulIm 0 4607182418800017408 0 4607182418800017408 r) : r = 0 := by
  obtain ⟨p, q, h1, h2, h3⟩ := h
  obtain rfl := res_of h1 (v := 0) (by decide +kernel)
  obtain rfl := res_of h2 (v := 0) (by decide +kernel)
  exact res_of h3 (by decide +kernel)

/-- i times i -/
theorem ii_any (w : World) :
    Calls Try.prog 7 #[cx 0 4607182418800017408, cx 0 4607182418800017408] w fun e w' => e = .returned (cx 13830554455654793216 0) ∧ Below w.heap.size w w' := by
  refine (mul_any 0 4607182418800017408 0 4607182418800017408 w).mono ?_
  rintro e w' ⟨r, s, rfl, hr, hs, hb⟩
  obtain rfl := ii_re hr
  obtain rfl := ii_im hs
  exact ⟨rfl, hb⟩

/-- two numbers that are one are told so -/
theorem same_true (a b c d : Nat) (h1 : same a c) (h2 : same b d) (w : World) :
    Calls Try.prog 8 #[cx a b, cx c d] w fun e w' => e = .returned (.bool true) ∧ Below w.heap.size w w' := by
  have h := same_spec a b c d w
  rw [eqv_of_same h1, eqv_of_same h2] at h
  exact h

/-- turns add up -/
theorem turn_turn (x y : Nat) (k n : Int) :
    tRe (n % 4) (tRe (k % 4) x y) (tIm (k % 4) x y) = tRe ((k + n) % 4) x y ∧ tIm (n % 4) (tRe (k % 4) x y) (tIm (k % 4) x y) = tIm ((k + n) % 4) x y := by
  have hk : k % 4 = 0 ∨ k % 4 = 1 ∨ k % 4 = 2 ∨ k % 4 = 3 := by omega
  have hn : n % 4 = 0 ∨ n % 4 = 1 ∨ n % 4 = 2 ∨ n % 4 = 3 := by omega
  rw [Int.add_emod]
  rcases hk with hk | hk | hk | hk <;> rcases hn with hn | hn | hn | hn <;> rw [hk, hn] <;> simp [tRe, tIm, fneg_fneg]

/-- the turns that the law asks for, with letters for what they give -/
theorem turns_any (x y : Nat) (k m : Int) : ∃ p1 q1 p2 q2 : Nat,
    (∀ w, Calls Try.prog 10 #[cx x y, .int .i64 k] w fun e w' => e = .returned (cx p1 q1) ∧ Below w.heap.size w w') ∧
    (∀ w, Calls Try.prog 10 #[cx p1 q1, .int .i64 m] w fun e w' => e = .returned (cx p2 q2) ∧ Below w.heap.size w w') ∧
    (∀ w, Calls Try.prog 10 #[cx x y, .int .i64 (k + m)] w fun e w' => e = .returned (cx p2 q2) ∧ Below w.heap.size w w') ∧
    (∀ w, Calls Try.prog 8 #[cx p2 q2, cx p2 q2] w fun e w' => e = .returned (.bool true) ∧ Below w.heap.size w w') := by
  obtain ⟨e1, e2⟩ := turn_turn x y k m
  have h3 := turn_impl x y (k + m)
  rw [← e1, ← e2] at h3
  exact ⟨_, _, _, _, turn_impl x y k, turn_impl _ _ m, h3, same_true _ _ _ _ (same_rfl _) (same_rfl _)⟩
theorem turn23 (w : World) : Calls Try.prog 10 #[cx 4611686018427387904 4613937818241073152, .int .i64 1] w fun e w' => e = .returned (cx 13837309855095848960 4611686018427387904) ∧ Below w.heap.size w w' := by
  have h := turn_impl 4611686018427387904 4613937818241073152 1 w
  have e1 : tRe (1 % 4) 4611686018427387904 4613937818241073152 = 13837309855095848960 := by decide +kernel
  have e2 : tIm (1 % 4) 4611686018427387904 4613937818241073152 = 4611686018427387904 := by decide +kernel
  rw [e1, e2] at h
  exact h
theorem same23 (w : World) : Calls Try.prog 8 #[cx 13837309855095848960 4611686018427387904, cx 13837309855095848960 4611686018427387904] w fun e w' => e = .returned (.bool true) ∧ Below w.heap.size w w' :=
  same_true _ _ _ _ (same_rfl _) (same_rfl _) w

theorem run_equalIn_float {P : Program} (w : World) (d : Nat) (t : TypeId) (k : FloatKind) (a b : Nat) (h : P.underlying t = some (.float k)) : (Op.equalIn (d + 1) t (.float k a) (.float k b)).run P w = .ok (Op.floatEq k a b) w := by
  simp [Op.equalIn, run_underlying h]

theorem eqM (w : World) : (Op.equalIn 9999 24 (.float .f64 13830554455654793216) (.float .f64 13830554455654793216)).run Try.prog w = .ok true w := by
  have o1 : Op.floatEq .f64 13830554455654793216 13830554455654793216 = true := by decide +kernel
  rw [show (9999 : Nat) = 9998 + 1 from rfl, run_equalIn_float w 9998 24 .f64 _ _ Try.underlying24, o1]
theorem eq00 (w : World) : (Op.equalIn 9999 24 (.float .f64 0) (.float .f64 0)).run Try.prog w = .ok true w := by
  have o1 : Op.floatEq .f64 0 0 = true := by decide +kernel
  rw [show (9999 : Nat) = 9998 + 1 from rfl, run_equalIn_float w 9998 24 .f64 _ _ Try.underlying24, o1]

end Go.Proofs.Ytbhomfgponhemaa

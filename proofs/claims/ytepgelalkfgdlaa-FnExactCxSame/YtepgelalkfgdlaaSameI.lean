/- The contract of the program's CxSame. -/
import Derived.Test.YtepgelalkfgdlaaSameC
import Derived.Laws.StructEq
namespace Go.Proofs.Ytepgelalkfgdlaa
open Ieee Go.RowKit Fl
attribute [local go_sem] run_store_float alloc_drewN setCell_drewN shape?_drewN

theorem eq90 (a b c d : Int) (w : World) : (Op.equalIn 10000 90 (.agg #[.int .u64 a, .int .u64 b]) (.agg #[.int .u64 c, .int .u64 d])).run Try.prog w = .ok (a == c && b == d) w := by
  have u3 := Try.underlying28
  have a3 := Try.isAgg28
  have z3 := Try.sizeOf28
  have hS : Try.prog.underlying 90 = some (.struct (Try.prog.fieldsOf 90)) := by kernel_rfl
  have hp : Try.prog.stoodInHeld 90 = false := by kernel_rfl
  rw [show (10000 : Nat) = 9999 + 1 from rfl, run_equalIn_agg w 9999 90 _ _ hS hp]
  simp only [Program.fieldsOf, Try.underlying90]
  go_simp
  by_cases h1 : a = c <;> by_cases h2 : b = d <;> simp [h1, h2]

theorem bitsOfCx_any (a b : Nat) (ha : a < 2 ^ 64) (hb : b < 2 ^ 64) (w : World) :
    Calls Try.prog 82 #[.complex .f64 a b] w fun e w' => e = .returned (.agg #[.int .u64 (canon a), .int .u64 (canon b)]) ∧ Below w.heap.size w w' := by
  have h1 := toBits_impl a ha
  have h2 := toBits_impl b hb
  generalize canon a = p at *
  generalize canon b = q at *
  go_enter Try.func82, Try.ntmps82
  go_wp2_with fail
  refine (h1 _).mono ?_
  rintro e w' ⟨rfl, rfl⟩
  go_wp2_with fail
  refine (h2 _).mono ?_
  rintro e w' ⟨rfl, rfl⟩
  go_wp2_with fail
  go_returns
  exact ⟨rfl, by go_grown⟩

theorem Held.start39 (a b c d : Nat) (w : World) : Held w.heap.size a b c d ((w.alloc (cell39 a b)).alloc (cell39 c d)) := by
  unfold Held; simp [go_sem]

set_option maxHeartbeats 1000000 in
theorem same_impl (a b c d : Nat) (ha : a < 2 ^ 64) (hb : b < 2 ^ 64) (hc : c < 2 ^ 64) (hd : d < 2 ^ 64) (w : World) :
    Calls Try.prog 53 #[cx a b, cx c d] w fun e w' => e = .returned (.bool (eqv a c && eqv b d)) ∧ Below w.heap.size w w' := by
  have H0 := Held.start39 a b c d w
  go_enter Try.func53, Try.ntmps53
  go_upto_region 1 with fail
  go_cut [5, 6] (fun s5 s6 wc => s5 = .complex .f64 a b ∧ s6 = .complex .f64 c d ∧ Below w.heap.size w wc)
  case first =>
    go_region_with (go_at_call 72; refine (toNative_exact _ _ _).mono ?_; rintro e w1 ⟨rfl, rfl⟩)
    all_goals
      go_wp2_with fail
      go_meet
      exact ⟨rfl, rfl, by go_grown⟩
  case rest =>
    obtain ⟨rfl, rfl, B1⟩ := hcut
    clear H0
    have hn1 := eqv_canon a c ha hc
    have hn2 := eqv_canon b d hb hd
    have p1 := bitsOfCx_any a b ha hb
    have p2 := bitsOfCx_any c d hc hd
    by_cases hA : isNaN a ∨ isNaN b
    · have hx : ((FloatKind.f64.format.order a a == some .eq) && (FloatKind.f64.format.order b b == some .eq)) = false := by
        rcases hA with h | h
        · rw [order_nan a a h]; rfl
        · rw [order_nan b b h, Bool.and_comm]; rfl
      clear hA ha hb hc hd
      go_wp2_with fail
      refine (p1 _).mono ?_
      rintro e w1 ⟨rfl, b1⟩
      go_wp2_with fail
      refine (p2 _).mono ?_
      rintro e w2 ⟨rfl, b2⟩
      clear p1 p2
      have e90 := eq90
      go_wp2_with fail
      go_ret
      exact ⟨rfl, B1.trans ((b1.mono B1.size).trans (b2.mono (Nat.le_trans B1.size b1.size)))⟩
    · have h1 : ¬ isNaN a := fun h => hA (.inl h)
      have h2 : ¬ isNaN b := fun h => hA (.inr h)
      have o1 := order_self a h1
      have o2 := order_self b h2
      by_cases hq : FloatKind.f64.format.order a c = some .eq ∧ FloatKind.f64.format.order b d = some .eq
      · obtain ⟨q1, q2⟩ := hq
        clear hA ha hb hc hd h1 h2
        go_wp2_with fail
        refine (p1 _).mono ?_
        rintro e w1 ⟨rfl, b1⟩
        go_wp2_with fail
        refine (p2 _).mono ?_
        rintro e w2 ⟨rfl, b2⟩
        clear p1 p2
        have e90 := eq90
        go_wp2_with fail
        go_ret
        exact ⟨rfl, B1.trans ((b1.mono B1.size).trans (b2.mono (Nat.le_trans B1.size b1.size)))⟩
      · have hr : (eqv a c && eqv b d) = false := by
          cases h3 : eqv a c with
          | false => rfl
          | true =>
            cases h4 : eqv b d with
            | false => rfl
            | true => exact absurd ⟨order_eqv a c h1 h3 ha hc, order_eqv b d h2 h4 hb hd⟩ hq
        have hy : ((FloatKind.f64.format.order a c == some .eq) && (FloatKind.f64.format.order b d == some .eq)) = false := by
          cases h5 : (FloatKind.f64.format.order a c == some .eq) with
          | false => rfl
          | true =>
            cases h6 : (FloatKind.f64.format.order b d == some .eq) with
            | false => rfl
            | true => exact absurd ⟨by simpa using h5, by simpa using h6⟩ hq
        have HR : Hid ((eqv a c && eqv b d) = false) := hr
        clear hA ha hb hc hd h1 h2 hq hn1 hn2 p1 p2 hr
        go_wp2_with fail
        go_ret
        refine ⟨?_, B1⟩
        show Ending.returned (.bool false) = _
        rw [HR.out]

end Go.Proofs.Ytepgelalkfgdlaa

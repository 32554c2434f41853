/- The ward: flags, people, patients, who may see, both ways. -/
import Derived.Test.YtlailkoikcjecaaWdn
import Derived.Test.YtlailkoikcjecaaPat
namespace Go.Proofs.Ytlailkoikcjecaa
open Go.RowKit

set_option maxRecDepth 100000 in
theorem l16Bit_any (n b : Int) (h0 : 0 ≤ n) (h1 : n ≤ 9223372036854775807) (hb : 0 < b) (hb1 : b ≤ 9223372036854775807) (w : World) :
    Calls Try.prog 16 #[.int .i64 n, .int .i64 b] w fun e w' => e = .returned (.bool (bitB n b)) ∧ w' = w := by
  have e1 : Int.tdiv n b = n / b := Int.tdiv_eq_ediv_of_nonneg h0
  have hq : 0 ≤ n / b := Int.ediv_nonneg h0 (by omega)
  have e2 : Int.tmod (n / b) 2 = n / b % 2 := Int.tmod_eq_emod_of_nonneg hq
  have hle : n / b ≤ n := Int.ediv_le_self b h0
  have hb0 : ¬ b = 0 := by omega
  go_enter Try.func16, Try.ntmps16
  go_wp2_with fail
  go_ret
  exact ⟨rfl, rfl⟩

set_option maxRecDepth 100000 in
theorem and_bit : ∀ n : Fin 256, ∀ k : Fin 8, (bits BinOp.and IntKind.i64 (n.val : Int) (((2 ^ k.val : Nat)) : Int) != 0) = bitB (n.val : Int) (((2 ^ k.val : Nat)) : Int) := by decide +kernel

set_option maxRecDepth 100000 in
theorem hasFlag_any (n b : Int) (h0 : 0 ≤ n) (h1 : n ≤ 255) (k : Nat) (hk : k < 8) (hb : b = ((2 ^ k : Nat) : Int)) (w : World) :
    Calls Try.prog 25 #[.int .i64 n, .int .i64 b] w fun e w' => e = .returned (.bool (bitB n b)) ∧ w' = w := by
  have H : Hid ((bits BinOp.and IntKind.i64 n b != 0) = bitB n b) := by
    show _ = _
    have := and_bit ⟨n.toNat, by omega⟩ ⟨k, hk⟩
    simp only [show ((n.toNat : Nat) : Int) = n by omega] at this
    rw [hb]; exact this
  clear hb hk h0 h1
  go_enter Try.func25, Try.ntmps25
  go_wp2_with fail
  go_ret
  rw [← H.out]
  exact ⟨rfl, rfl⟩

set_option maxRecDepth 100000 in
theorem isId_any (x : Int) (w : World) :
    Calls Try.prog 29 #[.int .i64 x] w fun e w' => e = .returned (.bool (inB x 0 1000000)) ∧ w' = w := by
  have c := within_any x 0 1000000
  generalize inB x 0 1000000 = B at *
  go_enter Try.func29, Try.ntmps29
  go_wp2_with fail
  refine (c _).mono ?_
  rintro e w1 ⟨rfl, rfl⟩
  go_wp2_with fail
  go_ret
  exact ⟨rfl, rfl⟩

set_option maxRecDepth 100000 in
theorem isWard_any (x : Int) (w : World) :
    Calls Try.prog 30 #[.int .i64 x] w fun e w' => e = .returned (.bool (inB x 0 7)) ∧ w' = w := by
  have c := within_any x 0 7
  generalize inB x 0 7 = B at *
  go_enter Try.func30, Try.ntmps30
  go_wp2_with fail
  refine (c _).mono ?_
  rintro e w1 ⟨rfl, rfl⟩
  go_wp2_with fail
  go_ret
  exact ⟨rfl, rfl⟩

set_option maxRecDepth 100000 in
set_option maxHeartbeats 1000000 in
theorem isPatient_any (i d g c : Int) (w : World) :
    Calls Try.prog 27 #[vPatient i d g c] w fun e w' => e = .returned (.bool (ptB i d g c)) ∧ Below w.heap.size w w' := by
  have HB := hide (bnew w (.cells #[.int .i64 i, .int .i64 d, .int .i64 g, .int .i64 c] 31))
  have c0 := isId_any i
  have c1 := isWard_any d
  have c2 := within_any g 0 7
  have c3 := within_any c 0 3
  unfold ptB
  generalize inB i 0 1000000 = B0 at *
  generalize inB d 0 7 = B1 at *
  generalize inB g 0 7 = B2 at *
  generalize inB c 0 3 = B3 at *
  go_enter Try.func27, Try.ntmps27
  go_wp2_with fail
  refine (c0 _).mono ?_
  rintro e w1 ⟨rfl, rfl⟩
  cases B0
  · go_wp2_with fail
    go_ret
    exact ⟨rfl, HB.out⟩
  go_wp2_with fail
  refine (c1 _).mono ?_
  rintro e w1 ⟨rfl, rfl⟩
  cases B1
  · go_wp2_with fail
    go_ret
    exact ⟨rfl, HB.out⟩
  go_wp2_with fail
  refine (c2 _).mono ?_
  rintro e w1 ⟨rfl, rfl⟩
  cases B2
  · go_wp2_with fail
    go_ret
    exact ⟨rfl, HB.out⟩
  go_wp2_with fail
  refine (c3 _).mono ?_
  rintro e w1 ⟨rfl, rfl⟩
  go_wp2_with fail
  go_ret
  exact ⟨rfl, HB.out⟩

set_option maxRecDepth 100000 in
set_option maxHeartbeats 1000000 in
theorem l16Patient_any (i d g c : Int) (w : World) :
    Calls Try.prog 26 #[vPatient i d g c] w fun e w' => e = .returned (.bool (ptB i d g c)) ∧ Below w.heap.size w w' := by
  have HB := hide (bnew w (.cells #[.int .i64 i, .int .i64 d, .int .i64 g, .int .i64 c] 31))
  have c0 := l1In_any i 0 1000000
  have c1 := l1In_any d 0 7
  have c2 := l1In_any g 0 7
  have c3 := l1In_any c 0 3
  unfold ptB
  generalize inB i 0 1000000 = B0 at *
  generalize inB d 0 7 = B1 at *
  generalize inB g 0 7 = B2 at *
  generalize inB c 0 3 = B3 at *
  go_enter Try.func26, Try.ntmps26
  go_wp2_with fail
  refine (c0 _).mono ?_
  rintro e w1 ⟨rfl, rfl⟩
  cases B0
  · go_wp2_with fail
    go_ret
    exact ⟨rfl, HB.out⟩
  go_wp2_with fail
  refine (c1 _).mono ?_
  rintro e w1 ⟨rfl, rfl⟩
  cases B1
  · go_wp2_with fail
    go_ret
    exact ⟨rfl, HB.out⟩
  go_wp2_with fail
  refine (c2 _).mono ?_
  rintro e w1 ⟨rfl, rfl⟩
  cases B2
  · go_wp2_with fail
    go_ret
    exact ⟨rfl, HB.out⟩
  go_wp2_with fail
  refine (c3 _).mono ?_
  rintro e w1 ⟨rfl, rfl⟩
  go_wp2_with fail
  go_ret
  exact ⟨rfl, HB.out⟩

end Go.Proofs.Ytlailkoikcjecaa

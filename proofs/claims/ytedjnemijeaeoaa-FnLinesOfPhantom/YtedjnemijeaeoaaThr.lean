/- The numbers of the lines through a pixel, as the specification lists them. -/
import Derived.Test.YtedjnemijeaeoaaTn6
import Derived.Test.YtedjnemijeaeoaaNum
namespace Go.Proofs.Ytedjnemijeaeoaa
open Go.RowKit

/-- the lines through (x, y), as numbers -/
def thF (p x y : Nat) (m : Nat) : Int := ((Lnm.thr p x y m : Nat) : Int)
theorem mul_le_pp' {a b p : Nat} (ha : a ≤ p) (hb : b ≤ p) (hp : p ≤ 64) : a * b ≤ 4096 :=
  Nat.le_trans (Nat.mul_le_mul ha hb) (Nat.mul_le_mul hp hp)

set_option maxRecDepth 100000 in
set_option maxHeartbeats 2000000 in
theorem l6Through_any (x y p : Nat) (hp : 1 ≤ p) (hp2 : p ≤ 64) (hx : x < p) (hy : y < p) (w : World) :
    Calls Try.prog 45 #[.int .i64 p, .int .i64 x, .int .i64 y] w (LsR (p + 1) (thF p x y) w) := by
  have HB0 : Hid (Below w.heap.size w (w.alloc (.cells #[] 2))) := bnew _ _
  go_enter Try.func45, Try.ntmps45
  go_wp2_with fail
  go_loopw [7, 8] (fun v i wr => ∃ k : Nat, k ≤ p ∧ i = .int .i64 k ∧ wr.ownsRow w.heap.size 2 1 v k (ints (fl (thF p x y) k)) ∧ Below w.heap.size w wr ∧ w.heap.size < wr.heap.size) (fun _ i _ => p - (intOf i).toNat)
  case atStart => exact ⟨0, by omega, rfl, World.ownsRow_lit w #[] 0 (Nat.le_refl _) (by unfold maxLen; omega) rfl, HB0.out, by simp⟩
  case round =>
    obtain ⟨k, hk, rfl, ho, hb, hs⟩ := hrel
    clear HB0
    have HO := hide ho
    have HB := hide hb
    have HS := hide (Nat.le_of_lt hs)
    have HL : Hid (k ≤ 1048576) := by show _ ≤ _; omega
    clear ho hb
    by_cases hlt : k < p
    · have hA := mul_le_pp' (show k ≤ p by omega) (show x ≤ p by omega) hp2
      have hD := mul_le_pp' (show k ≤ p by omega) (Nat.le_refl p) hp2
      have wA : IntKind.i64.wrap ((k : Int) * (x : Int)) = ((k * x : Nat) : Int) := by rw [IntKind.wrap_i64, ← Int.natCast_mul]; omega
      have wD : IntKind.i64.wrap ((k : Int) * (p : Int)) = ((k * p : Nat) : Int) := by rw [IntKind.wrap_i64, ← Int.natCast_mul]; omega
      have hgk : thF p x y k = ((k * p + Lnm.tt p x y k : Nat) : Int) := by unfold thF Lnm.thr; rw [if_neg (by omega)]
      have htt := Lnm.tt_lt (show 0 < p by omega) x y k
      have cM := n_l1Mod_any ((y : Int) - ((k * x : Nat) : Int)) p hp (by omega)
      have hte : ((y : Int) - ((k * x : Nat) : Int)) % (p : Int) = ((Lnm.tt p x y k : Nat) : Int) := by
        have := Int.emod_nonneg ((y : Int) - (k : Int) * (x : Int)) (show (p : Int) ≠ 0 by omega)
        unfold Lnm.tt
        rw [Int.natCast_mul]
        omega
      rw [hte] at cM
      clear hte
      generalize Lnm.tt p x y k = T at *
      generalize k * p = D at *
      generalize k * x = A at *
      have wB : IntKind.i64.wrap ((y : Int) - (A : Int)) = (y : Int) - (A : Int) := by rw [IntKind.wrap_i64]; omega
      obtain ⟨Z, hZ⟩ : ∃ Z, Z = thF p x y k := ⟨_, rfl⟩
      have wE : IntKind.i64.wrap ((D : Int) + (T : Int)) = Z := by rw [IntKind.wrap_i64, hZ, hgk]; omega
      have HZ := hide hZ
      clear hA hD hgk htt hZ
      go_wp2_with fail
      refine (cM _).mono ?_
      rintro e wr ⟨rfl, rfl⟩
      clear cM
      go_wp2_with (refine grow1 _ rfl _ _ rfl w.heap.size _ k (thF p x y) rfl w HO.out HB.out HS.out Z HZ.out rfl HL.out ?_)
      intro v' w' ho' hb' hs'
      have HO' := hide ho'
      have HB' := hide hb'
      have HS' : Hid (w.heap.size < w'.heap.size) := Nat.lt_of_le_of_lt HS.out hs'
      clear HO HB HS ho' hb' hs' hs
      go_wp2_with fail
      exact ⟨⟨k + 1, by omega, rfl, HO'.out, HB'.out, HS'.out⟩, by simp [intOf]; omega⟩
    · obtain rfl : k = p := by omega
      have hD := mul_le_pp' (Nat.le_refl k) (Nat.le_refl k) hp2
      have wD : IntKind.i64.wrap ((k : Int) * (k : Int)) = ((k * k : Nat) : Int) := by rw [IntKind.wrap_i64, ← Int.natCast_mul]; omega
      have hgk : thF k x y k = ((k * k + x : Nat) : Int) := by unfold thF Lnm.thr; rw [if_pos rfl]
      generalize k * k = D at *
      obtain ⟨Z, hZ⟩ : ∃ Z, Z = thF k x y k := ⟨_, rfl⟩
      have wE : IntKind.i64.wrap ((D : Int) + (x : Int)) = Z := by rw [IntKind.wrap_i64, hZ, hgk]; omega
      have HZ := hide hZ
      clear hD hgk hZ
      go_wp2_with (refine grow1 _ rfl _ _ rfl w.heap.size _ k (thF k x y) rfl w HO.out HB.out HS.out Z HZ.out rfl HL.out ?_)
      intro v' w' ho' hb' hs'
      obtain ⟨a', cap', b', rfl, ow, hBb⟩ := ow_fl ho'
      have HR : Hid (LsR (k + 1) (thF k x y) w (.returned (.slice a' (k + 1 : Nat) cap')) w') := ⟨a', cap', b', rfl, ow, hBb, hb'⟩
      clear HO HB HS ho' hb' hs' hs ow hBb
      go_wp2_with fail
      go_ret
      exact HR.out

end Go.Proofs.Ytedjnemijeaeoaa

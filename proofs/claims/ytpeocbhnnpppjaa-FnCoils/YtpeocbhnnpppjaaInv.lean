/- Every residue but 0 has its inverse among the powers. -/
import Derived.Test.YtpeocbhnnpppjaaSlv
namespace Go.Proofs.Ytpeocbhnnpppjaa
open Go.RowKit

def okInv (d : Nat) : Bool := d * pwF 14 1 d 12287 % 12289 == 1
def allOk : Nat → Nat → Bool
  | 0, _ => true
  | n + 1, d => okInv d && allOk n (d + 1)
theorem pw_fuel : ∀ (n m r b e : Nat), e < 2 ^ n → n ≤ m → pwF m r b e = pwF n r b e := by
  intro n
  induction n with
  | zero =>
    intro m r b e he _
    have : e = 0 := by simpa using he
    subst this
    cases m <;> rfl
  | succ n ih =>
    intro m r b e he hm
    obtain ⟨k, rfl⟩ : ∃ k, m = k + 1 := ⟨m - 1, by omega⟩
    rw [pwF, pwF]
    split
    · rfl
    · exact ih _ _ _ _ (by rw [Nat.pow_succ] at he; omega) (by omega)
theorem all_ok2 : ∀ i, i < 192 → allOk 64 (1 + 64 * i) = true := by decide +kernel
theorem inv_one (d : Nat) (h1 : 1 ≤ d) (h2 : d < 12289) : d * pwF 41 1 d 12287 % 12289 = 1 := by
  have a := all_ok2 ((d - 1) / 64) (by omega)
  have key : ∀ n s, allOk n s = true → ∀ k, k < n → okInv (s + k) = true := by
    intro n
    induction n with
    | zero => intro s _ k hk; omega
    | succ n ih =>
      intro s h k hk
      simp only [allOk, Bool.and_eq_true] at h
      cases k with
      | zero => exact h.1
      | succ k =>
        have := ih (s + 1) h.2 k (by omega)
        rw [show s + 1 + k = s + (k + 1) by omega] at this
        exact this
  have b := key 64 _ a ((d - 1) % 64) (by omega)
  rw [show 1 + 64 * ((d - 1) / 64) + (d - 1) % 64 = d by omega] at b
  unfold okInv at b
  rw [pw_fuel 14 41 _ _ _ (by omega) (by omega)]
  simpa using b

theorem inv_mul (d : Int) (h0 : 0 < d) (h1 : d < 12289) : res (d * inv d) = 1 := by
  obtain ⟨n, rfl⟩ : ∃ n : Nat, d = (n : Int) := ⟨d.toNat, by omega⟩
  have e : inv (n : Int) = (pwF 41 1 n 12287 : Nat) := by
    unfold inv powB pw
    rw [if_pos (by decide)]
    have : (res (n : Int)).toNat = n := by unfold res; omega
    rw [this]
    rfl
  rw [e, ← Int.natCast_mul, res_nat, inv_one n (by omega) (by omega)]
  rfl

end Go.Proofs.Ytpeocbhnnpppjaa

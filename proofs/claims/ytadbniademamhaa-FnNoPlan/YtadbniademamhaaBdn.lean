/- Bounds: when they are right; sums of products. -/
import Derived.Test.YtadbniademamhaaBds
import Derived.Test.YtadbniademamhaaLvn
namespace Go.Proofs.Ytadbniademamhaa
open Go.RowKit

/-- is bound number i as told -/
def bdi (ln : Nat → Nat) (F : Nat → Nat → Int) (Bv : Nat → Int) (i : Nat) : Bool := decide (ln i = ln 0) && (alW (F i) (-1000) 1000 (ln i) && inB (Bv i) (-1000) 1000)
/-- are they bounds -/
def bdB (m : Nat) (ln : Nat → Nat) (F : Nat → Nat → Int) (Bv : Nat → Int) : Bool := inB m 1 64 && (inB (ln 0) 1 64 && allG (bdi ln F Bv) m)
theorem bdB_parts {m : Nat} {ln : Nat → Nat} {F : Nat → Nat → Int} {Bv : Nat → Int} (h : bdB m ln F Bv = true) :
    1 ≤ m ∧ m ≤ 64 ∧ 1 ≤ ln 0 ∧ ln 0 ≤ 64 ∧ ∀ i, i < m → ln i = ln 0 ∧ (∀ k, k < ln 0 → -1000 ≤ F i k ∧ F i k ≤ 1000) ∧ -1000 ≤ Bv i ∧ Bv i ≤ 1000 := by
  unfold bdB at h
  rw [Bool.and_eq_true, Bool.and_eq_true, inB_iff, inB_iff] at h
  refine ⟨by omega, by omega, by omega, by omega, fun i hi => ?_⟩
  have := allG_at h.2.2 i hi
  unfold bdi at this
  rw [Bool.and_eq_true, Bool.and_eq_true, decide_eq_true_eq, inB_iff] at this
  exact ⟨this.1, fun k hk => inB_iff.1 (alW_at this.2.1 (by omega)), this.2.2⟩
/-- a sum of products -/
def dotS (f x : Nat → Int) : Nat → Int
  | 0 => 0
  | k + 1 => dotS f x k + f k * x k
theorem dotS_bd {f x : Nat → Int} {M : Int} (hM : 0 ≤ M) : ∀ n, (∀ k, k < n → -M ≤ f k * x k ∧ f k * x k ≤ M) → -(n * M) ≤ dotS f x n ∧ dotS f x n ≤ n * M
  | 0, _ => by simp [dotS]
  | n + 1, h => by
    have h1 := dotS_bd hM n (fun k hk => h k (by omega))
    have h2 := h n (by omega)
    have e : ((n + 1 : Nat) : Int) * M = n * M + M := by rw [Int.natCast_succ, Int.add_mul, Int.one_mul]
    unfold dotS
    rw [e]
    omega

set_option maxRecDepth 100000 in
set_option maxHeartbeats 4000000 in
theorem sumOfProducts_any (a : Option Addr) (n cap : Nat) (f : Nat → Int) (hl : n ≤ 1048576) (a' : Option Addr) (cap' : Nat) (x : Nat → Int) (hb : ∀ k, k < n → -1000000000000 ≤ f k * x k ∧ f k * x k ≤ 1000000000000) (w : World) (h : Px a n f w) (h' : Px a' n x w) :
    Calls Try.prog 19 #[.slice a n cap, .slice a' n cap'] w fun e w' => e = .returned (.int .i64 (dotS f x n)) ∧ ∃ d, w' = w.drewN d := by
  have HP := hide h
  have HP' := hide h'
  have HBd := hide hb
  clear h h' hb
  go_enter Try.func19, Try.ntmps19
  go_wp2_with fail
  go_loopw [5, 6, 9] (fun s _ i wr => ∃ k d : Nat, k ≤ n ∧ i = .int .i64 k ∧ s = .int .i64 (dotS f x k) ∧ wr = w.drewN d) (fun _ _ i _ => n - (intOf i).toNat)
  case atStart => exact ⟨0, 0, by omega, rfl, rfl, rfl⟩
  case round =>
    obtain ⟨k, d, hk, rfl, rfl, rfl⟩ := hrel
    by_cases hlt : k < n
    · obtain ⟨b, off, rfl, z⟩ := HP.out.at hlt
      obtain ⟨b', off', rfl, z'⟩ := HP'.out.at hlt
      have h1 := dotS_bd (f := f) (x := x) (M := 1000000000000) (by omega) k (fun q hq => HBd.out q (by omega))
      have h2 := HBd.out k hlt
      have HY : Hid (dotS f x (k + 1) = dotS f x k + f k * x k) := rfl
      clear HP HP' HBd
      generalize dotS f x k = X at *
      obtain ⟨P, hP⟩ : ∃ P, f k * x k = P := ⟨_, rfl⟩
      rw [hP] at h2 HY
      have w1 : IntKind.i64.wrap (f k * x k) = P := by rw [hP, IntKind.wrap_i64]; omega
      have w2 : IntKind.i64.wrap (X + P) = X + P := by rw [IntKind.wrap_i64]; omega
      generalize f k = A at *
      generalize x k = C at *
      clear hP h1 h2
      go_wp2_with fail
      go_quiet (fail)
      go_wp2_with fail
      exact ⟨⟨k + 1, _, by omega, rfl, by rw [HY.out], rfl⟩, by simp [intOf]; omega⟩
    · obtain rfl : k = n := by omega
      clear HP HP' HBd
      go_wp2_with fail
      go_ret
      exact ⟨rfl, _, rfl⟩

end Go.Proofs.Ytadbniademamhaa

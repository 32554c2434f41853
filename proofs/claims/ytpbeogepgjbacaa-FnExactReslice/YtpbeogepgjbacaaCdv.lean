/- The greatest number that divides all of a list: the program. -/
import Derived.Test.YtpbeogepgjbacaaHom
import Derived.Lib.MinMax
import Derived.BigQuiet
import Derived.Deep.QuietTactic
namespace Go.Proofs.Ytpbeogepgjbacaa
open Go.RowKit

def cgcd (f : Nat → Int) : Nat → Nat
  | 0 => 0
  | k + 1 => Nat.gcd (cgcd f k) (f k).natAbs
theorem cgcd_congr {f g : Nat → Int} : ∀ {n : Nat}, (∀ k, k < n → f k = g k) → cgcd f n = cgcd g n
  | 0, _ => rfl
  | n + 1, h => by simp only [cgcd]; rw [cgcd_congr (fun k hk => h k (by omega)), h n (by omega)]
theorem cgcd_le {f : Nat → Int} {B : Nat} : ∀ {n : Nat}, (∀ k, k < n → (f k).natAbs ≤ B) → cgcd f n ≤ B
  | 0, _ => Nat.zero_le _
  | n + 1, h => by
    simp only [cgcd]
    by_cases e : f n = 0
    · rw [e]; simp; exact cgcd_le (fun k hk => h k (by omega))
    · exact Nat.le_trans (Nat.gcd_le_right _ (Int.natAbs_pos.2 e)) (h n (by omega))
theorem gcd_rem (d x : Int) : Nat.gcd x.natAbs (d.tmod x).natAbs = Nat.gcd d.natAbs x.natAbs := by
  rw [Int.natAbs_tmod, Nat.gcd_comm x.natAbs, ← Nat.gcd_rec, Nat.gcd_comm]
theorem rem_lt (d x : Int) (hx : x ≠ 0) : (d.tmod x).natAbs < x.natAbs := by
  rw [Int.natAbs_tmod]
  exact Nat.mod_lt _ (Int.natAbs_pos.2 hx)

set_option maxRecDepth 100000 in
set_option maxHeartbeats 2000000 in
theorem commonDivisor_any (a : Option Addr) (n cap : Nat) (f : Nat → Int) (hl : n ≤ 1048576) (hf : ∀ k, k < n → (f k).natAbs ≤ 9223372036854775807) (w : World) (h : Px a n f w) :
    Calls Try.prog 50 #[.slice a n cap] w fun e w' => e = .returned (.int .i64 (cgcd f n : Nat)) ∧ ∃ m, w' = w.drewN m := by
  have HP := hide h
  have HF := hide hf
  clear h hf
  go_enter Try.func50, Try.ntmps50
  go_wp2_with fail
  go_loopw [3, 5, 8] (fun d _ i wr => ∃ (k : Nat) (D : Int), k ≤ n ∧ i = .int .i64 k ∧ d = .int .i64 D ∧ D.natAbs = cgcd f k ∧ D.natAbs ≤ 9223372036854775807 ∧ ∃ m, wr = w.drewN m) (fun _ _ i _ => n - (intOf i).toNat)
  case atStart => exact ⟨0, 0, by omega, rfl, rfl, rfl, by simp, 0, rfl⟩
  case round =>
    obtain ⟨k, D, hk, rfl, rfl, hD, hDb, m0, rfl⟩ := hrel
    by_cases hlt : k < n
    · obtain ⟨b, off, rfl, hz⟩ := HP.out.at hlt
      have hfb := HF.out k hlt
      have HG : Hid (Nat.gcd D.natAbs (f k).natAbs = cgcd f (k + 1)) := by show _ = Nat.gcd _ _; rw [hD]
      clear HP HF hD
      generalize f k = x0 at *
      go_wp2_with fail
      go_loopw [3, 5] (fun d x wr => ∃ (D X : Int), d = .int .i64 D ∧ x = .int .i64 X ∧ Nat.gcd D.natAbs X.natAbs = cgcd f (k + 1) ∧ D.natAbs ≤ 9223372036854775807 ∧ X.natAbs ≤ 9223372036854775807 ∧ ∃ m, wr = w.drewN m) (fun _ x _ => (intOf x).natAbs)
      case atStart => exact ⟨D, x0, rfl, rfl, HG.out, hDb, hfb, m0, rfl⟩
      case round =>
        obtain ⟨E, X, rfl, rfl, hg, hE, hX, m1, rfl⟩ := hrel
        clear HG hz hDb hfb
        by_cases hX0 : X = 0
        · subst hX0
          have hg' : E.natAbs = cgcd f (k + 1) := by rw [← hg]; simp
          have HE : Hid (E.natAbs = cgcd f (k + 1) ∧ E.natAbs ≤ 9223372036854775807) := ⟨hg', hE⟩
          clear hg hg' hE hX
          go_wp2_with fail
          exact ⟨⟨k + 1, E, by omega, rfl, rfl, HE.out.1, HE.out.2, m1, rfl⟩, by simp [intOf]; omega⟩
        · obtain ⟨R, hR⟩ : ∃ R, R = E.tmod X := ⟨_, rfl⟩
          have h1 := gcd_rem E X
          have h2 := rem_lt E X hX0
          rw [← hR] at h1 h2
          have wR : IntKind.i64.wrap (E.tmod X) = R := by rw [IntKind.wrap_i64, ← hR]; omega
          have wR2 : E.tmod X = R := hR.symm
          have HW : Hid (wrap64 R = R) := by show _ = _; unfold wrap64; omega
          have hne : (X != 0) = true := by simpa using hX0
          have hne' : (X == 0) = false := by simpa using hX0
          have HN : Hid (Nat.gcd X.natAbs R.natAbs = cgcd f (k + 1) ∧ X.natAbs ≤ 9223372036854775807 ∧ R.natAbs ≤ 9223372036854775807) := ⟨h1.trans hg, hX, by omega⟩
          have HL := hide h2
          clear hg hE hX h1 h2 hR
          go_upto_region 6 with fail
          go_quiet (fail)
          clear wR wR2 hne hne' hX0
          go_wp2_with fail
          exact ⟨⟨X, R, rfl, rfl, HN.out.1, HN.out.2.1, HN.out.2.2, _, World.drewN_drewN _ _ _⟩, by simp only [intOf]; exact HL.out⟩
    · obtain rfl : k = n := by omega
      have hm : max D (-D) = ((cgcd f k : Nat) : Int) := by rw [← hD]; omega
      have wD : IntKind.i64.wrap (-D) = -D := by rw [IntKind.wrap_i64]; omega
      have HM := hide hm
      clear HP HF hD hm hDb
      obtain ⟨E, hE⟩ : ∃ E, -D = E := ⟨_, rfl⟩
      rw [hE] at wD HM
      go_wp2
      go_ret
      exact ⟨by rw [← HM.out]; rfl, m0, rfl⟩

end Go.Proofs.Ytpbeogepgjbacaa

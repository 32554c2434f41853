/- When a frame is right: the specification. -/
import Derived.Test.YtjdbiaoheoialaaDet
import Derived.Test.YtjdbiaoheoialaaRFrm
namespace Go.Proofs.Ytjdbiaoheoialaa
open Go.RowKit

/-- the twelve numbers; what divides the first of them and D -/
def fvN (M T : Nat → Int) (i : Nat) : Int := if i < 9 then M i else T (i - 9)
def fvG (D : Int) (M T : Nat → Int) : Nat → Nat
  | 0 => D.toNat
  | i + 1 => Int.gcd (fvG D M T i : Nat) (fvN M T i)
/-- is it a right frame -/
def frmB (D : Int) (n0 : Nat) (M : Nat → Int) (n1 : Nat) (T : Nat → Int) : Bool :=
  decide (n0 = 9) && (decide (n1 = 3) && (inB D 1 1000000 && (alW (fvN M T) (-1000000) 1000000 12 && ((((fvG D M T 12 : Nat) : Int) == 1) && (det9 M != 0)))))

theorem fvG_bd {D : Int} {M T : Nat → Int} (h1 : 1 ≤ D) (h2 : D ≤ 1000000) : ∀ i, 1 ≤ fvG D M T i ∧ fvG D M T i ≤ 1000000
  | 0 => by show 1 ≤ D.toNat ∧ D.toNat ≤ 1000000; omega
  | i + 1 => by
    obtain ⟨a, b⟩ := fvG_bd (M := M) (T := T) h1 h2 i
    show 1 ≤ Int.gcd _ _ ∧ Int.gcd _ _ ≤ 1000000
    have hp : 0 < Nat.gcd (fvG D M T i) (fvN M T i).natAbs := Nat.gcd_pos_of_pos_left _ (by omega)
    have hl : Nat.gcd (fvG D M T i) (fvN M T i).natAbs ≤ fvG D M T i := Nat.gcd_le_left _ (by omega)
    have e : Int.gcd ((fvG D M T i : Nat) : Int) (fvN M T i) = Nat.gcd (fvG D M T i) (fvN M T i).natAbs := rfl
    omega

set_option maxRecDepth 100000 in
set_option maxHeartbeats 4000000 in
theorem specFrameOk_any (D : Int) (a0 : Option Addr) (n0 c0 : Nat) (M : Nat → Int) (hl0 : n0 ≤ 1048576) (a1 : Option Addr) (n1 c1 : Nat) (T : Nat → Int) (hl1 : n1 ≤ 1048576) (w : World) (h0 : Px a0 n0 M w) (h1 : Px a1 n1 T w) :
    Calls Try.prog 18 #[vFrame D a0 n0 c0 a1 n1 c1] w fun e w' => e = .returned (.bool (frmB D n0 M n1 T)) ∧ Below w.heap.size w w' := by
  have HS0 := hide ((St.start w).box [.slice a0 n0 c0, .slice a1 n1 c1, .int .i64 D] 26)
  generalize hA : w.alloc (.cells [.slice a0 n0 c0, .slice a1 n1 c1, .int .i64 D].toArray 26) = wA at HS0
  have hA' : w.alloc (.cells #[.slice a0 n0 c0, .slice a1 n1 c1, .int .i64 D] 26) = wA := hA
  obtain ⟨i0, i1, i2⟩ := HS0.out.im3 0 rfl
  have HP0 := hide h0
  have HP1 := hide h1
  have HB := hide HS0.out.below
  clear hA h0 h1
  obtain ⟨R, hR⟩ : ∃ R, R = frmB D n0 M n1 T := ⟨_, rfl⟩
  rw [← hR]
  have HR := hide hR
  clear hR
  unfold frmB at HR
  by_cases hn0 : n0 = 9
  case neg =>
    have HF : Hid (R = false) := by show R = false; rw [HR.out, decide_eq_false hn0]; rfl
    have hq : ((n0 : Int) != 9) = true := by simp; omega
    clear HR hn0 HP0 HP1 HS0
    go_enter Try.func18, Try.ntmps18
    go_wp2_with fail
    go_ret
    exact ⟨by rw [HF.out]; rfl, HB.out⟩
  by_cases hn1 : n1 = 3
  case neg =>
    have HF : Hid (R = false) := by show R = false; rw [HR.out, decide_eq_false hn1]; simp
    subst hn0
    have hq : (((9 : Nat) : Int) != 9) = false := by simp
    have hq1 : ((n1 : Int) != 3) = true := by simp; omega
    clear HR hn1 HP0 HP1 HS0
    go_enter Try.func18, Try.ntmps18
    go_wp2_with fail
    go_ret
    exact ⟨by rw [HF.out]; rfl, HB.out⟩
  subst hn0 hn1
  have hq : (((9 : Nat) : Int) != 9) = false := by simp
  have hq1 : (((3 : Nat) : Int) != 3) = false := by simp
  have cD := l1In_any D 1 1000000
  cases hD : inB D 1 1000000
  · have HF : Hid (R = false) := by show R = false; rw [HR.out, hD]; simp
    rw [hD] at cD
    clear HR hD HP0 HP1 HS0
    go_enter Try.func18, Try.ntmps18
    go_wp2_with fail
    refine (cD _).mono ?_
    rintro e w1 ⟨rfl, rfl⟩
    go_wp2_with fail
    go_ret
    exact ⟨by rw [HF.out]; rfl, HB.out⟩
  obtain ⟨d1, d2⟩ : 1 ≤ D ∧ D ≤ 1000000 := by unfold inB at hD; simpa using hD
  have HRR : Hid (R = (alW (fvN M T) (-1000000) 1000000 12 && ((((fvG D M T 12 : Nat) : Int) == 1) && (det9 M != 0)))) := by show R = _; rw [HR.out, hD]; rfl
  rw [hD] at cD
  have HG := hide (fvG_bd (M := M) (T := T) d1 d2)
  have hD0 : D = ((fvG D M T 0 : Nat) : Int) := by show D = ((D.toNat : Nat) : Int); omega
  have HD0 := hide hD0
  have HGs : Hid (∀ i, fvG D M T (i + 1) = Int.gcd (fvG D M T i : Nat) (fvN M T i)) := fun _ => rfl
  obtain ⟨b0, o0, rfl, _⟩ := HP0.out.lt (by omega)
  obtain ⟨b1, o1, rfl, _⟩ := HP1.out.lt (by omega)
  clear HR hD d1 d2 hD0
  go_enter Try.func18, Try.ntmps18
  go_wp2_with fail
  refine (cD _).mono ?_
  rintro e w1 ⟨rfl, rfl⟩
  clear cD hA'
  go_wp2_with fail
  go_loop [3, 4, 5] (fun g i _ => ∃ k : Nat, k ≤ 12 ∧ i = .int .i64 k ∧ g = .int .i64 (fvG D M T k : Nat) ∧ alW (fvN M T) (-1000000) 1000000 k = true) (fun _ i _ => 12 - (intOf i).toNat)
  case atStart => exact ⟨0, by omega, rfl, by rw [← HD0.out], rfl⟩
  case round =>
    obtain ⟨k, hk, rfl, rfl, ha⟩ := hrel
    by_cases hlt : k < 12
    · have cI := l1In_any (fvN M T k) (-1000000) 1000000
      have hg := HG.out k
      cases hi : inB (fvN M T k) (-1000000) 1000000
      · have HF : Hid (R = false) := by show R = false; rw [HRR.out, alW_false hlt hi]; rfl
        rw [hi] at cI
        by_cases h9 : k < 9
        · obtain ⟨_, _, e0, z0⟩ := (HP0.out.below HB.out).at h9
          cases e0
          have hv : fvN M T k = M k := if_pos h9
          rw [hv] at cI
          clear ha hi HRR HG HGs HD0 hv hg HP0 HP1 HS0
          go_wp2_with fail
          refine (cI _).mono ?_
          rintro e w2 ⟨rfl, rfl⟩
          go_wp2_with fail
          go_ret
          exact ⟨by rw [HF.out]; rfl, HB.out⟩
        · obtain ⟨_, _, e0, z0⟩ := (HP1.out.below HB.out).at (show k - 9 < 3 by omega)
          cases e0
          have hv : fvN M T k = T (k - 9) := if_neg h9
          obtain ⟨j, hj⟩ : ∃ j, j = k - 9 := ⟨_, rfl⟩
          rw [hv] at cI
          rw [← hj] at cI z0
          have wj : IntKind.i64.wrap ((k : Int) - 9) = (j : Int) := by rw [IntKind.wrap_i64]; omega
          have hj3 : j < 3 := by omega
          clear ha hi HRR HG HGs HD0 hv hg HP0 HP1 HS0 hj
          go_wp2_with fail
          refine (cI _).mono ?_
          rintro e w2 ⟨rfl, rfl⟩
          go_wp2_with fail
          go_ret
          exact ⟨by rw [HF.out]; rfl, HB.out⟩
      · have HF := hide (alW_step ha hi)
        have hib : -1000000 ≤ fvN M T k ∧ fvN M T k ≤ 1000000 := by unfold inB at hi; simpa using hi
        have cG := l7Gcd_any ((fvG D M T k : Nat) : Int) (fvN M T k) (by omega) (by omega) (by omega) (by omega)
        rw [← HGs.out k] at cG
        rw [hi] at cI
        by_cases h9 : k < 9
        · obtain ⟨_, _, e0, z0⟩ := (HP0.out.below HB.out).at h9
          cases e0
          have hv : fvN M T k = M k := if_pos h9
          rw [hv] at cI cG
          clear ha hi HRR HG HGs HD0 hv hg hib HP0 HP1 HS0
          generalize fvG D M T k = G at *
          go_wp2_with fail
          refine (cI _).mono ?_
          rintro e w2 ⟨rfl, rfl⟩
          go_wp2_with fail
          refine (cG _).mono ?_
          rintro e w2 ⟨rfl, rfl⟩
          go_wp2_with fail
          exact ⟨⟨k + 1, by omega, rfl, rfl, HF.out⟩, by simp [intOf]; omega⟩
        · obtain ⟨_, _, e0, z0⟩ := (HP1.out.below HB.out).at (show k - 9 < 3 by omega)
          cases e0
          have hv : fvN M T k = T (k - 9) := if_neg h9
          obtain ⟨j, hj⟩ : ∃ j, j = k - 9 := ⟨_, rfl⟩
          rw [hv] at cI cG
          rw [← hj] at cI cG z0
          have wj : IntKind.i64.wrap ((k : Int) - 9) = (j : Int) := by rw [IntKind.wrap_i64]; omega
          have hj3 : j < 3 := by omega
          clear ha hi HRR HG HGs HD0 hv hg hib HP0 HP1 HS0 hj
          generalize fvG D M T k = G at *
          go_wp2_with fail
          refine (cI _).mono ?_
          rintro e w2 ⟨rfl, rfl⟩
          go_wp2_with fail
          refine (cG _).mono ?_
          rintro e w2 ⟨rfl, rfl⟩
          go_wp2_with fail
          exact ⟨⟨k + 1, by omega, rfl, rfl, HF.out⟩, by simp [intOf]; omega⟩
    · obtain rfl : k = 12 := by omega
      have hr1 : R = ((((fvG D M T 12 : Nat) : Int) == 1) && (det9 M != 0)) := by rw [HRR.out, ha]; rfl
      have hMb : ∀ i, i < 9 → -1000000 ≤ M i ∧ M i ≤ 1000000 := fun i hi => by
        have := alW_at ha (show i < 12 by omega)
        unfold fvN at this
        rw [if_pos hi] at this
        unfold inB at this
        simpa using this
      have cT := fun w' h => l7Det_any (some ⟨b0, o0, none⟩) c0 M hMb w' h
      clear HRR HG HGs HD0 ha hMb
      generalize fvG D M T 12 = G at *
      generalize det9 M = DT at *
      cases hG : ((G : Int) == 1)
      · have HF : Hid (R = false) := by show R = false; rw [hr1, hG]; rfl
        clear hr1 cT HP0 HP1 HS0
        go_wp2_with fail
        go_ret
        exact ⟨by rw [HF.out]; rfl, HB.out⟩
      · have HF : Hid (R = (DT != 0)) := by show R = _; rw [hr1, hG]; rfl
        clear hr1
        go_wp2_with fail
        refine (cT _ (HP0.out.below HB.out)).mono ?_
        rintro e w3 ⟨rfl, hb⟩
        have HB3 := hide (HS0.out.next hb).below
        clear cT hb HP0 HP1 HS0
        go_wp2_with fail
        go_ret
        exact ⟨by rw [HF.out]; rfl, HB3.out⟩

end Go.Proofs.Ytjdbiaoheoialaa

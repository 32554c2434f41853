/- Images with pixels from 0 to a limit: the specification and the program. -/
import Derived.Test.YtekoioggamhlaaaHom
namespace Go.Proofs.Ytekoioggamhlaaa
open Go.RowKit

def gryB (W H : Int) (n : Nat) (f : Nat → Int) (most : Int) : Bool := okB W H n f && alW f 0 most n
theorem gryB_parts {W H : Int} {n : Nat} {f : Nat → Int} {most : Int} (h : gryB W H n f most = true) : okB W H n f = true ∧ n ≤ 4096 ∧ (∀ k, k < n → 0 ≤ f k ∧ f k ≤ most) := by
  unfold gryB at h
  simp only [Bool.and_eq_true] at h
  obtain ⟨h1, h2, h3, h4⟩ := okB_parts h.1
  have := prod_bounds h1 h2
  refine ⟨h.1, by omega, fun k hk => ?_⟩
  have := alW_at h.2 hk
  unfold inB at this
  simp at this
  omega

set_option maxHeartbeats 2000000 in
theorem isImageOf_any (W H most : Int) (a : Option Addr) (n cap : Nat) (f : Nat → Int) (hl : n ≤ 1048576) (w : World) (h : Px a n f w) :
    Calls Try.prog 22 #[im W H a n cap, .int .i64 most] w fun e w' => e = .returned (.bool (gryB W H n f most)) ∧ Below w.heap.size w w' := by
  have HS0 := hide ((St.start w).box [.int .i64 W, .int .i64 H, .slice a n cap] 26)
  have c := implOk_any W H a n cap f hl _ (h.below HS0.out.below)
  have HP := hide h
  unfold gryB
  clear h
  cases hq : okB W H n f
  · rw [hq] at c
    clear hq
    go_enter Try.func22, Try.ntmps22
    go_wp2_with fail
    refine c.mono ?_
    rintro e w1 ⟨rfl, hb⟩
    have HB := hide (HS0.out.next hb).below
    clear hb c
    go_wp2_with fail
    go_ret
    exact ⟨rfl, HB.out⟩
  rw [hq] at c
  clear hq
  have cA := fun w' h => allWithin_any 0 most a n cap f hl w' h
  generalize alW f 0 most n = V at *
  go_enter Try.func22, Try.ntmps22
  go_wp2_with fail
  refine c.mono ?_
  rintro e w1 ⟨rfl, hb⟩
  have HS1 := hide (HS0.out.next hb)
  obtain ⟨i0, i1, i2⟩ := HS1.out.im3 0 rfl
  clear hb c HS0
  go_wp2_with fail
  refine (cA _ (HP.out.below HS1.out.below)).mono ?_
  rintro e w3 ⟨rfl, rfl⟩
  go_wp2_with fail
  go_ret
  exact ⟨by simp, HS1.out.below⟩

set_option maxRecDepth 100000 in
set_option maxHeartbeats 2000000 in
theorem l9Grey_any (W H most : Int) (a : Option Addr) (n cap : Nat) (f : Nat → Int) (hl : n ≤ 1048576) (w : World) (h : Px a n f w) :
    Calls Try.prog 20 #[im W H a n cap, .int .i64 most] w fun e w' => e = .returned (.bool (gryB W H n f most)) ∧ Below w.heap.size w w' := by
  have HS0 := hide ((St.start w).box [.int .i64 W, .int .i64 H, .slice a n cap] 26)
  have c := specOk_any W H a n cap f hl _ (h.below HS0.out.below)
  have HP := hide h
  unfold gryB
  clear h
  cases hq : okB W H n f
  · rw [hq] at c
    clear hq
    go_enter Try.func20, Try.ntmps20
    go_wp2_with fail
    refine c.mono ?_
    rintro e w1 ⟨rfl, hb⟩
    have HB := hide (HS0.out.next hb).below
    clear hb c
    go_wp2_with fail
    go_ret
    exact ⟨rfl, HB.out⟩
  rw [hq] at c
  clear hq
  go_enter Try.func20, Try.ntmps20
  go_wp2_with fail
  refine c.mono ?_
  rintro e w1 ⟨rfl, hb⟩
  have HS1 := hide (HS0.out.next hb)
  obtain ⟨i0, i1, i2⟩ := HS1.out.im3 0 rfl
  have HP1 := hide (HP.out.below HS1.out.below)
  clear hb c HS0 HP
  go_wp2_with fail
  go_loop [5] (fun i => ∃ k : Nat, k ≤ n ∧ i = .int .i64 k ∧ alW f 0 most k = true) (fun i => n - (intOf i).toNat)
  case atStart => exact ⟨0, by omega, rfl, rfl⟩
  case round =>
    obtain ⟨k, hk, rfl, ha⟩ := hrel
    by_cases hlt : k < n
    · obtain ⟨b, off, rfl, hz⟩ := HP1.out.at hlt
      clear HP1
      have c1 := fun w' => l1In_any (f k) 0 most w'
      cases hq : inB (f k) 0 most
      · have HF : Hid (alW f 0 most n = false) := alW_false hlt hq
        rw [hq] at c1
        clear ha hq
        generalize f k = p at *
        go_wp2_with fail
        refine (c1 _).mono ?_
        rintro e w3 ⟨rfl, rfl⟩
        go_wp2_with fail
        go_ret
        exact ⟨by rw [HF.out]; simp, HS1.out.below⟩
      · have HF : Hid (alW f 0 most (k + 1) = true) := alW_step ha hq
        rw [hq] at c1
        clear ha hq
        generalize f k = p at *
        go_wp2_with fail
        refine (c1 _).mono ?_
        rintro e w3 ⟨rfl, rfl⟩
        go_wp2_with fail
        exact ⟨⟨k + 1, by omega, rfl, HF.out⟩, by simp [intOf]; omega⟩
    · obtain rfl : k = n := by omega
      have HA : Hid (alW f 0 most k = true) := ha
      clear ha HP1
      go_wp2
      go_ret
      exact ⟨by rw [HA.out]; simp, HS1.out.below⟩

end Go.Proofs.Ytekoioggamhlaaa

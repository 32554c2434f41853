/- Books of doses: the specification and the program. -/
import Derived.Test.YthfkdejlkegmoaaExp
import Derived.Test.YthfkdejlkegmoaaPic
import Derived.Test.YthfkdejlkegmoaaItr
import Derived.Test.YthfkdejlkegmoaaLnm
namespace Go.Proofs.Ythfkdejlkegmoaa
open Go.RowKit

/-- is exposure k as told -/
def ex1 (g : Nat → Int) (k : Nat) : Bool := inB (g (k * 2)) 0 31 && inB (g (k * 2 + 1)) 0 1000000
def exA (g : Nat → Int) : Nat → Bool
  | 0 => true
  | n + 1 => exA g n && ex1 g n
/-- are these exposures -/
def exB (n : Nat) (g : Nat → Int) : Bool := decide (n ≤ 4096) && exA g n
theorem exA_false {g : Nat → Int} {n k : Nat} (hk : k < n) (h : ex1 g k = false) : exA g n = false := by
  induction n with
  | zero => omega
  | succ n ih =>
    unfold exA
    by_cases e : k = n
    · subst e; rw [h]; simp
    · rw [ih (by omega)]; rfl
theorem exA_step {g : Nat → Int} {k : Nat} (h : exA g k = true) (h' : ex1 g k = true) : exA g (k + 1) = true := by
  unfold exA; rw [h, h']; rfl
theorem exA_at {g : Nat → Int} : ∀ {n k : Nat}, exA g n = true → k < n → (∃ o : Nat, g (k * 2) = o ∧ o < 32) ∧ 0 ≤ g (k * 2 + 1) ∧ g (k * 2 + 1) ≤ 1000000
  | n + 1, k, h, hk => by
    unfold exA at h
    rw [Bool.and_eq_true] at h
    by_cases e : k = n
    · subst e
      have := h.2
      unfold ex1 inB at this
      simp only [Bool.and_eq_true, decide_eq_true_eq] at this
      exact ⟨⟨(g (k * 2)).toNat, by omega, by omega⟩, this.2.1, this.2.2⟩
    · exact exA_at h.1 (by omega)

set_option maxRecDepth 100000 in
set_option maxHeartbeats 2000000 in
theorem l6Exposures_any (a : Option Addr) (n cap : Nat) (g : Nat → Int) (hl : n ≤ 1048576) (w : World) (h : Px a (n * 2) g w) :
    Calls Try.prog 14 #[.slice a n cap] w fun e w' => e = .returned (.bool (exB n g)) ∧ w' = w := by
  have HP := hide h
  clear h
  by_cases hbig : n ≤ 4096
  · have hg : ¬ (4096 : Int) < n := by omega
    unfold exB
    rw [decide_eq_true hbig, Bool.true_and]
    obtain ⟨R, hR⟩ : ∃ R, R = exA g n := ⟨_, rfl⟩
    rw [← hR]
    have HR := hide hR
    clear hR hbig
    go_enter Try.func14, Try.ntmps14
    go_wp2_with fail
    go_loop [3] (fun i => ∃ k : Nat, k ≤ n ∧ i = .int .i64 k ∧ exA g k = true) (fun i => n - (intOf i).toNat)
    case atStart => exact ⟨0, by omega, rfl, rfl⟩
    case round =>
      obtain ⟨k, hk, rfl, ha⟩ := hrel
      by_cases hlt : k < n
      · obtain ⟨b, off, rfl, _, z0, z1⟩ := HP.out.atExp hlt
        have c0 := l1In_any (g (k * 2)) 0 31
        have c1 := l1In_any (g (k * 2 + 1)) 0 1000000
        have hun : ex1 g k = (inB (g (k * 2)) 0 31 && inB (g (k * 2 + 1)) 0 1000000) := rfl
        clear HP
        cases e0 : inB (g (k * 2)) 0 31
        · have HF : Hid (R = false) := by show R = false; rw [HR.out]; exact exA_false hlt (by rw [hun, e0]; rfl)
          rw [e0] at c0
          clear ha e0 hun HR c1
          generalize g (k * 2) = x0 at *
          generalize g (k * 2 + 1) = x1 at *
          go_wp2_with fail
          refine (c0 _).mono ?_
          rintro e w' ⟨rfl, rfl⟩
          go_wp2_with fail
          go_ret
          exact ⟨by rw [HF.out]; rfl, rfl⟩
        · rw [e0] at c0
          cases e1 : inB (g (k * 2 + 1)) 0 1000000
          · have HF : Hid (R = false) := by show R = false; rw [HR.out]; exact exA_false hlt (by rw [hun, e0, e1]; rfl)
            rw [e1] at c1
            clear ha e0 e1 hun HR
            generalize g (k * 2) = x0 at *
            generalize g (k * 2 + 1) = x1 at *
            go_wp2_with fail
            refine (c0 _).mono ?_
            rintro e w' ⟨rfl, rfl⟩
            go_wp2_with fail
            refine (c1 _).mono ?_
            rintro e w' ⟨rfl, rfl⟩
            go_wp2_with fail
            go_ret
            exact ⟨by rw [HF.out]; rfl, rfl⟩
          · have HF : Hid (exA g (k + 1) = true) := exA_step ha (by rw [hun, e0, e1]; rfl)
            rw [e1] at c1
            clear ha e0 e1 hun HR
            generalize g (k * 2) = x0 at *
            generalize g (k * 2 + 1) = x1 at *
            go_wp2_with fail
            refine (c0 _).mono ?_
            rintro e w' ⟨rfl, rfl⟩
            go_wp2_with fail
            refine (c1 _).mono ?_
            rintro e w' ⟨rfl, rfl⟩
            go_wp2_with fail
            exact ⟨⟨k + 1, by omega, rfl, HF.out⟩, by simp [intOf]; omega⟩
      · obtain rfl : k = n := by omega
        have HF : Hid (R = true) := by show R = true; rw [HR.out]; exact ha
        clear ha HP HR
        go_wp2
        go_ret
        exact ⟨by rw [HF.out]; rfl, rfl⟩
  · have hg : (4096 : Int) < n := by omega
    have e1 : exB n g = false := by unfold exB; rw [decide_eq_false hbig]; rfl
    rw [e1]
    clear e1 hbig HP
    go_enter Try.func14, Try.ntmps14
    go_wp2_with fail
    go_ret
    exact ⟨rfl, rfl⟩

set_option maxRecDepth 100000 in
set_option maxHeartbeats 2000000 in
theorem areExposures_any (a : Option Addr) (n cap : Nat) (g : Nat → Int) (hl : n ≤ 1048576) (w : World) (h : Px a (n * 2) g w) :
    Calls Try.prog 15 #[.slice a n cap] w fun e w' => e = .returned (.bool (exB n g)) ∧ Below w.heap.size w w' := by
  have HP := hide h
  clear h
  by_cases hbig : n ≤ 4096
  · have hg : ¬ (4096 : Int) < n := by omega
    unfold exB
    rw [decide_eq_true hbig, Bool.true_and]
    obtain ⟨R, hR⟩ : ∃ R, R = exA g n := ⟨_, rfl⟩
    rw [← hR]
    have HR := hide hR
    clear hR hbig
    go_enter Try.func15, Try.ntmps15
    go_wp2_with fail
    go_loopw [4, 10] (fun _ i wr => ∃ k : Nat, k ≤ n ∧ i = .int .i64 k ∧ exA g k = true ∧ Below w.heap.size w wr) (fun _ i _ => n - (intOf i).toNat)
    case atStart => exact ⟨0, by omega, rfl, rfl, Below.refl _ _⟩
    case round =>
      obtain ⟨k, hk, rfl, ha, hb⟩ := hrel
      by_cases hlt : k < n
      · obtain ⟨b, off, rfl, _, z0, z1⟩ := (HP.out.below hb).atExp hlt
        have c0 := within_any (g (k * 2)) 0 31
        have c1 := within_any (g (k * 2 + 1)) 0 1000000
        have hun : ex1 g k = (inB (g (k * 2)) 0 31 && inB (g (k * 2 + 1)) 0 1000000) := rfl
        have HB : Hid (∀ o, Below w.heap.size w (wr.alloc o)) := fun o => hb.alloc hb.size _
        clear HP hb
        cases e0 : inB (g (k * 2)) 0 31
        · have HF : Hid (R = false) := by show R = false; rw [HR.out]; exact exA_false hlt (by rw [hun, e0]; rfl)
          rw [e0] at c0
          clear ha e0 hun HR c1
          generalize g (k * 2) = x0 at *
          generalize g (k * 2 + 1) = x1 at *
          go_wp2_with fail
          refine (c0 _).mono ?_
          rintro e w' ⟨rfl, rfl⟩
          go_wp2_with fail
          go_ret
          exact ⟨by rw [HF.out]; rfl, HB.out _⟩
        · rw [e0] at c0
          cases e1 : inB (g (k * 2 + 1)) 0 1000000
          · have HF : Hid (R = false) := by show R = false; rw [HR.out]; exact exA_false hlt (by rw [hun, e0, e1]; rfl)
            rw [e1] at c1
            clear ha e0 e1 hun HR
            generalize g (k * 2) = x0 at *
            generalize g (k * 2 + 1) = x1 at *
            go_wp2_with fail
            refine (c0 _).mono ?_
            rintro e w' ⟨rfl, rfl⟩
            go_wp2_with fail
            refine (c1 _).mono ?_
            rintro e w' ⟨rfl, rfl⟩
            go_wp2_with fail
            go_ret
            exact ⟨by rw [HF.out]; rfl, HB.out _⟩
          · have HF : Hid (exA g (k + 1) = true) := exA_step ha (by rw [hun, e0, e1]; rfl)
            rw [e1] at c1
            clear ha e0 e1 hun HR
            generalize g (k * 2) = x0 at *
            generalize g (k * 2 + 1) = x1 at *
            go_wp2_with fail
            refine (c0 _).mono ?_
            rintro e w' ⟨rfl, rfl⟩
            go_wp2_with fail
            refine (c1 _).mono ?_
            rintro e w' ⟨rfl, rfl⟩
            go_wp2_with fail
            exact ⟨⟨k + 1, by omega, rfl, HF.out, HB.out _⟩, by simp [intOf]; omega⟩
      · obtain rfl : k = n := by omega
        have HF : Hid (R = true) := by show R = true; rw [HR.out]; exact ha
        clear ha HP HR
        go_wp2
        go_ret
        exact ⟨by rw [HF.out]; rfl, hb⟩
  · have hg : (4096 : Int) < n := by omega
    have e1 : exB n g = false := by unfold exB; rw [decide_eq_false hbig]; rfl
    rw [e1]
    clear e1 hbig HP
    go_enter Try.func15, Try.ntmps15
    go_wp2_with fail
    go_ret
    exact ⟨rfl, Below.refl _ _⟩

end Go.Proofs.Ythfkdejlkegmoaa

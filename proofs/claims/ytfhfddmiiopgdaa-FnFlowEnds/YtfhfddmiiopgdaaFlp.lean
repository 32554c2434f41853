/- Orders: which are open, where one stands. -/
import Derived.Test.YtfhfddmiiopgdaaWfo
import Derived.BigRegion
namespace Go.Proofs.Ytfhfddmiiopgdaa
open Go.RowKit

/-- has an order not ended -/
def opB (s : Int) : Bool := decide (s = 1) || decide (s = 2)

set_option maxRecDepth 100000 in
theorem isOpenOrder_any (i s d e : Int) (w : World) :
    Calls Try.prog 36 #[vOrder i s d e] w fun r w' => r = .returned (.bool (opB s)) ∧ Below w.heap.size w w' := by
  have HB := hide (bnew w (cOrder i s d e 41))
  by_cases h1 : s = 1
  · subst h1
    go_enter Try.func36, Try.ntmps36
    go_wp2_with fail
    go_ret
    exact ⟨rfl, HB.out⟩
  · have h1b : (s == 1) = false := by simpa using h1
    have HV : Hid (opB s = (s == 2)) := by show _ = _; unfold opB; rw [decide_eq_false h1]; rfl
    go_enter Try.func36, Try.ntmps36
    go_wp2_with fail
    go_ret
    exact ⟨by rw [HV.out]; rfl, HB.out⟩

set_option maxRecDepth 100000 in
theorem l16Open_any (i s d e : Int) (w : World) :
    Calls Try.prog 31 #[vOrder i s d e] w fun r w' => r = .returned (.bool (opB s)) ∧ Below w.heap.size w w' := by
  have HB := hide (bnew w (cOrder i s d e 41))
  by_cases h1 : s = 1
  · subst h1
    go_enter Try.func31, Try.ntmps31
    go_wp2_with fail
    go_ret
    exact ⟨rfl, HB.out⟩
  · have h1b : (s == 1) = false := by simpa using h1
    have HV : Hid (opB s = (s == 2)) := by show _ = _; unfold opB; rw [decide_eq_false h1]; rfl
    go_enter Try.func31, Try.ntmps31
    go_wp2_with fail
    go_ret
    exact ⟨by rw [HV.out]; rfl, HB.out⟩

/-- the first place of a number among the orders' Ids, or -1 -/
def fdN (g : Nat → Int) (x : Int) : Nat → Nat → Int
  | _, 0 => -1
  | k, n + 1 => if g (k * 4) = x then (k : Int) else fdN g x (k + 1) n

set_option maxRecDepth 100000 in
set_option maxHeartbeats 1000000 in
theorem l16Find_any (c : Int) (a : Option Addr) (n cap : Nat) (g : Nat → Int) (x : Int) (hl : n ≤ 1048576) (w : World) (h : Px a (n * 4) g w) :
    Calls Try.prog 32 #[vFlow c a n cap, .int .i64 x] w fun r w' => r = .returned (.int .i64 (fdN g x 0 n)) ∧ Below w.heap.size w w' := by
  obtain ⟨W, hW⟩ : ∃ W, W = w.alloc (.cells #[.int .i64 c, .slice a n cap] 28) := ⟨_, rfl⟩
  have hWB : Below w.heap.size w W := by rw [hW]; exact bnew _ _
  have i1 : W.cell? ⟨w.heap.size, 1, none⟩ = some (.slice a n cap) := by rw [hW]; simp [go_sem]
  have hW' := hW.symm
  have HWB := hide hWB
  have HP := hide (h.below hWB)
  clear h hW hWB
  go_enter Try.func32, Try.ntmps32
  go_wp2_with fail
  clear hW'
  go_loop [5] (fun i => ∃ k : Nat, k ≤ n ∧ i = .int .i64 k ∧ fdN g x 0 n = fdN g x k (n - k)) (fun i => n - (intOf i).toNat)
  case atStart => exact ⟨0, by omega, rfl, rfl⟩
  case round =>
    obtain ⟨k, hk, rfl, hd⟩ := hrel
    have HD := hide hd
    clear hd
    by_cases hlt : k < n
    · obtain ⟨b, off, rfl, -, z0, z1, z2, z3⟩ := HP.out.atOrder hlt
      have HE : Hid (fdN g x k (n - k) = if g (k * 4) = x then (k : Int) else fdN g x (k + 1) (n - (k + 1))) := by
        show _ = _
        rw [show n - k = n - (k + 1) + 1 by omega]; rfl
      by_cases he : g (k * 4) = x
      · rw [if_pos he] at HE
        rw [he] at z0
        clear HP z1 z2 z3 he
        go_wp2_with fail
        go_ret
        exact ⟨by rw [HD.out, HE.out]; rfl, HWB.out⟩
      · rw [if_neg he] at HE
        have heb : (g (k * 4) == x) = false := by simpa using he
        generalize g (k * 4) = y at *
        clear HP z1 z2 z3
        go_wp2_with fail
        exact ⟨⟨k + 1, by omega, rfl, by rw [HD.out, HE.out]⟩, by simp [intOf]; omega⟩
    · obtain rfl : k = n := by omega
      have HE : Hid (fdN g x k (k - k) = -1) := by show _ = _; rw [Nat.sub_self]; rfl
      clear HP
      go_wp2_with fail
      go_ret
      exact ⟨by rw [HD.out, HE.out]; rfl, HWB.out⟩

set_option maxRecDepth 100000 in
theorem cmpCompare_any (x y : Int) (w : World) :
    Calls Try.prog 39 #[.int .i64 x, .int .i64 y] w fun r w' => r = .returned (.int .i64 (if x < y then -1 else if y < x then 1 else 0)) ∧ w' = w := by
  have cN : ∀ (z : Int) (w : World), Calls Try.prog 42 #[.int .i64 z] w fun r w' => r = .returned (.bool false) ∧ w' = w := fun z w => by
    have q : (z != z) = false := by simp
    go_enter Try.func42, Try.ntmps42
    go_wp2_with fail
    go_ret
    exact ⟨by simp, rfl⟩
  have cx := cN x
  have cy := cN y
  clear cN
  by_cases h1 : x < y
  · rw [if_pos h1]
    go_enter Try.func39, Try.ntmps39
    go_wp2_with fail
    refine (cx _).mono ?_
    rintro r w1 ⟨rfl, rfl⟩
    go_wp2_with fail
    refine (cy _).mono ?_
    rintro r w1 ⟨rfl, rfl⟩
    go_wp2_with fail
    go_ret
    exact ⟨rfl, rfl⟩
  · rw [if_neg h1]
    by_cases h2 : y < x
    · rw [if_pos h2]
      go_enter Try.func39, Try.ntmps39
      go_wp2_with fail
      refine (cx _).mono ?_
      rintro r w1 ⟨rfl, rfl⟩
      go_wp2_with fail
      refine (cy _).mono ?_
      rintro r w1 ⟨rfl, rfl⟩
      go_wp2_with fail
      go_ret
      exact ⟨rfl, rfl⟩
    · rw [if_neg h2]
      go_enter Try.func39, Try.ntmps39
      go_wp2_with fail
      refine (cx _).mono ?_
      rintro r w1 ⟨rfl, rfl⟩
      go_wp2_with fail
      refine (cy _).mono ?_
      rintro r w1 ⟨rfl, rfl⟩
      go_wp2_with fail
      go_ret
      exact ⟨rfl, rfl⟩

set_option maxRecDepth 100000 in
theorem placeCmp_any (i s d e x : Int) (w : World) :
    Calls Try.prog 38 #[vOrder i s d e, .int .i64 x] w fun r w' => r = .returned (.int .i64 (if i < x then -1 else if x < i then 1 else 0)) ∧ Below w.heap.size w w' := by
  have HB := hide (bnew w (cOrder i s d e 41))
  have c := cmpCompare_any i x
  generalize (if i < x then (-1 : Int) else if x < i then 1 else 0) = V at *
  go_enter Try.func38, Try.ntmps38
  go_wp2_with fail
  refine (c _).mono ?_
  rintro r w1 ⟨rfl, rfl⟩
  go_wp2_with fail
  go_ret
  exact ⟨rfl, HB.out⟩

end Go.Proofs.Ytfhfddmiiopgdaa

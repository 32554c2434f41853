/- The values of elements: both sides. -/
import Derived.Test.YteadhhhhnihoaaaElt
import Derived.Test.YteadhhhhnihoaaaIdf
namespace Go.Proofs.Yteadhhhhnihoaaa
open Go.RowKit

/-- a text that is empty -/
def tE (t : ByteArray) : Bool := t.toList.isEmpty
theorem tE_size {t : ByteArray} (h : tE t = true) : t.size = 0 := by
  unfold tE at h
  rw [ByteArray.toList_eq] at h
  have : t.data.toList = [] := by simpa using h
  show t.data.size = 0
  simpa using congrArg List.length this
/-- has an element a value as its kind wants it -/
def valB (k : Int) (t : ByteArray) (l : Nat) (f : Nat → Int) : Bool :=
  if k = 1 ∨ k = 2 then decide (l = 0) && decide (t.size ≤ 4096)
  else if k = 3 then tE t && decide (l ≤ 4096) && alW f (-2147483648) 2147483647 l
  else if k = 4 then tE t && decide (l ≤ 4096)
  else if k = 5 ∨ k = 6 then tE t && decide (l = 0)
  else false
theorem valB_long {k : Int} {t : ByteArray} {l : Nat} {f : Nat → Int} (h : 4096 < t.size ∨ 4096 < l) : valB k t l f = false := by
  rw [Bool.eq_false_iff]
  intro hv
  unfold valB at hv
  split at hv
  · rw [Bool.and_eq_true] at hv
    have := of_decide_eq_true hv.1; have := of_decide_eq_true hv.2; omega
  · split at hv
    · rw [Bool.and_eq_true, Bool.and_eq_true] at hv
      have := tE_size hv.1.1; have := of_decide_eq_true hv.1.2; omega
    · split at hv
      · rw [Bool.and_eq_true] at hv
        have := tE_size hv.1; have := of_decide_eq_true hv.2; omega
      · split at hv
        · rw [Bool.and_eq_true] at hv
          have := tE_size hv.1; have := of_decide_eq_true hv.2; omega
        · cases hv

set_option maxRecDepth 100000 in
set_option maxHeartbeats 2000000 in
theorem hasValue_any (g n k : Int) (t : ByteArray) (x : Option Addr) (l c : Nat) (f : Nat → Int) (s : Int) (hl : l ≤ 1048576) (w : World) (h : Px x l f w) :
    Calls Try.prog 49 #[vE g n k t x l c s] w fun e w' => e = .returned (.bool (valB k t l f)) ∧ Below w.heap.size w w' := by
  have HB := hide (bnew w (.cells #[.int .i64 g, .int .i64 n, .int .i64 k, .string t, .slice x l c, .int .i64 s] 53))
  have HP := hide (h.below HB.out)
  clear h
  by_cases k1 : k = 1
  · subst k1
    by_cases l0 : l = 0
    · have e0 : ((l : Int) == 0) = true := by simp [l0]
      by_cases c0 : t.size ≤ 4096
      · have c1 : (t.size : Int) ≤ 4096 := by omega
        have hv : valB 1 t l f = true := by unfold valB; rw [if_pos (by omega), decide_eq_true l0, decide_eq_true c0]; rfl
        rw [hv]
        clear hv
        go_enter Try.func49, Try.ntmps49
        go_wp2_with fail
        go_ret
        exact ⟨rfl, bnew _ _⟩
      · have c1 : ¬ (t.size : Int) ≤ 4096 := by omega
        have hv : valB 1 t l f = false := by unfold valB; rw [if_pos (by omega), decide_eq_false c0, Bool.and_false]
        rw [hv]
        clear hv
        go_enter Try.func49, Try.ntmps49
        go_wp2_with fail
        go_ret
        exact ⟨rfl, bnew _ _⟩
    · have e0 : ((l : Int) == 0) = false := by simp; omega
      have hv : valB 1 t l f = false := by unfold valB; rw [if_pos (by omega), decide_eq_false l0]; rfl
      rw [hv]
      clear hv
      go_enter Try.func49, Try.ntmps49
      go_wp2_with fail
      go_ret
      exact ⟨rfl, bnew _ _⟩
  have e1 : (k == 1) = false := beq_false_of_ne k1
  by_cases k2 : k = 2
  · subst k2
    by_cases l0 : l = 0
    · have e0 : ((l : Int) == 0) = true := by simp [l0]
      by_cases c0 : t.size ≤ 4096
      · have c1 : (t.size : Int) ≤ 4096 := by omega
        have hv : valB 2 t l f = true := by unfold valB; rw [if_pos (by omega), decide_eq_true l0, decide_eq_true c0]; rfl
        rw [hv]
        clear hv
        go_enter Try.func49, Try.ntmps49
        go_wp2_with fail
        go_ret
        exact ⟨rfl, bnew _ _⟩
      · have c1 : ¬ (t.size : Int) ≤ 4096 := by omega
        have hv : valB 2 t l f = false := by unfold valB; rw [if_pos (by omega), decide_eq_false c0, Bool.and_false]
        rw [hv]
        clear hv
        go_enter Try.func49, Try.ntmps49
        go_wp2_with fail
        go_ret
        exact ⟨rfl, bnew _ _⟩
    · have e0 : ((l : Int) == 0) = false := by simp; omega
      have hv : valB 2 t l f = false := by unfold valB; rw [if_pos (by omega), decide_eq_false l0]; rfl
      rw [hv]
      clear hv
      go_enter Try.func49, Try.ntmps49
      go_wp2_with fail
      go_ret
      exact ⟨rfl, bnew _ _⟩
  have e2 : (k == 2) = false := beq_false_of_ne k2
  by_cases k3 : k = 3
  · subst k3
    cases te : tE t with
    | false =>
      have e8 : t.toList.isEmpty = false := te
      have hv : valB 3 t l f = false := by unfold valB; rw [if_neg (by omega), if_pos rfl, te]; rfl
      rw [hv]
      clear hv
      go_enter Try.func49, Try.ntmps49
      go_wp2_with fail
      go_ret
      exact ⟨rfl, bnew _ _⟩
    | true =>
      have e8 : t.toList.isEmpty = true := te
      by_cases c0 : l ≤ 4096
      · have c1 : (l : Int) ≤ 4096 := by omega
        have hv : valB 3 t l f = alW f (-2147483648) 2147483647 l := by unfold valB; rw [if_neg (by omega), if_pos rfl, te, decide_eq_true c0]; rfl
        rw [hv]
        have cA := fun w' h' => allWithin_any (-2147483648) 2147483647 x l c f hl w' h'
        generalize alW f (-2147483648) 2147483647 l = r at *
        clear hv
        go_enter Try.func49, Try.ntmps49
        go_wp2_with fail
        refine (cA _ HP.out).mono ?_
        rintro _ _ ⟨rfl, rfl⟩
        go_wp2_with fail
        go_ret
        exact ⟨rfl, HB.out⟩
      · have c1 : ¬ (l : Int) ≤ 4096 := by omega
        have hv : valB 3 t l f = false := by exact valB_long (.inr (by omega))
        rw [hv]
        clear hv
        go_enter Try.func49, Try.ntmps49
        go_wp2_with fail
        go_ret
        exact ⟨rfl, bnew _ _⟩
  have e3 : (k == 3) = false := beq_false_of_ne k3
  by_cases k4 : k = 4
  · subst k4
    cases te : tE t with
    | false =>
      have e8 : t.toList.isEmpty = false := te
      have hv : valB 4 t l f = false := by unfold valB; rw [if_neg (by omega), if_neg (by omega), if_pos rfl, te]; rfl
      rw [hv]
      clear hv
      go_enter Try.func49, Try.ntmps49
      go_wp2_with fail
      go_ret
      exact ⟨rfl, bnew _ _⟩
    | true =>
      have e8 : t.toList.isEmpty = true := te
      by_cases c0 : l ≤ 4096
      · have c1 : (l : Int) ≤ 4096 := by omega
        have hv : valB 4 t l f = true := by unfold valB; rw [if_neg (by omega), if_neg (by omega), if_pos rfl, te, decide_eq_true c0]; rfl
        rw [hv]
        clear hv
        go_enter Try.func49, Try.ntmps49
        go_wp2_with fail
        go_ret
        exact ⟨rfl, bnew _ _⟩
      · have c1 : ¬ (l : Int) ≤ 4096 := by omega
        have hv : valB 4 t l f = false := by exact valB_long (.inr (by omega))
        rw [hv]
        clear hv
        go_enter Try.func49, Try.ntmps49
        go_wp2_with fail
        go_ret
        exact ⟨rfl, bnew _ _⟩
  have e4 : (k == 4) = false := beq_false_of_ne k4
  by_cases k5 : k = 5
  · subst k5
    cases te : tE t with
    | false =>
      have e8 : t.toList.isEmpty = false := te
      have hv : valB 5 t l f = false := by unfold valB; rw [if_neg (by omega), if_neg (by omega), if_neg (by omega), if_pos (by omega), te]; rfl
      rw [hv]
      clear hv
      go_enter Try.func49, Try.ntmps49
      go_wp2_with fail
      go_ret
      exact ⟨rfl, bnew _ _⟩
    | true =>
      have e8 : t.toList.isEmpty = true := te
      by_cases l0 : l = 0
      · have e0 : ((l : Int) == 0) = true := by simp [l0]
        have hv : valB 5 t l f = true := by unfold valB; rw [if_neg (by omega), if_neg (by omega), if_neg (by omega), if_pos (by omega), te, decide_eq_true l0]; rfl
        rw [hv]
        clear hv
        go_enter Try.func49, Try.ntmps49
        go_wp2_with fail
        go_ret
        exact ⟨rfl, bnew _ _⟩
      · have e0 : ((l : Int) == 0) = false := by simp; omega
        have hv : valB 5 t l f = false := by unfold valB; rw [if_neg (by omega), if_neg (by omega), if_neg (by omega), if_pos (by omega), te, decide_eq_false l0]; rfl
        rw [hv]
        clear hv
        go_enter Try.func49, Try.ntmps49
        go_wp2_with fail
        go_ret
        exact ⟨rfl, bnew _ _⟩
  have e5 : (k == 5) = false := beq_false_of_ne k5
  by_cases k6 : k = 6
  · subst k6
    cases te : tE t with
    | false =>
      have e8 : t.toList.isEmpty = false := te
      have hv : valB 6 t l f = false := by unfold valB; rw [if_neg (by omega), if_neg (by omega), if_neg (by omega), if_pos (by omega), te]; rfl
      rw [hv]
      clear hv
      go_enter Try.func49, Try.ntmps49
      go_wp2_with fail
      go_ret
      exact ⟨rfl, bnew _ _⟩
    | true =>
      have e8 : t.toList.isEmpty = true := te
      by_cases l0 : l = 0
      · have e0 : ((l : Int) == 0) = true := by simp [l0]
        have hv : valB 6 t l f = true := by unfold valB; rw [if_neg (by omega), if_neg (by omega), if_neg (by omega), if_pos (by omega), te, decide_eq_true l0]; rfl
        rw [hv]
        clear hv
        go_enter Try.func49, Try.ntmps49
        go_wp2_with fail
        go_ret
        exact ⟨rfl, bnew _ _⟩
      · have e0 : ((l : Int) == 0) = false := by simp; omega
        have hv : valB 6 t l f = false := by unfold valB; rw [if_neg (by omega), if_neg (by omega), if_neg (by omega), if_pos (by omega), te, decide_eq_false l0]; rfl
        rw [hv]
        clear hv
        go_enter Try.func49, Try.ntmps49
        go_wp2_with fail
        go_ret
        exact ⟨rfl, bnew _ _⟩
  have e6 : (k == 6) = false := beq_false_of_ne k6
  have hv : valB k t l f = false := by unfold valB; rw [if_neg (by omega), if_neg (by omega), if_neg (by omega), if_neg (by omega)]
  rw [hv]
  clear hv
  go_enter Try.func49, Try.ntmps49
  go_wp2_with fail
  go_ret
  exact ⟨rfl, bnew _ _⟩

set_option maxRecDepth 100000 in
set_option maxHeartbeats 2000000 in
theorem l12Value_any (g n k : Int) (t : ByteArray) (x : Option Addr) (l c : Nat) (f : Nat → Int) (s : Int) (hl : l ≤ 1048576) (w : World) (h : Px x l f w) :
    Calls Try.prog 47 #[vE g n k t x l c s] w fun e w' => e = .returned (.bool (valB k t l f)) ∧ Below w.heap.size w w' := by
  have HB := hide (bnew w (.cells #[.int .i64 g, .int .i64 n, .int .i64 k, .string t, .slice x l c, .int .i64 s] 53))
  have HP := hide (h.below HB.out)
  clear h
  by_cases z1 : 4096 < t.size
  · have z2 : (4096 : Int) < t.size := by omega
    have hv : valB k t l f = false := by exact valB_long (.inl z1)
    rw [hv]
    clear hv
    go_enter Try.func47, Try.ntmps47
    go_wp2_with fail
    go_ret
    exact ⟨rfl, bnew _ _⟩
  have z2 : ¬ (4096 : Int) < t.size := by omega
  by_cases y1 : 4096 < l
  · have y2 : (4096 : Int) < l := by omega
    have hv : valB k t l f = false := by exact valB_long (.inr y1)
    rw [hv]
    clear hv
    go_enter Try.func47, Try.ntmps47
    go_wp2_with fail
    go_ret
    exact ⟨rfl, bnew _ _⟩
  have y2 : ¬ (4096 : Int) < l := by omega
  by_cases k1 : k = 1
  · subst k1
    by_cases l0 : l = 0
    · have e0 : ((l : Int) == 0) = true := by simp [l0]
      have hv : valB 1 t l f = true := by unfold valB; rw [if_pos (by omega), decide_eq_true l0, decide_eq_true (show t.size ≤ 4096 by omega)]; rfl
      rw [hv]
      clear hv
      go_enter Try.func47, Try.ntmps47
      go_wp2_with fail
      go_ret
      exact ⟨rfl, bnew _ _⟩
    · have e0 : ((l : Int) == 0) = false := by simp; omega
      have hv : valB 1 t l f = false := by unfold valB; rw [if_pos (by omega), decide_eq_false l0]; rfl
      rw [hv]
      clear hv
      go_enter Try.func47, Try.ntmps47
      go_wp2_with fail
      go_ret
      exact ⟨rfl, bnew _ _⟩
  have e1 : (k == 1) = false := beq_false_of_ne k1
  by_cases k2 : k = 2
  · subst k2
    by_cases l0 : l = 0
    · have e0 : ((l : Int) == 0) = true := by simp [l0]
      have hv : valB 2 t l f = true := by unfold valB; rw [if_pos (by omega), decide_eq_true l0, decide_eq_true (show t.size ≤ 4096 by omega)]; rfl
      rw [hv]
      clear hv
      go_enter Try.func47, Try.ntmps47
      go_wp2_with fail
      go_ret
      exact ⟨rfl, bnew _ _⟩
    · have e0 : ((l : Int) == 0) = false := by simp; omega
      have hv : valB 2 t l f = false := by unfold valB; rw [if_pos (by omega), decide_eq_false l0]; rfl
      rw [hv]
      clear hv
      go_enter Try.func47, Try.ntmps47
      go_wp2_with fail
      go_ret
      exact ⟨rfl, bnew _ _⟩
  have e2 : (k == 2) = false := beq_false_of_ne k2
  by_cases k3 : k = 3
  · subst k3
    have hv : valB 3 t l f = (tE t && alW f (-2147483648) 2147483647 l) := by unfold valB; rw [if_neg (by omega), if_pos rfl, decide_eq_true (show l ≤ 4096 by omega), Bool.and_true]
    rw [hv]
    have HV := hide hv
    clear hv
    obtain ⟨W, hW⟩ : ∃ W, W = w.alloc (.cells #[.int .i64 g, .int .i64 n, .int .i64 3, .string t, .slice x l c, .int .i64 s] 53) := ⟨_, rfl⟩
    have i3 : W.cell? ⟨w.heap.size, 3, none⟩ = some (.string t) := by rw [hW]; simp [go_sem]
    have i4 : W.cell? ⟨w.heap.size, 4, none⟩ = some (.slice x l c) := by rw [hW]; simp [go_sem]
    have i2 : W.cell? ⟨w.heap.size, 2, none⟩ = some (.int .i64 3) := by rw [hW]; simp [go_sem]
    rw [← hW] at HB HP
    have hW' := hW.symm
    clear hW
    go_enter Try.func47, Try.ntmps47
    go_wp2_with fail
    go_loopw [3] (fun i wr => ∃ j : Nat, j ≤ l ∧ i = .int .i64 j ∧ alW f (-2147483648) 2147483647 j = true ∧ wr = W) (fun i _ => l - (intOf i).toNat)
    case atStart => exact ⟨0, by omega, rfl, rfl, rfl⟩
    case round =>
      obtain ⟨j, hj, rfl, ha, rfl⟩ := hrel
      by_cases hlt : j < l
      · obtain ⟨b, off, rfl, hz⟩ := HP.out.at hlt
        have cI := fun w' => l1In_any (f j) (-2147483648) 2147483647 w'
        have HA : Hid (alW f (-2147483648) 2147483647 (j + 1) = (alW f (-2147483648) 2147483647 j && inB (f j) (-2147483648) 2147483647)) := rfl
        have HW := hide hW'
        clear HP hW'
        cases hi : inB (f j) (-2147483648) 2147483647 with
        | false =>
          have HR : Hid ((tE t && alW f (-2147483648) 2147483647 l) = false) := by show _ = _; rw [alW_false hlt hi, Bool.and_false]
          rw [hi] at cI
          go_wp2_with fail
          refine (cI _).mono ?_
          rintro _ _ ⟨rfl, rfl⟩
          go_wp2_with fail
          go_ret
          exact ⟨by rw [HR.out]; rfl, HB.out⟩
        | true =>
          rw [hi] at cI
          go_wp2_with fail
          refine (cI _).mono ?_
          rintro _ _ ⟨rfl, rfl⟩
          go_wp2_with fail
          go_roundw
          case rel => exact ⟨j + 1, by omega, by simp, by rw [HA.out, ha, hi]; rfl, trivial⟩
          case measure => simp [intOf]; omega
      · obtain rfl : j = l := by omega
        have HA := hide ha
        clear ha HP hW'
        cases te : tE t with
        | false =>
          have e8 : t.toList.isEmpty = false := te
          have HR : Hid ((tE t && alW f (-2147483648) 2147483647 j) = false) := by show _ = _; rw [te]; rfl
          go_wp2_with fail
          go_ret
          exact ⟨by rw [HR.out]; rfl, HB.out⟩
        | true =>
          have e8 : t.toList.isEmpty = true := te
          have HR : Hid ((tE t && alW f (-2147483648) 2147483647 j) = true) := by show _ = _; rw [te, HA.out]; rfl
          go_wp2_with fail
          go_ret
          exact ⟨by rw [HR.out]; rfl, HB.out⟩
  have e3 : (k == 3) = false := beq_false_of_ne k3
  by_cases k4 : k = 4
  · subst k4
    cases te : tE t with
    | false =>
      have e8 : t.toList.isEmpty = false := te
      have hv : valB 4 t l f = false := by unfold valB; rw [if_neg (by omega), if_neg (by omega), if_pos rfl, te]; rfl
      rw [hv]
      clear hv
      go_enter Try.func47, Try.ntmps47
      go_wp2_with fail
      go_ret
      exact ⟨rfl, bnew _ _⟩
    | true =>
      have e8 : t.toList.isEmpty = true := te
      have hv : valB 4 t l f = true := by unfold valB; rw [if_neg (by omega), if_neg (by omega), if_pos rfl, te, decide_eq_true (show l ≤ 4096 by omega)]; rfl
      rw [hv]
      clear hv
      go_enter Try.func47, Try.ntmps47
      go_wp2_with fail
      go_ret
      exact ⟨rfl, bnew _ _⟩
  have e4 : (k == 4) = false := beq_false_of_ne k4
  by_cases k5 : k = 5
  · subst k5
    cases te : tE t with
    | false =>
      have e8 : t.toList.isEmpty = false := te
      have hv : valB 5 t l f = false := by unfold valB; rw [if_neg (by omega), if_neg (by omega), if_neg (by omega), if_pos (by omega), te]; rfl
      rw [hv]
      clear hv
      go_enter Try.func47, Try.ntmps47
      go_wp2_with fail
      go_ret
      exact ⟨rfl, bnew _ _⟩
    | true =>
      have e8 : t.toList.isEmpty = true := te
      by_cases l0 : l = 0
      · have e0 : ((l : Int) == 0) = true := by simp [l0]
        have hv : valB 5 t l f = true := by unfold valB; rw [if_neg (by omega), if_neg (by omega), if_neg (by omega), if_pos (by omega), te, decide_eq_true l0]; rfl
        rw [hv]
        clear hv
        go_enter Try.func47, Try.ntmps47
        go_wp2_with fail
        go_ret
        exact ⟨rfl, bnew _ _⟩
      · have e0 : ((l : Int) == 0) = false := by simp; omega
        have hv : valB 5 t l f = false := by unfold valB; rw [if_neg (by omega), if_neg (by omega), if_neg (by omega), if_pos (by omega), te, decide_eq_false l0]; rfl
        rw [hv]
        clear hv
        go_enter Try.func47, Try.ntmps47
        go_wp2_with fail
        go_ret
        exact ⟨rfl, bnew _ _⟩
  have e5 : (k == 5) = false := beq_false_of_ne k5
  by_cases k6 : k = 6
  · subst k6
    cases te : tE t with
    | false =>
      have e8 : t.toList.isEmpty = false := te
      have hv : valB 6 t l f = false := by unfold valB; rw [if_neg (by omega), if_neg (by omega), if_neg (by omega), if_pos (by omega), te]; rfl
      rw [hv]
      clear hv
      go_enter Try.func47, Try.ntmps47
      go_wp2_with fail
      go_ret
      exact ⟨rfl, bnew _ _⟩
    | true =>
      have e8 : t.toList.isEmpty = true := te
      by_cases l0 : l = 0
      · have e0 : ((l : Int) == 0) = true := by simp [l0]
        have hv : valB 6 t l f = true := by unfold valB; rw [if_neg (by omega), if_neg (by omega), if_neg (by omega), if_pos (by omega), te, decide_eq_true l0]; rfl
        rw [hv]
        clear hv
        go_enter Try.func47, Try.ntmps47
        go_wp2_with fail
        go_ret
        exact ⟨rfl, bnew _ _⟩
      · have e0 : ((l : Int) == 0) = false := by simp; omega
        have hv : valB 6 t l f = false := by unfold valB; rw [if_neg (by omega), if_neg (by omega), if_neg (by omega), if_pos (by omega), te, decide_eq_false l0]; rfl
        rw [hv]
        clear hv
        go_enter Try.func47, Try.ntmps47
        go_wp2_with fail
        go_ret
        exact ⟨rfl, bnew _ _⟩
  have e6 : (k == 6) = false := beq_false_of_ne k6
  have hv : valB k t l f = false := by unfold valB; rw [if_neg (by omega), if_neg (by omega), if_neg (by omega), if_neg (by omega)]
  rw [hv]
  clear hv
  go_enter Try.func47, Try.ntmps47
  go_wp2_with fail
  go_ret
  exact ⟨rfl, bnew _ _⟩

end Go.Proofs.Yteadhhhhnihoaaa

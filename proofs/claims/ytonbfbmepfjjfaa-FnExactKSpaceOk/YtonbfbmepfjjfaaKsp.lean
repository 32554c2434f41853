/- What has been sampled, when it is right: the specification and the program. -/
import Derived.Test.YtonbfbmepfjjfaaSid
import Derived.Test.YtonbfbmepfjjfaaHom
namespace Go.Proofs.Ytonbfbmepfjjfaa
open Go.RowKit

/-- what has been sampled, as a value -/
abbrev ks (N : Int) (a : Option Addr) (n cap : Nat) (a' : Option Addr) (n' cap' : Nat) : Value := .agg #[.int .i64 N, .slice a n cap, .slice a' n' cap']
/-- is a place right -/
def kP (f g : Nat → Int) (k : Nat) : Bool := inB (f k) 0 8192 && (inB (g k) 0 12288 && !(f k == 0 && g k != 0))
/-- is it right -/
def kB (N : Int) (n : Nat) (f : Nat → Int) (n' : Nat) (g : Nat → Int) : Bool := sideB N && (decide ((n : Int) = N * N) && (decide (n' = n) && allG (kP f g) n))

set_option maxRecDepth 100000 in
set_option maxHeartbeats 1000000 in
theorem specKOk_any (N : Int) (a : Option Addr) (n cap : Nat) (f : Nat → Int) (hl : n ≤ 1048576) (a' : Option Addr) (n' cap' : Nat) (g : Nat → Int) (hl' : n' ≤ 1048576) (w : World) (h : Px a n f w) (h' : Px a' n' g w) :
    Calls Try.prog 48 #[ks N a n cap a' n' cap'] w fun e w' => e = .returned (.bool (kB N n f n' g)) ∧ Below w.heap.size w w' := by
  have HB0 : Hid (∀ o, Below w.heap.size w (w.alloc o)) := fun o => bnew w o
  have cs := l3Side_any N
  cases hs : sideB N
  · have hr : kB N n f n' g = false := by unfold kB; rw [hs]; rfl
    rw [hr]
    rw [hs] at cs
    clear hs hr h h'
    go_enter Try.func48, Try.ntmps48
    go_wp2_with fail
    refine (cs _).mono ?_
    rintro e w1 ⟨rfl, rfl⟩
    go_wp2_with fail
    go_ret
    exact ⟨rfl, HB0.out _⟩
  rw [hs] at cs
  obtain ⟨m, rfl, m1, m2⟩ := sideB_nat hs
  have hmm : m * m ≤ 4096 := Nat.mul_le_mul m2 m2
  have hw : IntKind.i64.wrap ((m : Int) * (m : Int)) = ((m * m : Nat) : Int) := by rw [IntKind.wrap_i64, ← Int.natCast_mul]; omega
  by_cases hn : n = m * m
  case neg =>
    have hr : kB m n f n' g = false := by
      unfold kB
      rw [decide_eq_false (show ¬ (n : Int) = (m : Int) * m from fun e => hn (by rw [← Int.natCast_mul] at e; omega))]
      simp
    rw [hr]
    have hq : ((n : Int) != ((m * m : Nat) : Int)) = true := by simp; omega
    generalize m * m = M at *
    clear hs hr h h' hn hmm
    go_enter Try.func48, Try.ntmps48
    go_wp2_with fail
    refine (cs _).mono ?_
    rintro e w1 ⟨rfl, rfl⟩
    go_wp2_with fail
    go_ret
    exact ⟨rfl, HB0.out _⟩
  have hq : ((n : Int) != ((m * m : Nat) : Int)) = false := by simp; omega
  by_cases hn' : n' = n
  case neg =>
    have hr : kB m n f n' g = false := by unfold kB; rw [decide_eq_false hn']; simp
    rw [hr]
    have hq' : ((n' : Int) != (n : Int)) = true := by simp; omega
    generalize m * m = M at *
    clear hs hr h h' hn hmm hn'
    go_enter Try.func48, Try.ntmps48
    go_wp2_with fail
    refine (cs _).mono ?_
    rintro e w1 ⟨rfl, rfl⟩
    go_wp2_with fail
    go_ret
    exact ⟨rfl, HB0.out _⟩
  have hr : kB m n f n' g = allG (kP f g) n := by
    unfold kB
    rw [hs, decide_eq_true (show (n : Int) = (m : Int) * m by rw [← Int.natCast_mul]; omega), decide_eq_true hn']
    rfl
  rw [hr]
  clear hr hs hq
  subst hn'
  subst hn
  have hpos : 0 < m * m := Nat.mul_pos (by omega) (by omega)
  have HP := hide h
  have HP' := hide h'
  obtain ⟨b, off, rfl, _⟩ := h.lt (by omega)
  obtain ⟨b', off', rfl, _⟩ := h'.lt (by omega)
  clear h h' hl'
  generalize m * m = n' at *
  have hq' : ((n' : Int) != (n' : Int)) = false := by simp
  go_enter Try.func48, Try.ntmps48
  go_wp2_with fail
  refine (cs _).mono ?_
  rintro e w1 ⟨rfl, rfl⟩
  clear cs
  go_wp2_with fail
  clear hq' hw hpos hmm
  have HBx : Hid (Below w.heap.size w (w.alloc (.cells #[.int .i64 (m : Int), .slice (some ⟨b, off, none⟩) n' cap, .slice (some ⟨b', off', none⟩) n' cap'] 34))) := bnew _ _
  go_loop [3] (fun i => ∃ k : Nat, k ≤ n' ∧ i = .int .i64 k ∧ allG (kP f g) k = true) (fun i => n' - (intOf i).toNat)
  case atStart => exact ⟨0, by omega, rfl, rfl⟩
  case round =>
    obtain ⟨k, hk, rfl, ha⟩ := hrel
    by_cases hlt : k < n'
    · obtain ⟨_, _, heq, hz⟩ := (HP.out.below HBx.out).at hlt
      cases heq
      obtain ⟨_, _, heq, hy⟩ := (HP'.out.below HBx.out).at hlt
      cases heq
      have c1 := l1In_any (f k) 0 8192
      have c2 := l1In_any (g k) 0 12288
      have HF : Hid (kP f g k = false → allG (kP f g) n' = false) := fun e => allG_no k hlt e
      have HT : Hid (kP f g k = true → allG (kP f g) (k + 1) = true) := fun e => by simp only [allG, ha, e]; rfl
      have hd : kP f g k = (inB (f k) 0 8192 && (inB (g k) 0 12288 && !(f k == 0 && g k != 0))) := rfl
      rw [hd] at HF HT
      clear HP HP' ha hd
      generalize f k = x at *
      generalize g k = y at *
      cases e1 : inB x 0 8192
      · have hr := HF.out (by rw [e1]; rfl)
        have HR := hide hr
        rw [e1] at c1
        clear HF HT hr e1 c2
        go_wp2_with fail
        refine (c1 _).mono ?_
        rintro e w2 ⟨rfl, rfl⟩
        go_wp2_with fail
        go_ret
        exact ⟨by rw [HR.out]; rfl, HB0.out _⟩
      rw [e1] at c1
      cases e2 : inB y 0 12288
      · have hr := HF.out (by rw [e1, e2]; rfl)
        have HR := hide hr
        rw [e2] at c2
        clear HF HT hr e1 e2
        go_wp2_with fail
        refine (c1 _).mono ?_
        rintro e w2 ⟨rfl, rfl⟩
        go_wp2_with fail
        refine (c2 _).mono ?_
        rintro e w2 ⟨rfl, rfl⟩
        go_wp2_with fail
        go_ret
        exact ⟨by rw [HR.out]; rfl, HB0.out _⟩
      rw [e2] at c2
      cases e3 : (x == 0)
      · have hr := hide (HT.out (by rw [e1, e2, e3]; rfl))
        have e3' : ¬ x = 0 := by simpa using e3
        clear HF HT e1 e2
        go_wp2_with fail
        refine (c1 _).mono ?_
        rintro e w2 ⟨rfl, rfl⟩
        go_wp2_with fail
        refine (c2 _).mono ?_
        rintro e w2 ⟨rfl, rfl⟩
        go_wp2_with fail
        exact ⟨⟨k + 1, by omega, rfl, hr.out⟩, by simp [intOf]; omega⟩
      obtain rfl : x = 0 := by simpa using e3
      cases e4 : (y != 0)
      · have hr := hide (HT.out (by rw [e1, e2, e3, e4]; rfl))
        obtain rfl : y = 0 := by simpa using e4
        clear HF HT e1 e2 e3 e4
        go_wp2_with fail
        refine (c1 _).mono ?_
        rintro e w2 ⟨rfl, rfl⟩
        go_wp2_with fail
        refine (c2 _).mono ?_
        rintro e w2 ⟨rfl, rfl⟩
        go_wp2_with fail
        exact ⟨⟨k + 1, by omega, rfl, hr.out⟩, by simp [intOf]; omega⟩
      · have hr := HF.out (by rw [e1, e2, e3, e4]; rfl)
        have HR := hide hr
        have e4' : ¬ y = 0 := by simpa using e4
        clear HF HT hr e1 e2 e3
        go_wp2_with fail
        refine (c1 _).mono ?_
        rintro e w2 ⟨rfl, rfl⟩
        go_wp2_with fail
        refine (c2 _).mono ?_
        rintro e w2 ⟨rfl, rfl⟩
        go_wp2_with fail
        go_ret
        exact ⟨by rw [HR.out]; rfl, HB0.out _⟩
    · obtain rfl : k = n' := by omega
      have HA := hide ha
      clear ha HP HP'
      go_wp2_with fail
      go_ret
      exact ⟨by rw [HA.out]; rfl, HB0.out _⟩

set_option maxRecDepth 100000 in
set_option maxHeartbeats 1000000 in
theorem implKOk_any (N : Int) (a : Option Addr) (n cap : Nat) (f : Nat → Int) (hl : n ≤ 1048576) (a' : Option Addr) (n' cap' : Nat) (g : Nat → Int) (hl' : n' ≤ 1048576) (w : World) (h : Px a n f w) (h' : Px a' n' g w) :
    Calls Try.prog 24 #[ks N a n cap a' n' cap'] w fun e w' => e = .returned (.bool (kB N n f n' g)) ∧ Below w.heap.size w w' := by
  have HB0 : Hid (∀ o, Below w.heap.size w (w.alloc o)) := fun o => bnew w o
  have cs := isSd_any N
  cases hs : sideB N
  · have hr : kB N n f n' g = false := by unfold kB; rw [hs]; rfl
    rw [hr]
    rw [hs] at cs
    clear hs hr h h'
    go_enter Try.func24, Try.ntmps24
    go_wp2_with fail
    refine (cs _).mono ?_
    rintro e w1 ⟨rfl, rfl⟩
    go_wp2_with fail
    go_ret
    exact ⟨rfl, HB0.out _⟩
  rw [hs] at cs
  obtain ⟨m, rfl, m1, m2⟩ := sideB_nat hs
  have hmm : m * m ≤ 4096 := Nat.mul_le_mul m2 m2
  have hw : IntKind.i64.wrap ((m : Int) * (m : Int)) = ((m * m : Nat) : Int) := by rw [IntKind.wrap_i64, ← Int.natCast_mul]; omega
  by_cases hn : n = m * m
  case neg =>
    have hr : kB m n f n' g = false := by
      unfold kB
      rw [decide_eq_false (show ¬ (n : Int) = (m : Int) * m from fun e => hn (by rw [← Int.natCast_mul] at e; omega))]
      simp
    rw [hr]
    have hq : ((n : Int) != ((m * m : Nat) : Int)) = true := by simp; omega
    generalize m * m = M at *
    clear hs hr h h' hn hmm
    go_enter Try.func24, Try.ntmps24
    go_wp2_with fail
    refine (cs _).mono ?_
    rintro e w1 ⟨rfl, rfl⟩
    go_wp2_with fail
    go_ret
    exact ⟨rfl, HB0.out _⟩
  have hq : ((n : Int) != ((m * m : Nat) : Int)) = false := by simp; omega
  by_cases hn' : n' = n
  case neg =>
    have hr : kB m n f n' g = false := by unfold kB; rw [decide_eq_false hn']; simp
    rw [hr]
    have hq' : ((n' : Int) != (n : Int)) = true := by simp; omega
    generalize m * m = M at *
    clear hs hr h h' hn hmm hn'
    go_enter Try.func24, Try.ntmps24
    go_wp2_with fail
    refine (cs _).mono ?_
    rintro e w1 ⟨rfl, rfl⟩
    go_wp2_with fail
    go_ret
    exact ⟨rfl, HB0.out _⟩
  have hr : kB m n f n' g = allG (kP f g) n := by
    unfold kB
    rw [hs, decide_eq_true (show (n : Int) = (m : Int) * m by rw [← Int.natCast_mul]; omega), decide_eq_true hn']
    rfl
  rw [hr]
  clear hr hs hq
  subst hn'
  subst hn
  have hpos : 0 < m * m := Nat.mul_pos (by omega) (by omega)
  have HP := hide h
  have HP' := hide h'
  obtain ⟨b, off, rfl, _⟩ := h.lt (by omega)
  obtain ⟨b', off', rfl, _⟩ := h'.lt (by omega)
  clear h h' hl'
  generalize m * m = n' at *
  have hq' : ((n' : Int) != (n' : Int)) = false := by simp
  go_enter Try.func24, Try.ntmps24
  go_wp2_with fail
  refine (cs _).mono ?_
  rintro e w1 ⟨rfl, rfl⟩
  clear cs
  go_wp2_with fail
  clear hq' hw hpos hmm
  have HBx : Hid (Below w.heap.size w (w.alloc (.cells #[.int .i64 (m : Int), .slice (some ⟨b, off, none⟩) n' cap, .slice (some ⟨b', off', none⟩) n' cap'] 34))) := bnew _ _
  go_loop [3, 4, 32] (fun _ _ i => ∃ k : Nat, k ≤ n' ∧ i = .int .i64 k ∧ allG (kP f g) k = true) (fun _ _ i => n' - (intOf i).toNat)
  case atStart => exact ⟨0, by omega, rfl, rfl⟩
  case round =>
    obtain ⟨k, hk, rfl, ha⟩ := hrel
    by_cases hlt : k < n'
    · obtain ⟨_, _, heq, hz⟩ := (HP.out.below HBx.out).at hlt
      cases heq
      obtain ⟨_, _, heq, hy⟩ := (HP'.out.below HBx.out).at hlt
      cases heq
      have c1 := within_any (f k) 0 8192
      have c2 := within_any (g k) 0 12288
      have HF : Hid (kP f g k = false → allG (kP f g) n' = false) := fun e => allG_no k hlt e
      have HT : Hid (kP f g k = true → allG (kP f g) (k + 1) = true) := fun e => by simp only [allG, ha, e]; rfl
      have hd : kP f g k = (inB (f k) 0 8192 && (inB (g k) 0 12288 && !(f k == 0 && g k != 0))) := rfl
      rw [hd] at HF HT
      clear HP HP' ha hd
      generalize f k = x at *
      generalize g k = y at *
      cases e1 : inB x 0 8192
      · have hr := HF.out (by rw [e1]; rfl)
        have HR := hide hr
        rw [e1] at c1
        clear HF HT hr e1 c2
        go_wp2_with fail
        refine (c1 _).mono ?_
        rintro e w2 ⟨rfl, rfl⟩
        go_wp2_with fail
        go_ret
        exact ⟨by rw [HR.out]; rfl, HB0.out _⟩
      rw [e1] at c1
      cases e2 : inB y 0 12288
      · have hr := HF.out (by rw [e1, e2]; rfl)
        have HR := hide hr
        rw [e2] at c2
        clear HF HT hr e1 e2
        go_wp2_with fail
        refine (c1 _).mono ?_
        rintro e w2 ⟨rfl, rfl⟩
        go_wp2_with fail
        refine (c2 _).mono ?_
        rintro e w2 ⟨rfl, rfl⟩
        go_wp2_with fail
        go_ret
        exact ⟨by rw [HR.out]; rfl, HB0.out _⟩
      rw [e2] at c2
      cases e3 : (x == 0)
      · have hr := hide (HT.out (by rw [e1, e2, e3]; rfl))
        have e3' : ¬ x = 0 := by simpa using e3
        clear HF HT e1 e2
        go_wp2_with fail
        refine (c1 _).mono ?_
        rintro e w2 ⟨rfl, rfl⟩
        go_wp2_with fail
        refine (c2 _).mono ?_
        rintro e w2 ⟨rfl, rfl⟩
        go_wp2_with fail
        exact ⟨⟨k + 1, by omega, rfl, hr.out⟩, by simp [intOf]; omega⟩
      obtain rfl : x = 0 := by simpa using e3
      cases e4 : (y != 0)
      · have hr := hide (HT.out (by rw [e1, e2, e3, e4]; rfl))
        obtain rfl : y = 0 := by simpa using e4
        clear HF HT e1 e2 e3 e4
        go_wp2_with fail
        refine (c1 _).mono ?_
        rintro e w2 ⟨rfl, rfl⟩
        go_wp2_with fail
        refine (c2 _).mono ?_
        rintro e w2 ⟨rfl, rfl⟩
        go_wp2_with fail
        exact ⟨⟨k + 1, by omega, rfl, hr.out⟩, by simp [intOf]; omega⟩
      · have hr := HF.out (by rw [e1, e2, e3, e4]; rfl)
        have HR := hide hr
        have e4' : ¬ y = 0 := by simpa using e4
        clear HF HT hr e1 e2 e3
        go_wp2_with fail
        refine (c1 _).mono ?_
        rintro e w2 ⟨rfl, rfl⟩
        go_wp2_with fail
        refine (c2 _).mono ?_
        rintro e w2 ⟨rfl, rfl⟩
        go_wp2_with fail
        go_ret
        exact ⟨by rw [HR.out]; rfl, HB0.out _⟩
    · obtain rfl : k = n' := by omega
      have HA := hide ha
      clear ha HP HP'
      go_wp2_with fail
      go_ret
      exact ⟨by rw [HA.out]; rfl, HB0.out _⟩

end Go.Proofs.Ytonbfbmepfjjfaa

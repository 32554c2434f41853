/- Doses of organs: what both sides ask and gather. -/
import Derived.Test.YtocmbdckjdggiaaDsn
import Derived.Test.YtocmbdckjdggiaaGrl
namespace Go.Proofs.Ytocmbdckjdggiaa
open Go.RowKit

set_option maxRecDepth 100000 in
set_option maxHeartbeats 2000000 in
theorem areDoses_any (a : Option Addr) (m cap : Nat) (f : Nat → Int) (hl : m ≤ 1048576) (a' : Option Addr) (p cap' : Nat) (hl' : p ≤ 1048576) (w : World) (h : Px a m f w) :
    Calls Try.prog 78 #[.slice a m cap, .slice a' p cap'] w fun e w' => e = .returned (.bool (dsB m p f)) ∧ w' = w := by
  have c := allWithin_any 0 1000000000 a m cap f hl w h
  unfold dsB
  clear h
  by_cases h1 : m = p
  · subst h1
    have q1 : ((m : Int) == (m : Int)) = true := by simp
    rw [decide_eq_true rfl, Bool.true_and]
    by_cases h2 : m ≤ 1024
    · rw [decide_eq_true h2, Bool.true_and]
      have h2' : (m : Int) ≤ 1024 := by omega
      generalize alW f 0 1000000000 m = r at *
      go_enter Try.func78, Try.ntmps78
      go_wp2_with fail
      refine c.mono ?_
      rintro e w1 ⟨rfl, rfl⟩
      go_wp2_with fail
      go_ret
      exact ⟨rfl, rfl⟩
    · rw [decide_eq_false h2, Bool.false_and]
      have h2' : ¬ (m : Int) ≤ 1024 := by omega
      clear c
      go_enter Try.func78, Try.ntmps78
      go_wp2_with fail
      go_ret
      exact ⟨rfl, rfl⟩
  · have q1 : ((m : Int) == (p : Int)) = false := by
      have : ¬ (m : Int) = (p : Int) := by omega
      simp [this]
    rw [decide_eq_false h1, Bool.false_and]
    clear c h1
    go_enter Try.func78, Try.ntmps78
    go_wp2_with fail
    go_ret
    exact ⟨rfl, rfl⟩

set_option maxRecDepth 100000 in
set_option maxHeartbeats 2000000 in
theorem l11Doses_any (a : Option Addr) (m cap : Nat) (f : Nat → Int) (hl : m ≤ 1048576) (a' : Option Addr) (p cap' : Nat) (hl' : p ≤ 1048576) (w : World) (h : Px a m f w) :
    Calls Try.prog 77 #[.slice a m cap, .slice a' p cap'] w fun e w' => e = .returned (.bool (dsB m p f)) ∧ w' = w := by
  have HP := hide h
  unfold dsB
  clear h
  by_cases h1 : m = p
  · subst h1
    have q1 : ((m : Int) != (m : Int)) = false := by simp
    rw [decide_eq_true rfl, Bool.true_and]
    by_cases h2 : m ≤ 1024
    · rw [decide_eq_true h2, Bool.true_and]
      have h2' : ¬ (1024 : Int) < (m : Int) := by omega
      go_enter Try.func77, Try.ntmps77
      go_wp2_with fail
      go_loop [5] (fun i => ∃ k : Nat, k ≤ m ∧ i = .int .i64 k ∧ alW f 0 1000000000 k = true) (fun i => m - (intOf i).toNat)
      case atStart => exact ⟨0, by omega, rfl, rfl⟩
      case round =>
        obtain ⟨k, hk, rfl, ha⟩ := hrel
        by_cases hlt : k < m
        · obtain ⟨b, off, rfl, hz⟩ := HP.out.at hlt
          have hcall := l1In_any (f k) 0 1000000000
          clear HP
          cases hi' : inB (f k) 0 1000000000
          · have HF : Hid (alW f 0 1000000000 m = false) := alW_false hlt hi'
            rw [hi'] at hcall
            clear ha hi'
            go_wp2_with fail
            refine (hcall _).mono ?_
            rintro e w' ⟨rfl, rfl⟩
            go_wp2_with fail
            go_ret
            exact ⟨by rw [HF.out]; rfl, rfl⟩
          · have HF : Hid (alW f 0 1000000000 (k + 1) = true) := alW_step ha hi'
            rw [hi'] at hcall
            clear ha hi'
            go_wp2_with fail
            refine (hcall _).mono ?_
            rintro e w' ⟨rfl, rfl⟩
            go_wp2_with fail
            exact ⟨⟨k + 1, by omega, rfl, HF.out⟩, by simp [intOf]; omega⟩
        · obtain rfl : k = m := by omega
          have HF := hide ha
          clear ha HP
          go_wp2_with fail
          go_ret
          exact ⟨by rw [HF.out]; rfl, rfl⟩
    · rw [decide_eq_false h2, Bool.false_and]
      have h2' : (1024 : Int) < (m : Int) := by omega
      go_enter Try.func77, Try.ntmps77
      go_wp2_with fail
      go_ret
      exact ⟨rfl, rfl⟩
  · have q1 : ((m : Int) != (p : Int)) = true := by
      have : ¬ (m : Int) = (p : Int) := by omega
      simp [this]
    rw [decide_eq_false h1, Bool.false_and]
    clear h1
    go_enter Try.func77, Try.ntmps77
    go_wp2_with fail
    go_ret
    exact ⟨rfl, rfl⟩

set_option maxRecDepth 100000 in
set_option maxHeartbeats 4000000 in
/-- the doses of an organ, in memory of their own -/
theorem dosesOf_any (a : Option Addr) (m cap : Nat) (f : Nat → Int) (hl : m ≤ 1048576) (a' : Option Addr) (cap' : Nat) (g : Nat → Int) (o : Int) (w : World) (h : Px a m f w) (h' : Px a' m g w) :
    Calls Try.prog 81 #[.slice a m cap, .slice a' m cap', .int .i64 o] w fun e w' => ∃ v, e = .returned v ∧ w'.ownsRow w.heap.size 2 1 v (doL f g o m).length (ints (doL f g o m)) ∧ Below w.heap.size w w' := by
  have HP := hide h
  have HP' := hide h'
  clear h h'
  go_enter Try.func81, Try.ntmps81
  go_wp2_with fail
  go_loopw [7, 8, 9, 12] (fun v _ _ i wr => ∃ k : Nat, k ≤ m ∧ i = .int .i64 k ∧ wr.ownsRow w.heap.size 2 1 v (doL f g o k).length (ints (doL f g o k)) ∧ Below w.heap.size w wr) (fun _ _ _ i _ => m - (intOf i).toNat)
  case atStart => exact ⟨0, by omega, rfl, World.ownsRow_nil _ _ _ _, Below.refl _ _⟩
  case round =>
    obtain ⟨k, hk, rfl, ho, hb⟩ := hrel
    have HO := hide ho
    have HB := hide hb
    have HSz := hide hb.size
    by_cases hlt : k < m
    · obtain ⟨b, off, rfl, hz⟩ := (HP.out.below hb).at hlt
      obtain ⟨b', off', rfl, hz'⟩ := (HP'.out.below hb).at hlt
      have hln := doL_len f g o k
      clear ho hb HP HP'
      by_cases hg : g k = o
      · have q1 : (g k == o) = true := by simp [hg]
        have HD : Hid (doL f g o (k + 1) = doL f g o k ++ [f k]) := doL_pos hg
        have HNL : Hid ((doL f g o k).length ≤ 1048576) := by show _ ≤ _; omega
        clear hln hg
        generalize f k = X at *
        generalize g k = Y at *
        go_wp2_with (refine growL _ rfl _ _ rfl w.heap.size _ _ (doL f g o k) rfl w HO.out HB.out HSz.out X rfl HNL.out ?_)
        intro v' w1 ho1 hb1 hs1
        have HO1 : Hid (w1.ownsRow w.heap.size 2 1 v' (doL f g o (k + 1)).length (ints (doL f g o (k + 1)))) := by
          rw [HD.out, List.length_append, List.length_singleton]; exact ho1
        have HB1 := hide hb1
        clear ho1 hb1 HO HB hs1 hz hz' q1 HD HSz HNL
        go_wp2_with fail
        exact ⟨⟨k + 1, by omega, rfl, HO1.out, HB1.out⟩, by simp [intOf]; omega⟩
      · have q1 : (g k == o) = false := by simp [hg]
        have HO1 : Hid (wr.ownsRow w.heap.size 2 1 u7 (doL f g o (k + 1)).length (ints (doL f g o (k + 1)))) := by rw [doL_neg hg]; exact HO.out
        clear hln hg HO
        go_wp2_with fail
        exact ⟨⟨k + 1, by omega, rfl, HO1.out, HB.out⟩, by simp [intOf]; omega⟩
    · obtain rfl : k = m := by omega
      clear ho hb HP HP'
      go_wp2_with fail
      go_ret
      exact ⟨_, rfl, HO.out, HB.out⟩

end Go.Proofs.Ytocmbdckjdggiaa

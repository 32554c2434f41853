/- ImageOk, the program. -/
import Derived.Test.YtadeajdjjcelhaaOk
namespace Go.Proofs.Ytadeajdjjcelhaa
open Go.RowKit

theorem hideA {p : Prop} (h : p) : Hid p := h

/-- are the first n numbers in range -/
def alW (f : Nat → Int) (lo hi : Int) : Nat → Bool
  | 0 => true
  | n + 1 => alW f lo hi n && inB (f n) lo hi
theorem alW_false {f : Nat → Int} {lo hi : Int} {n k : Nat} (hk : k < n) (h : inB (f k) lo hi = false) : alW f lo hi n = false := by
  induction n with
  | zero => omega
  | succ n ih =>
    unfold alW
    by_cases e : k = n
    · subst e; rw [h]; simp
    · rw [ih (by omega)]; rfl
theorem alW_step {f : Nat → Int} {lo hi : Int} {k : Nat} (h : alW f lo hi k = true) (h' : inB (f k) lo hi = true) : alW f lo hi (k + 1) = true := by
  unfold alW; rw [h, h']; rfl
theorem alW_at {f : Nat → Int} {lo hi : Int} : ∀ {n k : Nat}, alW f lo hi n = true → k < n → inB (f k) lo hi = true
  | n + 1, k, h, hk => by
    unfold alW at h
    rw [Bool.and_eq_true] at h
    by_cases e : k = n
    · subst e; exact h.2
    · exact alW_at h.1 (by omega)
theorem alW_allB (f : Nat → Int) : ∀ n, alW f (-1000000000) 1000000000 n = allB f n
  | 0 => rfl
  | n + 1 => by rw [alW, allB, alW_allB f n]

set_option maxHeartbeats 1000000 in
theorem allWithin_any (lo hi : Int) (a : Option Addr) (len cap : Nat) (f : Nat → Int) (hl : len ≤ 1048576) (w : World) (h : Px a len f w) :
    Calls Try.prog 56 #[.slice a len cap, .int .i64 lo, .int .i64 hi] w fun e w' => e = .returned (.bool (alW f lo hi len)) ∧ w' = w := by
  have HP := hideA h
  clear h
  go_enter Try.func56, Try.ntmps56
  go_wp2_with fail
  go_loop [8, 11] (fun _ i => ∃ k : Nat, k ≤ len ∧ i = .int .i64 k ∧ alW f lo hi k = true) (fun _ i => len - (intOf i).toNat)
  case atStart => exact ⟨0, by omega, rfl, rfl⟩
  case round =>
    obtain ⟨k, hk, rfl, ha⟩ := hrel
    by_cases hlt : k < len
    · obtain ⟨b, off, rfl, hz⟩ := HP.out.at hlt
      have hcall := within_any (f k) lo hi
      clear HP
      cases hi' : inB (f k) lo hi
      · have HF : Hid (alW f lo hi len = false) := alW_false hlt hi'
        rw [hi'] at hcall
        clear ha hi'
        go_wp2_with fail
        refine (hcall _).mono ?_
        rintro e w' ⟨rfl, rfl⟩
        go_wp2_with fail
        go_ret
        exact ⟨by rw [HF.out]; rfl, rfl⟩
      · have HF : Hid (alW f lo hi (k + 1) = true) := alW_step ha hi'
        rw [hi'] at hcall
        clear ha hi'
        go_wp2_with fail
        refine (hcall _).mono ?_
        rintro e w' ⟨rfl, rfl⟩
        go_wp2_with fail
        exact ⟨⟨k + 1, by omega, rfl, HF.out⟩, by simp [intOf]; omega⟩
    · obtain rfl : k = len := by omega
      have HA : Hid (alW f lo hi k = true) := ha
      clear ha HP
      go_wp2
      go_ret
      exact ⟨by rw [HA.out]; rfl, rfl⟩

theorem implOk_any (W H : Int) (a : Option Addr) (len cap : Nat) (f : Nat → Int) (hl : len ≤ 1048576) (w : World) (h : Px a len f w) :
    Calls Try.prog 28 #[im W H a len cap] w fun e w' => e = .returned (.bool (okB W H len f)) ∧ Below w.heap.size w w' := by
  have h1 := isSide_any W
  have h2 := isSide_any H
  have HB : Hid (∀ x, Below w.heap.size w (w.alloc x)) := fun x => (Below.refl _ _).alloc (Nat.le_refl _) _
  cases hW : inB W 1 64
  · have hr : okB W H len f = false := by unfold okB; rw [hW]; simp
    rw [hr]
    rw [hW] at h1
    clear h h2
    go_enter Try.func28, Try.ntmps28
    go_wp2_with fail
    refine (h1 _).mono ?_
    rintro e w' ⟨rfl, rfl⟩
    go_wp2_with fail
    go_ret
    exact ⟨rfl, HB.out _⟩
  cases hH : inB H 1 64
  · have hr : okB W H len f = false := by unfold okB; rw [hH]; simp
    rw [hr]
    rw [hW] at h1
    rw [hH] at h2
    clear h
    go_enter Try.func28, Try.ntmps28
    go_wp2_with fail
    refine (h1 _).mono ?_
    rintro e w' ⟨rfl, rfl⟩
    go_wp2_with fail
    refine (h2 _).mono ?_
    rintro e w' ⟨rfl, rfl⟩
    go_wp2_with fail
    go_ret
    exact ⟨rfl, HB.out _⟩
  rw [hW] at h1
  rw [hH] at h2
  obtain ⟨p1, p2⟩ := prod_bounds hW hH
  by_cases hp : (len : Int) = W * H
  · have hq : ((len : Int) != W * H) = false := by simp [hp]
    have hw : IntKind.i64.wrap (W * H) = W * H := by rw [IntKind.wrap_i64]; omega
    have hr : okB W H len f = allB f len := by unfold okB; rw [hW, hH, decide_eq_true hp]; simp
    rw [hr]
    have HP : Hid (Px a len f (w.alloc (.cells #[.int .i64 W, .int .i64 H, .slice a len cap] 29))) := h.below (HB.out _)
    clear h hp hr p1 p2
    go_enter Try.func28, Try.ntmps28
    go_wp2_with fail
    refine (h1 _).mono ?_
    rintro e w' ⟨rfl, rfl⟩
    go_wp2_with fail
    refine (h2 _).mono ?_
    rintro e w' ⟨rfl, rfl⟩
    go_wp2_with fail
    refine (allWithin_any (-1000000000) 1000000000 a len cap f hl _ HP.out).mono ?_
    rintro e w' ⟨rfl, rfl⟩
    rw [alW_allB]
    clear h1 h2 hq
    go_wp2_with fail
    go_ret
    exact ⟨rfl, HB.out _⟩
  · have hr : okB W H len f = false := by unfold okB; rw [decide_eq_false hp]; simp
    rw [hr]
    have hq : ((len : Int) != W * H) = true := by simp [hp]
    have hw : IntKind.i64.wrap (W * H) = W * H := by rw [IntKind.wrap_i64]; omega
    clear h hp
    go_enter Try.func28, Try.ntmps28
    go_wp2_with fail
    refine (h1 _).mono ?_
    rintro e w' ⟨rfl, rfl⟩
    go_wp2_with fail
    refine (h2 _).mono ?_
    rintro e w' ⟨rfl, rfl⟩
    go_wp2_with fail
    go_ret
    exact ⟨rfl, HB.out _⟩

end Go.Proofs.Ytadeajdjjcelhaa

/- When an image is right: the specification and the program say the same. -/
import Derived.Test.YtadeajdjjcelhaaImg
namespace Go.Proofs.Ytadeajdjjcelhaa
open Go.RowKit

theorem Px.at {a : Option Addr} {len k : Nat} {f : Nat → Int} {w : World} (h : Px a len f w) (hk : k < len) :
    ∃ b off, a = some ⟨b, off, none⟩ ∧ w.cell? ⟨b, off + k, none⟩ = some (.int .i64 (f k)) := by
  rcases h with h | ⟨b, off, ha, h⟩
  · omega
  · exact ⟨b, off, ha, h k hk⟩

/-- all numbers of a list are in range -/
def allB (f : Nat → Int) : Nat → Bool
  | 0 => true
  | n + 1 => allB f n && inB (f n) (-1000000000) 1000000000

theorem allB_false {f : Nat → Int} {n k : Nat} (hk : k < n) (h : inB (f k) (-1000000000) 1000000000 = false) : allB f n = false := by
  induction n with
  | zero => omega
  | succ n ih =>
    unfold allB
    by_cases hkn : k = n
    · subst hkn; rw [h, Bool.and_false]
    · rw [ih (by omega), Bool.false_and]

theorem allB_step {f : Nat → Int} {k : Nat} (h : allB f k = true) (h' : inB (f k) (-1000000000) 1000000000 = true) : allB f (k + 1) = true := by
  unfold allB; rw [h, h']; rfl

/-- is an image right -/
def okB (W H : Int) (len : Nat) (f : Nat → Int) : Bool := inB W 1 64 && inB H 1 64 && decide ((len : Int) = W * H) && allB f len

theorem side_bounds {x : Int} (h : inB x 1 64 = true) : 1 ≤ x ∧ x ≤ 64 := by
  unfold inB at h
  simp at h
  exact h

theorem prod_bounds {x y : Int} (hx : inB x 1 64 = true) (hy : inB y 1 64 = true) : 1 ≤ x * y ∧ x * y ≤ 4096 := by
  obtain ⟨a, b⟩ := side_bounds hx
  obtain ⟨c, d⟩ := side_bounds hy
  constructor
  · exact Int.le_trans (by omega) (Int.mul_le_mul a c (by omega) (by omega))
  · exact Int.le_trans (Int.mul_le_mul b d (by omega) (by omega)) (by omega)

theorem specOk_any (W H : Int) (a : Option Addr) (len cap : Nat) (f : Nat → Int) (hl : len ≤ 1048576) (w : World) (h : Px a len f w) :
    Calls Try.prog 26 #[im W H a len cap] w fun e w' => e = .returned (.bool (okB W H len f)) ∧ Below w.heap.size w w' := by
  have h1 := l1In_any W 1 64
  have h2 := l1In_any H 1 64
  have HB : Hid (∀ x, Below w.heap.size w (w.alloc x)) := fun x => (Below.refl _ _).alloc (Nat.le_refl _) _
  cases hW : inB W 1 64
  · have hr : okB W H len f = false := by unfold okB; rw [hW]; simp
    rw [hr]
    rw [hW] at h1
    clear h h2
    go_enter Try.func26, Try.ntmps26
    go_wp2_with fail
    refine (h1 _).mono ?_
    rintro e w' ⟨rfl, rfl⟩
    go_wp2_with fail
    go_ret
    exact ⟨rfl, HB.out _⟩
  cases hH : inB H 1 64
  · have hr : okB W H len f = false := by unfold okB; rw [hH]; simp
    rw [hr]
    rw [hW] at h1
    rw [hH] at h2
    clear h
    go_enter Try.func26, Try.ntmps26
    go_wp2_with fail
    refine (h1 _).mono ?_
    rintro e w' ⟨rfl, rfl⟩
    go_wp2_with fail
    refine (h2 _).mono ?_
    rintro e w' ⟨rfl, rfl⟩
    go_wp2_with fail
    go_ret
    exact ⟨rfl, HB.out _⟩
  rw [hW] at h1
  rw [hH] at h2
  obtain ⟨p1, p2⟩ := prod_bounds hW hH
  by_cases hp : (len : Int) = W * H
  · have hq : ((len : Int) != W * H) = false := by simp [hp]
    have hw : IntKind.i64.wrap (W * H) = W * H := by rw [IntKind.wrap_i64]; omega
    have hr : okB W H len f = allB f len := by unfold okB; rw [hW, hH, decide_eq_true hp]; simp
    rw [hr]
    have HP : Hid (Px a len f (w.alloc (.cells #[.int .i64 W, .int .i64 H, .slice a len cap] 29))) := h.below (HB.out _)
    clear h hp hr p1 p2
    go_enter Try.func26, Try.ntmps26
    go_wp2_with fail
    refine (h1 _).mono ?_
    rintro e w' ⟨rfl, rfl⟩
    go_wp2_with fail
    refine (h2 _).mono ?_
    rintro e w' ⟨rfl, rfl⟩
    go_wp2_with fail
    clear h1 h2 hq
    go_loop [3] (fun i => ∃ k : Nat, k ≤ len ∧ i = .int .i64 k ∧ allB f k = true) (fun i => len - (intOf i).toNat)
    case atStart => exact ⟨0, by omega, rfl, rfl⟩
    case round =>
      obtain ⟨k, hk, rfl, ha⟩ := hrel
      by_cases hlt : k < len
      · obtain ⟨b, off, rfl, hz⟩ := HP.out.at hlt
        have hcall := l1In_any (f k) (-1000000000) 1000000000
        clear HP
        cases hi : inB (f k) (-1000000000) 1000000000
        · have HF : Hid (allB f len = false) := allB_false hlt hi
          rw [hi] at hcall
          clear ha hi
          go_wp2_with fail
          refine (hcall _).mono ?_
          rintro e w' ⟨rfl, rfl⟩
          go_wp2_with fail
          go_ret
          exact ⟨by rw [HF.out]; rfl, HB.out _⟩
        · have HF : Hid (allB f (k + 1) = true) := allB_step ha hi
          rw [hi] at hcall
          clear ha hi
          go_wp2_with fail
          refine (hcall _).mono ?_
          rintro e w' ⟨rfl, rfl⟩
          go_wp2_with fail
          go_round
          case rel => exact ⟨k + 1, by omega, by go_num, HF.out⟩
          case measure => simp [intOf]; omega
      · obtain rfl : k = len := by omega
        have HA : Hid (allB f k = true) := ha
        clear ha
        go_wp2
        go_ret
        exact ⟨by rw [HA.out]; rfl, HB.out _⟩
  · have hr : okB W H len f = false := by unfold okB; rw [decide_eq_false hp]; simp
    rw [hr]
    have hq : ((len : Int) != W * H) = true := by simp [hp]
    have hw : IntKind.i64.wrap (W * H) = W * H := by rw [IntKind.wrap_i64]; omega
    clear h hp
    go_enter Try.func26, Try.ntmps26
    go_wp2_with fail
    refine (h1 _).mono ?_
    rintro e w' ⟨rfl, rfl⟩
    go_wp2_with fail
    refine (h2 _).mono ?_
    rintro e w' ⟨rfl, rfl⟩
    go_wp2_with fail
    go_ret
    exact ⟨rfl, HB.out _⟩

end Go.Proofs.Ytadeajdjjcelhaa

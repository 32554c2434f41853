/- Images: the copy that the law makes, when two are alike, when one is right, marks. -/
import Derived.Test.YtjdbiaoheoialaaIls
namespace Go.Proofs.Ytjdbiaoheoialaa
open Go.RowKit

/-- an image as a value -/
abbrev im (W H : Int) (a : Option Addr) (len cap : Nat) : Value := .agg #[.int .i64 W, .int .i64 H, .slice a len cap]

/-- all numbers of a list are in range -/
def allB (f : Nat → Int) : Nat → Bool
  | 0 => true
  | n + 1 => allB f n && inB (f n) (-1000000000) 1000000000

theorem allB_false {f : Nat → Int} {n k : Nat} (hk : k < n) (h : inB (f k) (-1000000000) 1000000000 = false) : allB f n = false := by
  induction n with
  | zero => omega
  | succ n ih =>
    unfold allB
    by_cases hkn : k = n
    · subst hkn; rw [h, Bool.and_false]
    · rw [ih (by omega), Bool.false_and]

theorem allB_step {f : Nat → Int} {k : Nat} (h : allB f k = true) (h' : inB (f k) (-1000000000) 1000000000 = true) : allB f (k + 1) = true := by
  unfold allB; rw [h, h']; rfl

/-- are the first n numbers in range -/
def alW (f : Nat → Int) (lo hi : Int) : Nat → Bool
  | 0 => true
  | n + 1 => alW f lo hi n && inB (f n) lo hi
theorem alW_false {f : Nat → Int} {lo hi : Int} {n k : Nat} (hk : k < n) (h : inB (f k) lo hi = false) : alW f lo hi n = false := by
  induction n with
  | zero => omega
  | succ n ih =>
    unfold alW
    by_cases e : k = n
    · subst e; rw [h]; simp
    · rw [ih (by omega)]; rfl
theorem alW_step {f : Nat → Int} {lo hi : Int} {k : Nat} (h : alW f lo hi k = true) (h' : inB (f k) lo hi = true) : alW f lo hi (k + 1) = true := by
  unfold alW; rw [h, h']; rfl
theorem alW_at {f : Nat → Int} {lo hi : Int} : ∀ {n k : Nat}, alW f lo hi n = true → k < n → inB (f k) lo hi = true
  | n + 1, k, h, hk => by
    unfold alW at h
    rw [Bool.and_eq_true] at h
    by_cases e : k = n
    · subst e; exact h.2
    · exact alW_at h.1 (by omega)
theorem alW_allB (f : Nat → Int) : ∀ n, alW f (-1000000000) 1000000000 n = allB f n
  | 0 => rfl
  | n + 1 => by rw [alW, allB, alW_allB f n]

set_option maxHeartbeats 1000000 in
theorem allWithin_any (lo hi : Int) (a : Option Addr) (len cap : Nat) (f : Nat → Int) (hl : len ≤ 1048576) (w : World) (h : Px a len f w) :
    Calls Try.prog 26 #[.slice a len cap, .int .i64 lo, .int .i64 hi] w fun e w' => e = .returned (.bool (alW f lo hi len)) ∧ w' = w := by
  have HP := hide h
  clear h
  go_enter Try.func26, Try.ntmps26
  go_wp2_with fail
  go_loop [8, 11] (fun _ i => ∃ k : Nat, k ≤ len ∧ i = .int .i64 k ∧ alW f lo hi k = true) (fun _ i => len - (intOf i).toNat)
  case atStart => exact ⟨0, by omega, rfl, rfl⟩
  case round =>
    obtain ⟨k, hk, rfl, ha⟩ := hrel
    by_cases hlt : k < len
    · obtain ⟨b, off, rfl, hz⟩ := HP.out.at hlt
      have hcall := within_any (f k) lo hi
      clear HP
      cases hi' : inB (f k) lo hi
      · have HF : Hid (alW f lo hi len = false) := alW_false hlt hi'
        rw [hi'] at hcall
        clear ha hi'
        go_wp2_with fail
        refine (hcall _).mono ?_
        rintro e w' ⟨rfl, rfl⟩
        go_wp2_with fail
        go_ret
        exact ⟨by rw [HF.out]; rfl, rfl⟩
      · have HF : Hid (alW f lo hi (k + 1) = true) := alW_step ha hi'
        rw [hi'] at hcall
        clear ha hi'
        go_wp2_with fail
        refine (hcall _).mono ?_
        rintro e w' ⟨rfl, rfl⟩
        go_wp2_with fail
        exact ⟨⟨k + 1, by omega, rfl, HF.out⟩, by simp [intOf]; omega⟩
    · obtain rfl : k = len := by omega
      have HA : Hid (alW f lo hi k = true) := ha
      clear ha HP
      go_wp2
      go_ret
      exact ⟨by rw [HA.out]; rfl, rfl⟩

/-- is an image right -/
def okB (W H : Int) (len : Nat) (f : Nat → Int) : Bool := inB W 1 64 && inB H 1 64 && decide ((len : Int) = W * H) && allB f len

theorem side_bounds {x : Int} (h : inB x 1 64 = true) : 1 ≤ x ∧ x ≤ 64 := by
  unfold inB at h
  simp at h
  exact h

theorem prod_bounds {x y : Int} (hx : inB x 1 64 = true) (hy : inB y 1 64 = true) : 1 ≤ x * y ∧ x * y ≤ 4096 := by
  obtain ⟨a, b⟩ := side_bounds hx
  obtain ⟨c, d⟩ := side_bounds hy
  constructor
  · exact Int.le_trans (by omega) (Int.mul_le_mul a c (by omega) (by omega))
  · exact Int.le_trans (Int.mul_le_mul b d (by omega) (by omega)) (by omega)

theorem okB_parts {W H : Int} {len : Nat} {f : Nat → Int} (h : okB W H len f = true) : inB W 1 64 = true ∧ inB H 1 64 = true ∧ (len : Int) = W * H ∧ allB f len = true := by
  unfold okB at h
  simp only [Bool.and_eq_true, decide_eq_true_eq] at h
  exact ⟨h.1.1.1, h.1.1.2, h.1.2, h.2⟩

/-- an image lies in the three cells of a block -/
def Im (b : Nat) (W H : Int) (s : Value) (w : World) : Prop :=
  w.cell? ⟨b, 0, none⟩ = some (.int .i64 W) ∧ w.cell? ⟨b, 1, none⟩ = some (.int .i64 H) ∧ w.cell? ⟨b, 2, none⟩ = some s

theorem Im.below {b : Nat} {W H : Int} {s : Value} {w w' : World} (h : Im b W H s w) (hb : Below w.heap.size w w') : Im b W H s w' := by
  have hl : b < w.heap.size := World.block_lt_of_cell? w _ h.1
  exact ⟨(hb.cell (p := ⟨b, 0, none⟩) hl).trans h.1, (hb.cell (p := ⟨b, 1, none⟩) hl).trans h.2.1, (hb.cell (p := ⟨b, 2, none⟩) hl).trans h.2.2⟩

theorem Im.drew {b : Nat} {W H : Int} {s : Value} {w : World} (h : Im b W H s w) : Im b W H s w.drew := h

theorem Im.new (W H : Int) (s : Value) (t : TypeId) (w : World) : Im w.heap.size W H s (w.alloc (.cells #[.int .i64 W, .int .i64 H, s] t)) := by
  refine ⟨?_, ?_, ?_⟩ <;> simp [go_sem]

theorem Im.kept {b p : Nat} {W H : Int} {s : Value} {w w' : World} (h : Im b W H s w) (hk : Kept p w w') (hp : b ≠ p) : Im b W H s w' :=
  ⟨hk.cell hp h.1, hk.cell hp h.2.1, hk.cell hp h.2.2⟩

/-- what adding two images gives -/
def Added (r : Bool) (W H : Int) (n : Nat) (s : Nat → Int) (w : World) (e : Ending) (w' : World) : Prop :=
  ∃ a0 b, e = .returned (im (if r then W else 0) (if r then H else 0) a0 (if r then n else 0) (if r then n else 0)) ∧ Ow a0 b (if r then n else 0) s w' ∧ w.heap.size ≤ b ∧ b < w'.heap.size ∧ Below w.heap.size w w'

theorem Added.none {r : Bool} (hr : r = false) (W H : Int) (n : Nat) (s : Nat → Int) {w w' : World} (hb : Below w.heap.size w w') (hs : w.heap.size < w'.heap.size) :
    Added r W H n s w (.returned (im 0 0 Option.none 0 0)) w' := by
  subst hr
  exact ⟨Option.none, w.heap.size, rfl, .inl rfl, Nat.le_refl _, hs, hb⟩

theorem Added.some {r : Bool} (hr : r = true) (W H : Int) (n : Nat) (s : Nat → Int) {w w' : World} (b : Nat) (h : Row b n s w') (h1 : w.heap.size ≤ b) (h2 : b < w'.heap.size) (hb : Below w.heap.size w w') :
    Added r W H n s w (.returned (im W H (Option.some ⟨b, 0, Option.none⟩) n n)) w' := by
  subst hr
  exact ⟨_, b, rfl, .inr ⟨rfl, h⟩, h1, h2, hb⟩

/-- the cells of a block may be written -/
def Free (b : Nat) (w : World) : Prop := w.frozen? ⟨b, 0, none⟩ = false ∧ w.frozen? ⟨b, 1, none⟩ = false ∧ w.frozen? ⟨b, 2, none⟩ = false

end Go.Proofs.Ytjdbiaoheoialaa

/- An atlas: is it right; the number that most vote for; numbers and the program's side. -/
import Derived.Test.YtfbjjfpcgpkhiaaIms
import Derived.Test.YtfbjjfpcgpkhiaaHgi
import Derived.Test.YtfbjjfpcgpkhiaaG8p
import Derived.Test.YtfbjjfpcgpkhiaaQup
namespace Go.Proofs.Ytfbjjfpcgpkhiaa
open Go.RowKit

def atl1 (ln : Nat → Nat) (F : Nat → Nat → Int) (Wv Hv : Nat → Int) (i : Nat) : Bool := gryB (Wv i) (Hv i) (ln i) (F i) 255 && (decide (Wv i = Wv 0) && decide (Hv i = Hv 0))
/-- is an atlas right -/
def atlB (m : Nat) (ln : Nat → Nat) (F : Nat → Nat → Int) (Wv Hv : Nat → Int) : Bool := inB (m : Int) 1 15 && allG (atl1 ln F Wv Hv) m
theorem allG_up {p : Nat → Bool} {k : Nat} (h : allG p k = true) (hk : p k = true) : allG p (k + 1) = true := by
  show (allG p k && p k) = true
  rw [h, hk]; rfl
theorem atl_at {m : Nat} {ln : Nat → Nat} {F : Nat → Nat → Int} {Wv Hv : Nat → Int} (h : atlB m ln F Wv Hv = true) :
    1 ≤ m ∧ m ≤ 15 ∧ (ln 0 : Int) = Wv 0 * Hv 0 ∧ ln 0 ≤ 4096 ∧ okB (Wv 0) (Hv 0) (ln 0) (F 0) = true ∧ ∀ i, i < m → ln i = ln 0 ∧ ∀ k, k < ln 0 → 0 ≤ F i k ∧ F i k ≤ 255 := by
  unfold atlB at h
  rw [Bool.and_eq_true] at h
  have h1 : 1 ≤ (m : Int) ∧ (m : Int) ≤ 15 := by
    have := h.1; unfold inB at this; rw [Bool.and_eq_true, decide_eq_true_eq, decide_eq_true_eq] at this; exact this
  have hz := allG_at h.2 0 (by omega)
  unfold atl1 at hz
  rw [Bool.and_eq_true] at hz
  obtain ⟨z1, z2, z3⟩ := gryB_parts hz.1
  obtain ⟨-, -, z4, -⟩ := okB_parts z1
  refine ⟨by omega, by omega, z4, z2, z1, fun i hi => ?_⟩
  have hi' := allG_at h.2 i hi
  unfold atl1 at hi'
  rw [Bool.and_eq_true, Bool.and_eq_true, decide_eq_true_eq, decide_eq_true_eq] at hi'
  obtain ⟨y1, y2, y3⟩ := gryB_parts hi'.1
  obtain ⟨-, -, y4, -⟩ := okB_parts y1
  have e : ln i = ln 0 := by
    have : (ln i : Int) = ln 0 := by rw [y4, z4, hi'.2.1, hi'.2.2]
    omega
  exact ⟨e, fun k hk => y3 k (by omega)⟩
/-- a number of the answer, or nought -/
def pkI (q : Bool) (x : Int) : Int := if q = true then x else 0
def pkN (q : Bool) (x : Nat) : Nat := if q = true then x else 0
/-- the least number that comes as often as any, of those below v -/
def moB (c : Nat → Int) : Nat → Nat
  | 0 => 0
  | v + 1 => if c (moB c v) < c v then v else moB c v
theorem moB_lt (c : Nat → Int) : ∀ v, moB c v < v + 1
  | 0 => by simp [moB]
  | v + 1 => by
    have := moB_lt c v
    simp only [moB]
    split <;> omega
/-- the vote of m images at place k -/
def votF (m : Nat) (F : Nat → Nat → Int) (k : Nat) : Int := (moB (hst (fun i => F i k) m) 256 : Nat)

set_option maxRecDepth 100000 in
set_option maxHeartbeats 1000000 in
theorem sameSize_any (W H : Int) (a : Option Addr) (n cap : Nat) (W' H' : Int) (a' : Option Addr) (n' cap' : Nat) (w : World) :
    Calls Try.prog 33 #[im W H a n cap, im W' H' a' n' cap'] w fun e w' => e = .returned (.bool (decide (W = W') && decide (H = H'))) ∧ Below w.heap.size w w' := by
  have HB : Hid (∀ o o', Below w.heap.size w ((w.alloc o).alloc o')) := fun o o' => (bnew _ _).alloc (by simp) _
  by_cases h1 : W = W'
  · have q1 : (W == W') = true := by simp [h1]
    have HH : Hid ((H == H') = decide (H = H')) := by show _ = _; by_cases h : H = H' <;> simp [h]
    rw [decide_eq_true h1, Bool.true_and]
    clear h1
    go_enter Try.func33, Try.ntmps33
    go_wp2_with fail
    go_ret
    exact ⟨by rw [← HH.out]; rfl, HB.out _ _⟩
  · have q1 : (W == W') = false := by simp [h1]
    rw [decide_eq_false h1, Bool.false_and]
    clear h1
    go_enter Try.func33, Try.ntmps33
    go_wp2_with fail
    go_ret
    exact ⟨rfl, HB.out _ _⟩

set_option maxRecDepth 100000 in
set_option maxHeartbeats 4000000 in
theorem isAtlas_any (a : Option Addr) (m cap : Nat) (ad : Nat → Option Addr) (ln cp : Nat → Nat) (F : Nat → Nat → Int) (Wv Hv : Nat → Int) (hm : m ≤ 1048576) (hl : ∀ i, i < m → ln i ≤ 1048576) (w : World) (h : PxM a m ad ln cp F Wv Hv w) :
    Calls Try.prog 17 #[.slice a m cap] w fun e w' => e = .returned (.bool (atlB m ln F Wv Hv)) ∧ Below w.heap.size w w' := by
  have HP := hide h
  have HL := hide hl
  clear h hl
  have c0 := fun w' => within_any (m : Int) 1 15 w'
  unfold atlB
  cases h0 : inB (m : Int) 1 15
  · simp only [h0] at c0
    rw [Bool.false_and]
    clear h0 HP HL
    go_enter Try.func17, Try.ntmps17
    go_wp2_with fail
    refine (c0 _).mono ?_
    rintro e w1 ⟨rfl, rfl⟩
    go_wp2_with fail
    go_ret
    exact ⟨rfl, Below.refl _ _⟩
  have hm0 : 1 ≤ (m : Int) := by
    have := h0; unfold inB at this; rw [Bool.and_eq_true, decide_eq_true_eq, decide_eq_true_eq] at this; exact this.1
  simp only [h0] at c0
  rw [Bool.true_and]
  clear h0
  go_enter Try.func17, Try.ntmps17
  go_wp2_with fail
  refine (c0 _).mono ?_
  rintro e w1 ⟨rfl, rfl⟩
  clear c0
  go_wp2_with fail
  go_loopw [4, 11] (fun _ i wr => ∃ k : Nat, k ≤ m ∧ i = .int .i64 k ∧ allG (atl1 ln F Wv Hv) k = true ∧ Below w1.heap.size w1 wr) (fun _ i _ => m - (intOf i).toNat)
  case atStart => exact ⟨0, by omega, rfl, rfl, Below.refl _ _⟩
  case round =>
    obtain ⟨k, hk, rfl, hA, hb⟩ := hrel
    have HA := hide hA
    clear hA
    by_cases hlt : k < m
    · obtain ⟨b, off, rfl, z0, z1, z2⟩ := (HP.out.below hb).at hlt
      obtain ⟨y0, y1, y2⟩ := (HP.out.below hb).at0 rfl (by omega)
      obtain ⟨wb, hwb⟩ : ∃ wb, wr.alloc (.cells #[.int .i64 (Wv k), .int .i64 (Hv k), .slice (ad k) (ln k) (cp k)] 26) = wb := ⟨_, rfl⟩
      have hbb : Below wr.heap.size wr wb := by rw [← hwb]; exact bnew _ _
      have HBn := hide (bnext hb (Nat.le_refl _) hbb)
      have HPk := hide ((HP.out.2 k hlt).below HBn.out)
      have t0 := cell_kept hbb y0
      have t1 := cell_kept hbb y1
      have t2 := cell_kept hbb y2
      have j0 : wb.cell? ⟨wr.heap.size, 0, none⟩ = some (.int .i64 (Wv k)) := by rw [← hwb]; simp [go_sem]
      have j1 : wb.cell? ⟨wr.heap.size, 1, none⟩ = some (.int .i64 (Hv k)) := by rw [← hwb]; simp [go_sem]
      have j2 : wb.cell? ⟨wr.heap.size, 2, none⟩ = some (.slice (ad k) (ln k) (cp k)) := by rw [← hwb]; simp [go_sem]
      have cA := fun w' h => isImageOf_any (Wv k) (Hv k) 255 (ad k) (ln k) (cp k) (F k) (HL.out k hlt) w' h
      have cS := fun w' => sameSize_any (Wv k) (Hv k) (ad k) (ln k) (cp k) (Wv 0) (Hv 0) (ad 0) (ln 0) (cp 0) w'
      have HF : Hid (∀ p : Bool, (gryB (Wv k) (Hv k) (ln k) (F k) 255 && (decide (Wv k = Wv 0) && decide (Hv k = Hv 0))) = p → atl1 ln F Wv Hv k = p) := fun _ h => h
      generalize gryB (Wv k) (Hv k) (ln k) (F k) 255 = q1 at *
      generalize (decide (Wv k = Wv 0) && decide (Hv k = Hv 0)) = q2 at *
      have HY : Hid (q1 = true → q2 = true → allG (atl1 ln F Wv Hv) (k + 1) = true) := fun h1 h2 => allG_up HA.out (HF.out _ (by rw [h1, h2]; rfl))
      have HN : Hid (q1 = false ∨ q2 = false → allG (atl1 ln F Wv Hv) m = false) := fun h9 => allG_no k hlt (HF.out _ (by rcases h9 with h9 | h9 <;> rw [h9] <;> simp))
      clear hb HP HL hbb HF HA
      generalize Wv k = X0 at *
      generalize Hv k = X1 at *
      generalize Wv 0 = Y0 at *
      generalize Hv 0 = Y1 at *
      have HWB := hide hwb
      have SK : Nonempty (Up wb) := up_ne wb
      go_upto_region 6 with fail
      clear z0 z1 z2 y0 y1 y2
      have u0 := fun p : Up wb => p.cell j0
      have u1 := fun p : Up wb => p.cell j1
      have u2 := fun p : Up wb => p.cell j2
      have v0 := fun p : Up wb => p.cell t0
      have v1 := fun p : Up wb => p.cell t1
      have v2 := fun p : Up wb => p.cell t2
      generalize wr.heap.size = G at *
      cases q1 <;> cases q2
      all_goals
        refine region_up (by kernel_rfl) (by kernel_rfl) ?_
        repeat (go_big_quiet_step (first
          | exact rfl
          | (go_at_call 32; exact calls_up (cA _ (HPk.out.below (Up.below _))))
          | (go_at_call 33; exact calls_up (cS _))))
        refine wpQuiet_nil ?_
        intro _ hw2
        obtain ⟨pq, hw3⟩ := hw2
        subst hw3
        have HB2 := hide (bnext HBn.out (Nat.le_refl _) pq.below)
        clear u0 u1 u2 v0 v1 v2 SK HWB HBn t0 t1 t2 j0 j1 j2 cA cS hwb
        generalize pq.w = w2 at *
      all_goals clear HPk
      · have HE := hide (HN.out (.inl rfl))
        clear HN HY
        go_wp2_with fail
        go_ret
        exact ⟨by rw [HE.out]; rfl, HB2.out⟩
      · have HE := hide (HN.out (.inl rfl))
        clear HN HY
        go_wp2_with fail
        go_ret
        exact ⟨by rw [HE.out]; rfl, HB2.out⟩
      · have HE := hide (HN.out (.inr rfl))
        clear HN HY
        go_wp2_with fail
        go_ret
        exact ⟨by rw [HE.out]; rfl, HB2.out⟩
      · have HE := hide (HY.out rfl rfl)
        clear HN HY
        go_wp2_with fail
        exact ⟨⟨k + 1, by omega, rfl, HE.out, HB2.out⟩, by simp [intOf]; omega⟩
    · obtain rfl : k = m := by omega
      have HB := hide hb
      clear HP HL hb
      go_wp2_with fail
      go_ret
      exact ⟨by rw [HA.out]; rfl, HB.out⟩

end Go.Proofs.Ytfbjjfpcgpkhiaa

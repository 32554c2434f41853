/- The voxel at a place: the program. Appends of faces that leave other blocks as they were. -/
import Derived.Test.YtkkmoidbnbpfkaaNbi
import Derived.Deep.RegionHeld
namespace Go.Proofs.Ytkkmoidbnbpfkaa
open Go.RowKit

set_option maxRecDepth 100000 in
set_option maxHeartbeats 2000000 in
theorem voxelAt_any (X Y Z : Int) (a : Option Addr) (n cap : Nat) (f : Nat → Int) (hX : 1 ≤ X ∧ X ≤ 32) (hY : 1 ≤ Y ∧ Y ≤ 32) (hZ : 1 ≤ Z ∧ Z ≤ 32) (hn : (n : Int) = X * Y * Z) (x y z : Int) (w : World) (h : Px a n f w) :
    Calls Try.prog 26 #[vVolume X Y Z a n cap, v3v x y z] w fun e w' => e = .returned (.int .i64 (vAt X Y Z f x y z)) ∧ Below w.heap.size w w' := by
  have HS0 := hide (((St.start w).box [.int .i64 X, .int .i64 Y, .int .i64 Z, .slice a n cap] 28).box' [.int .i64 x, .int .i64 y, .int .i64 z] 43 (b := w.heap.size + 1) (by simp))
  have HP := hide (h.below HS0.out.below)
  clear h
  have c1 := fun w' => within_any x 0 (X - 1) w'
  have c2 := fun w' => within_any y 0 (Y - 1) w'
  have c3 := fun w' => within_any z 0 (Z - 1) w'
  have u1 : IntKind.i64.wrap (X - 1) = X - 1 := by rw [IntKind.wrap_i64]; omega
  have u2 : IntKind.i64.wrap (Y - 1) = Y - 1 := by rw [IntKind.wrap_i64]; omega
  have u3 : IntKind.i64.wrap (Z - 1) = Z - 1 := by rw [IntKind.wrap_i64]; omega
  unfold vAt
  cases hq : in3 X Y Z x y z
  · rw [if_neg (by simp)]
    unfold in3 at hq
    clear HP hn
    cases h1 : inB x 0 (X - 1)
    · rw [h1] at c1
      clear hq h1
      go_enter Try.func26, Try.ntmps26
      go_wp2_with fail
      refine (c1 _).mono ?_
      rintro e w1 ⟨rfl, rfl⟩
      go_wp2_with fail
      go_ret
      exact ⟨rfl, HS0.out.below⟩
    cases h2 : inB y 0 (Y - 1)
    · rw [h1] at c1
      rw [h2] at c2
      clear hq h1 h2
      go_enter Try.func26, Try.ntmps26
      go_wp2_with fail
      refine (c1 _).mono ?_
      rintro e w1 ⟨rfl, rfl⟩
      go_wp2_with fail
      refine (c2 _).mono ?_
      rintro e w2 ⟨rfl, rfl⟩
      go_wp2_with fail
      go_ret
      exact ⟨rfl, HS0.out.below⟩
    have h3 : inB z 0 (Z - 1) = false := by rw [h1, h2] at hq; simpa using hq
    rw [h1] at c1
    rw [h2] at c2
    rw [h3] at c3
    clear hq h1 h2 h3
    go_enter Try.func26, Try.ntmps26
    go_wp2_with fail
    refine (c1 _).mono ?_
    rintro e w1 ⟨rfl, rfl⟩
    go_wp2_with fail
    refine (c2 _).mono ?_
    rintro e w2 ⟨rfl, rfl⟩
    go_wp2_with fail
    refine (c3 _).mono ?_
    rintro e w3 ⟨rfl, rfl⟩
    go_wp2_with fail
    go_ret
    exact ⟨rfl, HS0.out.below⟩
  · obtain ⟨⟨b1, b2⟩, ⟨b3, b4⟩, b5, b6⟩ := in3_iff.1 hq
    obtain ⟨m1, m2, p0, p1⟩ := place3 hq hX.2 hY.2 hZ.2 hn
    rw [if_pos rfl]
    have h1 : inB x 0 (X - 1) = true := by unfold inB; simp; omega
    have h2 : inB y 0 (Y - 1) = true := by unfold inB; simp; omega
    have h3 : inB z 0 (Z - 1) = true := by unfold inB; simp; omega
    rw [h1] at c1
    rw [h2] at c2
    rw [h3] at c3
    obtain ⟨b, off, rfl, hy⟩ := HP.out.at (k := ((z * Y + y) * X + x).toNat) (by omega)
    obtain ⟨A, hA⟩ : ∃ A, A = z * Y := ⟨_, rfl⟩
    have wA : IntKind.i64.wrap (z * Y) = A := by rw [← hA, IntKind.wrap_i64]; omega
    rw [← hA] at hy p0 p1 m2 m1
    obtain ⟨B, hB⟩ : ∃ B, B = (A + y) * X := ⟨_, rfl⟩
    have wB : IntKind.i64.wrap ((A + y) * X) = B := by rw [← hB, IntKind.wrap_i64]; omega
    rw [← hB] at hy p0 p1 m2
    have HR : Hid (f ((z * Y + y) * X + x).toNat = f (B + x).toNat) := by show f _ = _; rw [← hA, ← hB]
    obtain ⟨t, ht⟩ : ∃ t, (B + x).toNat = t := ⟨_, rfl⟩
    rw [ht] at hy HR
    generalize f t = v at *
    have cN := fun w' => numberIn_any X Y Z (some ⟨b, off, none⟩) n cap x y z A B wA (by rw [show IntKind.i64.wrap (A + y) = A + y by rw [IntKind.wrap_i64]; omega]; exact wB) (by rw [IntKind.wrap_i64]; omega) (B + x) (by rw [IntKind.wrap_i64]; omega) w'
    have SKa : Hid (_ ∧ _ ∧ _ ∧ _ ∧ _ ∧ _ ∧ _ ∧ _) := ⟨HS0.out.drew.cell 1 rfl 0 rfl, HS0.out.drew.cell 1 rfl 1 rfl, HS0.out.drew.cell 1 rfl 2 rfl, HS0.out.drew.cell 1 rfl 3 rfl, HS0.out.drew.cell 0 rfl 0 rfl, HS0.out.drew.cell 0 rfl 1 rfl, HS0.out.drew.cell 0 rfl 2 rfl, hy⟩
    have hblt := World.block_lt_of_cell? _ _ hy
    clear hq hn HP hA hB h1 h2 h3
    go_enter Try.func26, Try.ntmps26
    go_wp2_with fail
    refine (c1 _).mono ?_
    rintro e w1 ⟨rfl, rfl⟩
    go_wp2_with fail
    refine (c2 _).mono ?_
    rintro e w2 ⟨rfl, rfl⟩
    go_wp2_with fail
    refine (c3 _).mono ?_
    rintro e w3 ⟨rfl, rfl⟩
    go_wp2_with fail
    go_region_held (fun (w' : World) => w'.cell? ⟨w.heap.size, 0, none⟩ = some (.int .i64 X) ∧ w'.cell? ⟨w.heap.size, 1, none⟩ = some (.int .i64 Y) ∧ w'.cell? ⟨w.heap.size, 2, none⟩ = some (.int .i64 Z) ∧ w'.cell? ⟨w.heap.size, 3, none⟩ = some (.slice (some ⟨b, off, none⟩) n cap) ∧ w'.cell? ⟨w.heap.size + 1, 0, none⟩ = some (.int .i64 x) ∧ w'.cell? ⟨w.heap.size + 1, 1, none⟩ = some (.int .i64 y) ∧ w'.cell? ⟨w.heap.size + 1, 2, none⟩ = some (.int .i64 z) ∧ w'.cell? ⟨b, off + t, none⟩ = some (.int .i64 v))
      (first | (with_reducible exact SKa.out) | exact SKa.out | (with_reducible exact SKb.out))
      ((go_at_call 31; (with_reducible refine (cN _).mono ?_); rintro e q0 ⟨rfl, h0⟩; have S0 := HS0.out.drew.next h0; have SKb : Hid (_ ∧ _ ∧ _ ∧ _ ∧ _ ∧ _ ∧ _ ∧ _) := ⟨S0.cell 1 rfl 0 rfl, S0.cell 1 rfl 1 rfl, S0.cell 1 rfl 2 rfl, S0.cell 1 rfl 3 rfl, S0.cell 0 rfl 0 rfl, S0.cell 0 rfl 1 rfl, S0.cell 0 rfl 2 rfl, (h0.cell (p := ⟨b, off + t, none⟩) hblt).trans SKa.out.2.2.2.2.2.2.2⟩; clear h0))
    go_wp2_with fail
    go_ret
    exact ⟨by rw [HR.out]; rfl, S0.below⟩

/-- a block of another kind -/
def TyF (c : Nat) (w : World) : Prop := ∃ cs t, w.heap[c]? = some (.cells cs t) ∧ t ≠ 39
theorem TyF.ne {c : Nat} {w : World} (h : TyF c w) {base n : Nat} {v : Value} {xs : List Value} (ho : w.ownsRow base 39 5 v n xs) : v.ownBlock ≠ some c := by
  obtain ⟨cs, t, hcs, ht⟩ := h
  intro e
  obtain ⟨_, hv | ⟨b, cap, cur, hv, _, hcur, _⟩⟩ := ho
  · rw [hv.1] at e; cases e
  · rw [hv] at e
    have : b = c := by simpa [Value.ownBlock] using e
    subst this
    rw [hcs] at hcur
    cases hcur
    exact ht rfl
theorem TyF.lt {c : Nat} {w : World} (h : TyF c w) : c < w.heap.size := by
  obtain ⟨cs, t, hcs, _⟩ := h
  exact (Array.getElem?_eq_some_iff.1 hcs).1
/-- an append of one face to a list of the call's own: blocks of another kind stay -/
theorem growG (w : World) {ops : Array Oper} {rest : List Oper} {o : Oper} {a : Act} {Q : Exit → Act → World → Prop} (hgd : o.guard = none) (s x : Operand)
    (ho : o.op = .call { callee := .builtin .append, args := #[s, x], argTypes := #[26, 26] }) (B : Nat) (v : Value) (n : Nat) (L : List Int) (hs : a.eval s = v) (w0 : World) (hown : w.ownsRow B 39 5 v n (ints L))
    (hb : Below B w0 w) (hB : B ≤ w.heap.size) (z0 z1 z2 z3 z4 : Int) (hx : a.eval x = .slice (some ⟨w.heap.size, 0, none⟩) 1 1) (hn : n ≤ 1048576)
    (h : ∀ v' w', w'.ownsRow B 39 5 v' (n + 1) (ints (L ++ [z0, z1, z2, z3, z4])) → Below B w0 w' → (∀ c, TyF c w → w'.heap[c]? = w.heap[c]?) → wpList Try.prog ops Q rest (a.put o.dst v') w') :
    wpList Try.prog ops Q (o :: rest) a (w.alloc (.cells #[.int .i64 z0, .int .i64 z1, .int .i64 z2, .int .i64 z3, .int .i64 z4] 39)) := by
  obtain ⟨ti, hi1, hi2, hi3, hi4⟩ := infoF
  have hsw : w.heap.size < (w.alloc (.cells #[.int .i64 z0, .int .i64 z1, .int .i64 z2, .int .i64 z3, .int .i64 z4] 39)).heap.size := by simp
  refine wpList_append_own _ hgd s x 26 ho B 39 ti (vFace 0 0 0 0 0) 5 40 Try.underlying26 hi1 hi2 hi3 hi4 rfl (by omega) v n (ints L) hs (hown.alloc _) ⟨w.heap.size, 0, none⟩ 1 1 (ints [z0, z1, z2, z3, z4]) hx rfl (new_cells w (ints [z0, z1, z2, z3, z4]) 39) (ints_one _) (by unfold maxLen; omega) (by omega) (Nat.le_trans hB (Nat.le_of_lt hsw)) ?_
  intro v' w' h1 h2 _
  have hr3 : ∀ q, Value.ownBlock v = some q → B ≤ q := fun q hq => (hown.lt q hq).1
  have hB3 : Below B (w.alloc (.cells #[.int .i64 z0, .int .i64 z1, .int .i64 z2, .int .i64 z3, .int .i64 z4] 39)) w' := (Below.refl _ _).grown h2 (Nat.le_trans hB (Nat.le_of_lt hsw)) hr3
  refine h v' w' ?_ ((hb.alloc hB _).trans hB3) ?_
  · rw [ints_append]; exact h1
  · intro c hc
    have hne := hc.ne hown
    have hlt := hc.lt
    rw [h2.block c (Nat.lt_trans hlt hsw) (fun e => hne e.symm)]
    exact (bnew w (.cells #[.int .i64 z0, .int .i64 z1, .int .i64 z2, .int .i64 z3, .int .i64 z4] 39)).block c hlt

end Go.Proofs.Ytkkmoidbnbpfkaa

/- Cubes that are right are turned: the contract in plain form. -/
import Derived.Test.YtggiegfkmkaaeaaDoorTgr
import Derived.Test.YtggiegfkmkaaeaaDoorLawTurns
namespace Go.Proofs.YtggiegfkmkaaeaaDoor
open Go.RowKit

/-- a turn of the table, and its matrix -/
def tbq (i r : Nat) : Int := tbA.getD (i * 4 + r) 0
def tbm (i : Nat) : Nat → Int := mtx (tbq i 0) (tbq i 1) (tbq i 2) (tbq i 3)
theorem tb_ok : ∀ i, i < 12 → tkB (tbq i 0) (tbq i 1) (tbq i 2) (tbq i 3) = true := by decide +kernel
set_option maxRecDepth 100000 in
theorem tb_dif : ∀ i, i < 12 → ∀ k, k < i → eqF (tbm i) (tbm k) 9 = false := by decide +kernel
/-- a matrix of a right turn -/
theorem mtR_any (a b c d : Int) (h : tkB a b c d = true) (w : World) : Calls Tryd.prog 17 #[tv a b c d] w fun e w' => ∃ b' cp, e = .returned (.slice (some ⟨b', 0, none⟩) 9 cp) ∧ w.heap.size ≤ b' ∧ Row b' 9 (mtx a b c d) w' ∧ Below w.heap.size w w' := by
  have h9 : tmN a b c d = 9 := by unfold tmN; rw [if_pos h]
  refine (implTurnMatrix_any a b c d w).mono ?_
  rw [h9]
  rintro e w' ⟨a', cp, b', rfl, ho, hB, hb⟩
  rcases ho with ho | ⟨rfl, hr⟩
  · omega
  · exact ⟨b', cp, rfl, hB.resolve_left (by omega), hr, hb⟩
/-- what each operation leaves -/
def tmF (tt tc i k : Nat) (j : Nat) (u : Nat → Value) (w : World) : Prop :=
  match j with
  | 0 => u 0 = .slice (some ⟨tt, 0, none⟩) 12 tc
  | 1 => u 1 = .int .i64 (i : Int)
  | 2 => u 2 = .pointer (some ⟨tt, i * 4, none⟩)
  | 3 => u 3 = tv (tbq i 0) (tbq i 1) (tbq i 2) (tbq i 3)
  | 4 => ∃ b cp, u 4 = .slice (some ⟨b, 0, none⟩) 9 cp ∧ Row b 9 (tbm i) w
  | 5 => u 5 = .slice (some ⟨tt, 0, none⟩) 12 tc
  | 6 => u 6 = .int .i64 (k : Int)
  | 7 => u 7 = .pointer (some ⟨tt, k * 4, none⟩)
  | 8 => u 8 = tv (tbq k 0) (tbq k 1) (tbq k 2) (tbq k 3)
  | 9 => ∃ b cp, u 9 = .slice (some ⟨b, 0, none⟩) 9 cp ∧ Row b 9 (tbm k) w
  | 10 => u 10 = .bool false
  | _ => True
theorem tmF_stab {tt tc i k : Nat} {w w' : World} (hb : Below w.heap.size w w') (u : Nat → Value) (q : Nat) (v : Value) (j : Nat) (hj : j ≠ q) (h : tmF tt tc i k j u w) : tmF tt tc i k j (upU u q v) w' := by
  have up : upU u q v j = u j := upU_other u v hj
  match j, up, h with
  | 0, up, h => exact up.trans h
  | 1, up, h => exact up.trans h
  | 2, up, h => exact up.trans h
  | 3, up, h => exact up.trans h
  | 4, up, h => obtain ⟨b, cp, e, hr⟩ := h; exact ⟨b, cp, up.trans e, hr.below hb (hr.lt (by omega))⟩
  | 5, up, h => exact up.trans h
  | 6, up, h => exact up.trans h
  | 7, up, h => exact up.trans h
  | 8, up, h => exact up.trans h
  | 9, up, h => obtain ⟨b, cp, e, hr⟩ := h; exact ⟨b, cp, up.trans e, hr.below hb (hr.lt (by omega))⟩
  | 10, up, h => exact up.trans h
  | _ + 11, _, _ => trivial

end Go.Proofs.YtggiegfkmkaaeaaDoor

namespace Go.Proofs.YtggiegfkmkaaeaaDoor
open Go.RowKit

theorem alW_ofT {f : Nat → Int} {lo hi : Int} : ∀ {n : Nat}, (∀ k, k < n → lo ≤ f k ∧ f k ≤ hi) → alW f lo hi n = true
  | 0, _ => rfl
  | n + 1, h => by
    have h1 := h n (by omega)
    simp only [alW, Bool.and_eq_true]
    refine ⟨alW_ofT fun k hk => h k (by omega), ?_⟩
    unfold inB
    simp [h1.1, h1.2]
theorem cub_turn {t : T4} (ht : tkT t = true) {X : Int} {n : Nat} {f : Nat → Int} (h : cubB X X X n f = true) : cubB X X X n (tvs (tgT t X) f n) = true := by
  obtain ⟨-, -, hX, hn, -⟩ := cubB_parts h
  unfold cubB volB at h ⊢
  simp only [Bool.and_eq_true] at h ⊢
  obtain ⟨⟨h1, h2, h3, h4, h5⟩, h6, h7⟩ := h
  refine ⟨⟨h1, h2, h3, h4, ?_⟩, h6, h7⟩
  have hw : ∀ k, k < n → -4095 ≤ f k ∧ f k ≤ 4095 := fun k hk => by
    have := alW_at h5 hk
    unfold inB at this
    simpa using this
  exact alW_ofT fun j hj => tvs_within ht hX.1 hn hw hj
theorem cub_pos {X Y Z : Int} {n : Nat} {f : Nat → Int} (h : cubB X Y Z n f = true) : 1 ≤ n := by
  obtain ⟨-, -, hX, hn, -⟩ := cubB_parts h
  have : 1 * 1 * 1 ≤ X * X * X := Int.mul_le_mul (Int.mul_le_mul hX.1 hX.1 (by omega) (by omega)) hX.1 (by omega) (Int.mul_nonneg (by omega) (by omega))
  omega
theorem turnC_any (X : Int) (n : Nat) (f : Nat → Int) (h : cubB X X X n f = true) (t0 t1 t2 t3 : Int) (ht : tkT (t0, t1, t2, t3) = true) (b cp : Nat) (w : World) (hr : Row b n f w) :
    Calls Tryd.prog 20 #[vVolume X X X (some ⟨b, 0, none⟩) n cp, tv t0 t1 t2 t3] w fun e w' => ∃ b' cp', e = .returned (vVolume X X X (some ⟨b', 0, none⟩) n cp') ∧ w.heap.size ≤ b' ∧ Row b' n (tvs (tgT (t0, t1, t2, t3) X) f n) w' ∧ Below w.heap.size w w' := by
  obtain ⟨-, -, hX, hn, hn2⟩ := cubB_parts h
  have h1 : 1 ≤ n := by
    have : 1 * 1 * 1 ≤ X * X * X := Int.mul_le_mul (Int.mul_le_mul hX.1 hX.1 (by omega) (by omega)) hX.1 (by omega) (Int.mul_nonneg (by omega) (by omega))
    omega
  have hB : tvB X X X n f t0 t1 t2 t3 = true := by
    unfold tvB
    rw [h]
    exact ht
  have hN : tvN X X X n f t0 t1 t2 t3 = n := by unfold tvN; rw [if_pos hB]
  have hX' : tvX X X X n f t0 t1 t2 t3 = X := by unfold tvX; rw [if_pos hB]
  refine (implTurnVolume_any X X X (some ⟨b, 0, none⟩) n cp f (by omega) t0 t1 t2 t3 w hr.px).mono ?_
  rw [hN, hX']
  rintro e w' ⟨a', cp', b', rfl, ho, hB', hb⟩
  rcases ho with ho | ⟨rfl, hr'⟩
  · omega
  · exact ⟨b', cp', rfl, hB'.resolve_left (by omega), hr', hb⟩

/-- a value is told -/
theorem tgF_val {wB : World} {X : Int} {n : Nat} {G : Nat → Value → Prop} {fo : Nat → Option (Nat → Int)} {f5 : Nat → Int} {u : Nat → Value} {w : World} (j : Nat) (hj : j < 6) (hf : fo j = none) {v : Value} (h : G j v) : tgF wB X n G fo f5 j (upU u j v) w :=
  ⟨by rw [upU_same]; exact h, fun f h => (by rw [hf] at h; cases h), fun e => by omega, fun e => by omega⟩
/-- a volume is made -/
theorem tgF_vol {wB : World} {X : Int} {n : Nat} {G : Nat → Value → Prop} {fo : Nat → Option (Nat → Int)} {f5 : Nat → Int} {u : Nat → Value} {w w' : World} (j : Nat) (hj : j < 6) {f : Nat → Int} (hf : fo j = some f) (hG : ∀ v, G j v) (hR : tgR wB u w) (h7 : u 7 = undef) {b cp : Nat} (hB : w.heap.size ≤ b) (hr : Row b n f w') :
    tgF wB X n G fo f5 j (upU u j (vVolume X X X (some ⟨b, 0, none⟩) n cp)) w' := by
  refine ⟨hG _, fun f' h => ?_, fun e => by omega, fun e => by omega⟩
  rw [hf] at h
  cases h
  refine .inr ⟨b, cp, upU_same _ _ _, hr, Nat.le_trans hR.1.size hB, fun M hM => ?_⟩
  rw [upU_other _ _ (by omega)] at hM
  rcases hR.2 M hM with h1 | h1
  · exact absurd h7 h1
  · have := h1.2.lt
    omega
/-- what each operation of the last comparison leaves -/
def tzF (X : Int) (n : Nat) (G : Nat → Value → Prop) (fo : Nat → Option (Nat → Int)) (j : Nat) (u : Nat → Value) (w : World) : Prop :=
  G j (u j) ∧ ∀ f, fo j = some f → ∃ b cp, u j = vVolume X X X (some ⟨b, 0, none⟩) n cp ∧ Row b n f w
theorem tzF_up {X : Int} {n : Nat} {G : Nat → Value → Prop} {fo : Nat → Option (Nat → Int)} {u : Nat → Value} {w w' : World} (hn : 1 ≤ n) (hb : Below w.heap.size w w') (i : Nat) (v : Value) (j : Nat) (hj : j ≠ i) (h : tzF X n G fo j u w) : tzF X n G fo j (upU u i v) w' := by
  obtain ⟨h1, h2⟩ := h
  refine ⟨by rw [upU_other u v hj]; exact h1, fun f hf => ?_⟩
  obtain ⟨b, cp, e, hr⟩ := h2 f hf
  exact ⟨b, cp, by rw [upU_other u v hj]; exact e, hr.below hb (hr.lt hn)⟩
theorem tzF_val {X : Int} {n : Nat} {G : Nat → Value → Prop} {fo : Nat → Option (Nat → Int)} {u : Nat → Value} {w : World} (j : Nat) (hf : fo j = none) {v : Value} (h : G j v) : tzF X n G fo j (upU u j v) w :=
  ⟨by rw [upU_same]; exact h, fun f h => (by rw [hf] at h; cases h)⟩
theorem tzF_vol {X : Int} {n : Nat} {G : Nat → Value → Prop} {fo : Nat → Option (Nat → Int)} {u : Nat → Value} {w : World} (j : Nat) {f : Nat → Int} (hf : fo j = some f) (hG : ∀ v, G j v) {b cp : Nat} (hr : Row b n f w) : tzF X n G fo j (upU u j (vVolume X X X (some ⟨b, 0, none⟩) n cp)) w :=
  ⟨hG _, fun f' h => by rw [hf] at h; cases h; exact ⟨b, cp, upU_same _ _ _, hr⟩⟩

end Go.Proofs.YtggiegfkmkaaeaaDoor

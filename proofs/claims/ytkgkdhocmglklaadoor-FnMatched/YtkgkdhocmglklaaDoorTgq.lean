/- A volume that is made and put into a new box: a region that draws (out of Dtm, Tgr, Tgv, for other seats). -/
import Derived.Test.YtkgkdhocmglklaaDoorRgu
import Derived.Test.YtkgkdhocmglklaaDoorDtm
import Derived.Test.YtkgkdhocmglklaaDoorRVol
namespace Go.Proofs.YtkgkdhocmglklaaDoor
open Go.RowKit

/-- a volume of the call's own, apart from the box that slot 6 points to -/
def VoA (wB : World) (X : Int) (n : Nat) (u : Nat → Value) (v : Value) (f : Nat → Int) (w : World) : Prop :=
  ∃ b cp, v = vVolume X X X (some ⟨b, 0, none⟩) n cp ∧ Row b n f w ∧ wB.heap.size ≤ b ∧ ∀ M, u 6 = .pointer (some ⟨M, 0, none⟩) → M ≠ b
/-- what each operation leaves -/
def tgF (wB : World) (X : Int) (n : Nat) (G : Nat → Value → Prop) (fo : Nat → Option (Nat → Int)) (f5 : Nat → Int) (j : Nat) (u : Nat → Value) (w : World) : Prop :=
  G j (u j) ∧ (∀ f, fo j = some f → u 7 ≠ undef ∨ VoA wB X n u (u j) f w) ∧ (j = 6 → ∃ M, u 6 = .pointer (some ⟨M, 0, none⟩) ∧ wB.heap.size ≤ M) ∧
  (j = 7 → ∃ M b cp, u 6 = .pointer (some ⟨M, 0, none⟩) ∧ wB.heap.size ≤ M ∧ wB.heap.size ≤ b ∧ M ≠ b ∧ Bx M [.int .i64 X, .int .i64 X, .int .i64 X, .slice (some ⟨b, 0, none⟩) n cp] w ∧ Row b n f5 w)
/-- what stays -/
def tgR (wB : World) (u : Nat → Value) (w : World) : Prop :=
  Below wB.heap.size wB w ∧ ∀ M, u 6 = .pointer (some ⟨M, 0, none⟩) → wB.heap.size ≤ M → u 7 ≠ undef ∨ (wB.heap.size ≤ M ∧ Bx M [.int .i64 0, .int .i64 0, .int .i64 0, .slice none 0 0] w)
theorem Bx.lt {b : Nat} {v : Value} {vs : List Value} {w : World} (h : Bx b (v :: vs) w) : b < w.heap.size := World.block_lt_of_cell? w ⟨b, 0, none⟩ (h 0 v rfl).1
theorem Row.lt {b n : Nat} {f : Nat → Int} {w : World} (h : Row b n f w) (hn : 1 ≤ n) : b < w.heap.size := World.block_lt_of_cell? w ⟨b, 0, none⟩ (h 0 (by omega)).1
theorem tgR_up {wB : World} {u : Nat → Value} {w w' : World} (h : tgR wB u w) (hb : Below w.heap.size w w') (i : Nat) (hi : i < 6) (v : Value) : tgR wB (upU u i v) w' := by
  refine ⟨h.1.trans (hb.mono h.1.size), fun M hM hMB => ?_⟩
  rw [upU_other u v (by omega)] at hM ⊢
  rcases h.2 M hM hMB with h1 | h1
  · exact .inl h1
  · exact .inr ⟨h1.1, h1.2.below hb h1.2.lt⟩
theorem VoA.up {wB : World} {X : Int} {n : Nat} {u : Nat → Value} {x : Value} {f : Nat → Int} {w w' : World} (hn : 1 ≤ n) (h : VoA wB X n u x f w) (hb : Below w.heap.size w w') (i : Nat) (hi : i ≠ 6) (v : Value) : VoA wB X n (upU u i v) x f w' := by
  obtain ⟨b, cp, e, hr, hB, hM⟩ := h
  exact ⟨b, cp, e, hr.below hb (hr.lt hn), hB, fun M h => hM M (by rwa [upU_other u v (Ne.symm hi)] at h)⟩
theorem tgF_up {wB : World} {X : Int} {n : Nat} {G : Nat → Value → Prop} {fo : Nat → Option (Nat → Int)} {f5 : Nat → Int} {u : Nat → Value} {w w' : World} (hn : 1 ≤ n) (hb : Below w.heap.size w w') (i : Nat) (hi : i < 6) (v : Value) (j : Nat) (hj : j ≠ i) (h : tgF wB X n G fo f5 j u w) : tgF wB X n G fo f5 j (upU u i v) w' := by
  obtain ⟨h1, h2, h3, h4⟩ := h
  refine ⟨by rw [upU_other u v hj]; exact h1, fun f hf => ?_, fun e => ?_, fun e => ?_⟩
  · rw [upU_other u v hj, upU_other u v (show 7 ≠ i by omega)]
    exact (h2 f hf).imp id fun h => h.up hn hb i (by omega) v
  · rw [upU_other u v (show 6 ≠ i by omega)]; exact h3 e
  · obtain ⟨M, b, cp, a1, a2, a3, a4, a5, a6⟩ := h4 e
    exact ⟨M, b, cp, by rw [upU_other u v (show 6 ≠ i by omega)]; exact a1, a2, a3, a4, a5.below hb a5.lt, a6.below hb (a6.lt hn)⟩
/-- a new box -/
theorem tgR_al {wB : World} {u : Nat → Value} {w : World} (h : tgR wB u w) (t : TypeId) :
    tgR wB (upU u 6 (.pointer (some ⟨w.heap.size, 0, none⟩))) (w.alloc (.cells #[.int .i64 0, .int .i64 0, .int .i64 0, .slice none 0 0] t)) := by
  have hb := bnew w (.cells #[.int .i64 0, .int .i64 0, .int .i64 0, .slice none 0 0] t)
  refine ⟨h.1.trans (hb.mono h.1.size), fun M hM _ => ?_⟩
  rw [upU_same] at hM
  cases hM
  exact .inr ⟨h.1.size, Bx.new [.int .i64 0, .int .i64 0, .int .i64 0, .slice none 0 0] t w⟩
theorem tgF_al {wB : World} {X : Int} {n : Nat} {G : Nat → Value → Prop} {fo : Nat → Option (Nat → Int)} {f5 : Nat → Int} {u : Nat → Value} {w : World} (hn : 1 ≤ n) (t : TypeId) (j : Nat) (hj : j ≠ 6) (h7 : j ≠ 7) (h : tgF wB X n G fo f5 j u w) :
    tgF wB X n G fo f5 j (upU u 6 (.pointer (some ⟨w.heap.size, 0, none⟩))) (w.alloc (.cells #[.int .i64 0, .int .i64 0, .int .i64 0, .slice none 0 0] t)) := by
  have hb := bnew w (.cells #[.int .i64 0, .int .i64 0, .int .i64 0, .slice none 0 0] t)
  obtain ⟨h1, h2, h3, h4⟩ := h
  refine ⟨by rw [upU_other _ _ hj]; exact h1, fun f hf => ?_, fun e => absurd e hj, fun e => absurd e h7⟩
  rw [upU_other _ _ hj, upU_other _ _ (show 7 ≠ 6 by omega)]
  refine (h2 f hf).imp id fun h => ?_
  obtain ⟨b, cp, e, hr, hB, hM⟩ := h
  refine ⟨b, cp, e, hr.below hb (hr.lt hn), hB, fun M hM' => ?_⟩
  rw [upU_same] at hM'
  cases hM'
  have := hr.lt hn
  omega
/-- the box is filled -/
theorem tgR_st {wB : World} {u : Nat → Value} {w : World} (h : tgR wB u w) {M : Nat} (hM : wB.heap.size ≤ M) (x0 x1 x2 x3 : Value) {v : Value} (hv : v ≠ undef) : tgR wB (upU u 7 v) (set4 w M x0 x1 x2 x3) :=
  ⟨below_set4 h.1 hM _ _ _ _, fun _ _ _ => .inl (by rw [upU_same]; exact hv)⟩
theorem tgF_st {wB : World} {X : Int} {n : Nat} {G : Nat → Value → Prop} {fo : Nat → Option (Nat → Int)} {f5 : Nat → Int} {u : Nat → Value} {w w' : World} {v : Value} (hv : v ≠ undef) (j : Nat) (hj : j ≠ 7) (h : tgF wB X n G fo f5 j u w) : tgF wB X n G fo f5 j (upU u 7 v) w' := by
  obtain ⟨h1, h2, h3, h4⟩ := h
  exact ⟨by rw [upU_other _ _ hj]; exact h1, fun f hf => .inl (by rw [upU_same]; exact hv), fun e => by rw [upU_other _ _ (show 6 ≠ 7 by omega)]; exact h3 e, fun e => absurd e hj⟩
theorem Row.far4 {b n c : Nat} {f : Nat → Int} {w : World} (h : Row b n f w) (hc : c ≠ b) (x0 x1 x2 x3 : Value) : Row b n f (set4 w c x0 x1 x2 x3) := (((h.set hc _).set hc _).set hc _).set hc _

/-- a value is told -/
theorem tgF_val {wB : World} {X : Int} {n : Nat} {G : Nat → Value → Prop} {fo : Nat → Option (Nat → Int)} {f5 : Nat → Int} {u : Nat → Value} {w : World} (j : Nat) (hj : j < 6) (hf : fo j = none) {v : Value} (h : G j v) : tgF wB X n G fo f5 j (upU u j v) w :=
  ⟨by rw [upU_same]; exact h, fun f h => (by rw [hf] at h; cases h), fun e => by omega, fun e => by omega⟩
/-- a volume is made -/
theorem tgF_vol {wB : World} {X : Int} {n : Nat} {G : Nat → Value → Prop} {fo : Nat → Option (Nat → Int)} {f5 : Nat → Int} {u : Nat → Value} {w w' : World} (j : Nat) (hj : j < 6) {f : Nat → Int} (hf : fo j = some f) (hG : ∀ v, G j v) (hR : tgR wB u w) (h7 : u 7 = undef) {b cp : Nat} (hB : w.heap.size ≤ b) (hr : Row b n f w') :
    tgF wB X n G fo f5 j (upU u j (vVolume X X X (some ⟨b, 0, none⟩) n cp)) w' := by
  refine ⟨hG _, fun f' h => ?_, fun e => by omega, fun e => by omega⟩
  rw [hf] at h
  cases h
  refine .inr ⟨b, cp, upU_same _ _ _, hr, Nat.le_trans hR.1.size hB, fun M hM => ?_⟩
  rw [upU_other _ _ (by omega)] at hM
  by_cases hMB : wB.heap.size ≤ M
  · rcases hR.2 M hM hMB with h1 | h1
    · exact absurd h7 h1
    · have := h1.2.lt
      omega
  · have := hR.1.size
    omega
end Go.Proofs.YtkgkdhocmglklaaDoor

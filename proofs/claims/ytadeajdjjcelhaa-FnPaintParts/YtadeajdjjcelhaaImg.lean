/- Images: the copy that the law makes, and when two are alike. -/
import Derived.Test.YtadeajdjjcelhaaCopy
namespace Go.Proofs.Ytadeajdjjcelhaa
open Go.RowKit

theorem Row.below {b len B : Nat} {f : Nat → Int} {w w' : World} (h : Row b len f w) (hb : Below B w w') (hB : b < B) : Row b len f w' := fun k hk => by
  rw [hb.cell (p := ⟨b, k, none⟩) hB, hb.frozen (p := ⟨b, k, none⟩) hB]
  exact h k hk

theorem Row.px {b len : Nat} {f : Nat → Int} {w : World} (h : Row b len f w) : Px (some ⟨b, 0, none⟩) len f w :=
  .inr ⟨b, 0, rfl, fun k hk => by rw [Nat.zero_add]; exact (h k hk).1⟩

theorem Row.set {b len : Nat} {f : Nat → Int} {w : World} (h : Row b len f w) {p : Addr} (hp : p.block ≠ b) (v : Value) : Row b len f (w.setCell p v) := fun k hk => by
  refine ⟨?_, by simpa using (h k hk).2⟩
  rw [World.cell?_setCell_other _ _ _ _ (by intro e; subst e; exact hp rfl)]
  exact (h k hk).1

/-- an image as a value -/
abbrev im (W H : Int) (a : Option Addr) (len cap : Nat) : Value := .agg #[.int .i64 W, .int .i64 H, .slice a len cap]

theorem toImage_any (W H : Int) (a : Option Addr) (len cap : Nat) (f : Nat → Int) (hl : len ≤ 1048576) (w : World) (h : Px a len f w) :
    Calls Try.prog 27 #[im W H a len cap] w fun e w' => ∃ b, e = .returned (im W H (some ⟨b, 0, none⟩) len len) ∧ w.heap.size ≤ b ∧ b < w'.heap.size ∧ Row b len f w' ∧ Below w.heap.size w w' := by
  have hc := toInts_any a len cap f hl
  have HP : Hid (Px a len f w) := h
  clear h
  go_enter Try.func27, Try.ntmps27
  go_wp2_with fail
  refine (hc _ (HP.out.below ?_)).mono ?_
  · exact (((Below.refl _ _).alloc (Nat.le_refl _) _).alloc (by simp) _).alloc (by simp; omega) _
  rintro e w1 ⟨rfl, hr, hb, hs⟩
  have c0 := hb.cell (p := ⟨w.heap.size + 2, 0, none⟩) (by simp)
  have c1 := hb.cell (p := ⟨w.heap.size + 2, 1, none⟩) (by simp)
  have c2 := hb.cell (p := ⟨w.heap.size + 2, 2, none⟩) (by simp)
  have d0 := hb.cell (p := ⟨w.heap.size + 1, 0, none⟩) (by simp)
  have d1 := hb.cell (p := ⟨w.heap.size + 1, 1, none⟩) (by simp)
  have d2 := hb.cell (p := ⟨w.heap.size + 1, 2, none⟩) (by simp)
  have e0 := hb.frozen (p := ⟨w.heap.size + 2, 0, none⟩) (by simp)
  have e1 := hb.frozen (p := ⟨w.heap.size + 2, 1, none⟩) (by simp)
  have e2 := hb.frozen (p := ⟨w.heap.size + 2, 2, none⟩) (by simp)
  have g0 := hb.frozen (p := ⟨w.heap.size + 1, 0, none⟩) (by simp)
  have g1 := hb.frozen (p := ⟨w.heap.size + 1, 1, none⟩) (by simp)
  have g2 := hb.frozen (p := ⟨w.heap.size + 1, 2, none⟩) (by simp)
  simp [go_sem] at c0 c1 c2 d0 d1 d2 e0 e1 e2 g0 g1 g2
  have HR : Hid (Row _ len f w1) := hr
  have HB : Hid (Below _ _ w1) := hb
  have HS : Hid (_ < w1.heap.size) := hs
  clear hr hb hs hc
  go_wp2_with fail
  have hs := HS.out
  have hr := HR.out
  have hb := HB.out
  simp at hr hs
  refine bodyPost_ret (v := im W H (some ⟨w.heap.size + 1 + 1 + 1, 0, none⟩) len len) (by simp [results, Try.results27, go_sem, d0, d1, d2]) rfl ⟨_, rfl, by omega, ?_, ?_, ?_⟩
  · simpa using hs
  · exact (((hr.set (by simp) _).set (by simp) _).set (by simp) _).set (by simp) _
  · refine ((((Below.trans ?_ (hb.mono ?_)).setCell ?_ _).setCell ?_ _).setCell ?_ _).setCell ?_ _
    · exact (((Below.refl _ _).alloc (Nat.le_refl _) _).alloc (by simp) _).alloc (by simp; omega) _
    all_goals first | (simp; done) | (simp; omega)

theorem eqInts_any (a a' : Option Addr) (len cap cap' : Nat) (f : Nat → Int) (hl : len ≤ 1048576) (w : World) (h : Px a len f w) (h' : Px a' len f w) :
    Calls Try.prog 57 #[.slice a len cap, .slice a' len cap'] w fun e w' => e = .returned (.bool true) ∧ ∃ n, w' = w.drewN n := by
  have HP : Hid (Px a len f w) := h
  have HP' : Hid (Px a' len f w) := h'
  clear h h'
  go_enter Try.func57, Try.ntmps57
  go_wp2
  go_loopw [5] (fun i wr => ∃ k n : Nat, k ≤ len ∧ i = .int .i64 k ∧ wr = w.drewN n) (fun i _ => len - (intOf i).toNat)
  case atStart => exact ⟨0, 0, by omega, rfl, rfl⟩
  case round =>
    obtain ⟨k, n, hk, rfl, rfl⟩ := hrel
    by_cases hlt : k < len
    · obtain ⟨b, off, rfl, hc⟩ : ∃ b off, a = some ⟨b, off, none⟩ ∧ ∀ k, k < len → w.cell? ⟨b, off + k, none⟩ = some (.int .i64 (f k)) := by
        rcases HP.out with h | h
        · omega
        · exact h
      obtain ⟨b', off', rfl, hc'⟩ : ∃ b off, a' = some ⟨b, off, none⟩ ∧ ∀ k, k < len → w.cell? ⟨b, off + k, none⟩ = some (.int .i64 (f k)) := by
        rcases HP'.out with h | h
        · omega
        · exact h
      have hz := hc k hlt
      have hz' := hc' k hlt
      clear hc HP hc' HP'
      go_wp2
      go_quiet (fail)
      go_wp2
      go_roundw
      case rel => exact ⟨k + 1, _, by omega, by go_num, rfl⟩
      case measure => simp [intOf]; omega
    · go_wp2
      go_ret
      exact ⟨rfl, _, rfl⟩

theorem eqImage_any (W H : Int) (a a' : Option Addr) (len cap cap' : Nat) (f : Nat → Int) (hl : len ≤ 1048576) (w : World) (h : Px a len f w) (h' : Px a' len f w) :
    Calls Try.prog 29 #[im W H a len cap, im W H a' len cap'] w fun e w' => e = .returned (.bool true) ∧ Below w.heap.size w w' := by
  have hc := eqInts_any a a' len cap cap' f hl
  have hb : ∀ x y, Below w.heap.size w ((w.alloc x).alloc y) := fun x y => ((Below.refl _ _).alloc (Nat.le_refl _) _).alloc (by simp) _
  have HP : Hid (∀ x y, Px a len f ((w.alloc x).alloc y)) := fun x y => h.below (hb x y)
  have HP' : Hid (∀ x y, Px a' len f ((w.alloc x).alloc y)) := fun x y => h'.below (hb x y)
  have HB : Hid (∀ x y, Below w.heap.size w ((w.alloc x).alloc y)) := hb
  clear h h' hb
  go_enter Try.func29, Try.ntmps29
  go_wp2_with fail
  refine (hc _ (HP.out _ _) (HP'.out _ _)).mono ?_
  rintro e w1 ⟨rfl, n, hw⟩
  have B : Below w.heap.size w w1 := by rw [hw]; exact below_drewN (HB.out _ _) _
  clear hw hc HP HP' HB
  go_wp2_with fail
  go_ret
  exact ⟨rfl, B⟩

end Go.Proofs.Ytadeajdjjcelhaa

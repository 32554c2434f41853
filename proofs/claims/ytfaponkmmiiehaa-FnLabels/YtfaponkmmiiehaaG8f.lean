/- Pictures: an image as one, a new picture by a function value for each place, and back. -/
import Derived.Test.YtfaponkmmiiehaaG8v
import Derived.Test.YtfaponkmmiiehaaMk8
namespace Go.Proofs.Ytfaponkmmiiehaa
open Go.RowKit

set_option maxRecDepth 100000 in
set_option maxHeartbeats 1000000 in
theorem pictureOf_any (W H : Int) (a : Option Addr) (n cap : Nat) (w : World) :
    Calls Try.prog 21 #[im W H a n cap] w fun e w' => e = .returned (im W H a n cap) ∧ Below w.heap.size w w' := by
  go_enter Try.func21, Try.ntmps21
  go_wp2_with fail
  refine bodyPost_ret (v := im W H a n cap) (by simp [results, Try.results21, go_sem]) rfl ⟨rfl, ?_⟩
  exact (bnew _ _).alloc (by simp) _

theorem Part.size_lt {b len k j : Nat} {f : Nat → Int} {w : World} (h : Part b len k f w) (hj : j < len) : b < w.heap.size := by
  obtain ⟨⟨z, hz, _⟩, _⟩ := h j hj
  exact World.block_lt_of_cell? w ⟨b, j, none⟩ hz
/-- a cell of a block that is not in hand is written: what is in hand stays -/
theorem St.far {w0 : World} {L : List BoxT} {O : List OwnT} {w : World} {b : Nat} (h : St w0 L O w) (hb : b ∉ blocks L O) (h0 : w0.heap.size ≤ b) (j : Nat) (v : Value) : St w0 L O (w.setCell ⟨b, j, none⟩ v) := by
  have hk : Kept b w (w.setCell ⟨b, j, none⟩ v) := (Kept.refl b w).setCell rfl _
  refine ⟨h.below.trans (hk.below h0 h.below.size), fun x hx => (h.bx x hx).kept hk (fun e => hb ?_), fun x hx => (h.ow x hx).keptO hk (fun hx0 e => hb ?_), fun c hc => ?_, h.nd⟩
  · rw [← e]; exact mem_blocks_box hx
  · rw [← e]; exact mem_blocks_own hx hx0
  · have := h.lt c hc
    exact ⟨this.1, Nat.lt_of_lt_of_le this.2 hk.size⟩

set_option maxRecDepth 100000 in
set_option maxHeartbeats 1000000 in
theorem filtered_any (W H : Int) (a : Option Addr) (n cap : Nat) (hl : n ≤ 1048576) (K : Nat) (hK : ∀ ar w, Sem.run Try.prog (callFunc K ar) w = .ok (.enter K ar) w) (cp : Array Value) (F : Nat → Int) (w : World)
    (hv : ∀ k wr, k < n → Below w.heap.size w wr → Calls Try.prog K (#[.int .i64 (k : Nat)] ++ cp) wr fun e w' => e = .returned (.int .i64 (F k)) ∧ Below wr.heap.size wr w') :
    Calls Try.prog 22 #[im W H a n cap, .func (.func K) #[] cp] w (ImR W H n F w) := by
  have hmk := fun w' => make_px n hl w'
  have HV := hide hv
  clear hv
  have HS0 := hide (((St.start w).box [.int .i64 W, .int .i64 H, .slice a n cap] 44).box' [.int .i64 0, .int .i64 0, .slice none 0 0] 44 (b := w.heap.size + 1) (by simp))
  go_enter Try.func22, Try.ntmps22
  go_wp2_with fail
  have hp0 := row_new n (((w.alloc (.cells #[.int .i64 W, .int .i64 H, .slice a n cap] 44)).alloc (.cells #[.int .i64 0, .int .i64 0, .slice none 0 0] 44)))
  have HS1 := hide (HS0.out.own (bnew _ (.cells (madeCells #[.int .i64 0] n) 2)) (Ow.of_row hp0).v (.inr (Nat.le_refl _)))
  have hz : ((w.alloc (.cells #[.int .i64 W, .int .i64 H, .slice a n cap] 44)).alloc (.cells #[.int .i64 0, .int .i64 0, .slice none 0 0] 44)).heap.size = w.heap.size + 2 := by simp
  rw [hz] at hp0 HS1
  have HP0 := hide (hp0.part (f := F))
  have HZ1 : Hid (w.heap.size + 2 < ((((w.alloc (.cells #[.int .i64 W, .int .i64 H, .slice a n cap] 44)).alloc (.cells #[.int .i64 0, .int .i64 0, .slice none 0 0] 44))).alloc (.cells (madeCells #[.int .i64 0] n) 2)).heap.size) := by show _ < _; simp
  clear hmk hp0 hz
  generalize (((w.alloc (.cells #[.int .i64 W, .int .i64 H, .slice a n cap] 44)).alloc (.cells #[.int .i64 0, .int .i64 0, .slice none 0 0] 44))).alloc (.cells (madeCells #[.int .i64 0] n) 2) = w1 at *
  clear HS0
  go_loopw [13] (fun i wr => ∃ k : Nat, k ≤ n ∧ i = .int .i64 k ∧ St w [(w.heap.size + 1, [.int .i64 0, .int .i64 0, .slice none 0 0]), (w.heap.size, [.int .i64 W, .int .i64 H, .slice a n cap])] [] wr ∧ w.heap.size + 2 < wr.heap.size ∧ Part (w.heap.size + 2) n k F wr) (fun i _ => n - (intOf i).toNat)
  case atStart => exact ⟨0, by omega, rfl, HS1.out.sub (List.Sublist.refl _) (List.Sublist.cons _ (List.Sublist.refl _)), HZ1.out, HP0.out⟩
  case round =>
    obtain ⟨k, hk, rfl, hS, hz, hP⟩ := hrel
    have HS := hide hS
    have HP := hide hP
    clear hS hP HS1 HP0
    by_cases hlt : k < n
    · have cK := HV.out k wr hlt HS.out.below
      go_wp2_with fail
      refine cK.mono ?_
      rintro e w2 ⟨rfl, hb⟩
      have HS2 := hide (HS.out.next hb)
      have HP2 := hide (HP.out.below hb (by omega))
      obtain ⟨⟨y, hy, _⟩, fr⟩ := HP2.out k hlt
      clear hb cK HS HP
      have HF := hide (HS2.out.far (b := w.heap.size + 2) (by simp [blocks]) (by omega) k (.int .i64 (F k)))
      have HP3 := hide (HP2.out.step hlt (F k) rfl)
      have HZ2 : Hid (w.heap.size + 2 < (w2.setCell ⟨w.heap.size + 2, k, none⟩ (.int .i64 (F k))).heap.size) := by
        have := HP3.out.size_lt hlt
        exact this
      go_wp2_with fail
      exact ⟨⟨k + 1, by omega, rfl, HF.out, HZ2.out, HP3.out⟩, by simp [intOf]; omega⟩
    · obtain rfl : k = n := by omega
      obtain ⟨i0, i1, i2⟩ := HS.out.im3 1 rfl
      obtain ⟨j0, j1, j2⟩ := HS.out.im3 0 rfl
      obtain ⟨f0, f1, f2⟩ := HS.out.fr3 0 rfl
      have HF := hide (HS.out.fill3 (.int .i64 W) (.int .i64 H) (.slice (some ⟨w.heap.size + 2, 0, none⟩) k k))
      have HR := hide (HP.out.row)
      go_wp2_with fail
      refine bodyPost_ret (v := im W H (some ⟨w.heap.size + 2, 0, none⟩) k k) (by simp [results, Try.results22, go_sem, j0, j1, j2]) rfl ?_
      refine ⟨_, _, w.heap.size + 2, rfl, .inr ⟨rfl, ?_⟩, .inr (by omega), HF.out.below⟩
      exact ((HR.out.set (by show w.heap.size + 1 ≠ _; omega) _).set (by show w.heap.size + 1 ≠ _; omega) _).set (by show w.heap.size + 1 ≠ _; omega) _

set_option maxRecDepth 100000 in
set_option maxHeartbeats 1000000 in
theorem image_any (W H : Int) (a : Option Addr) (n cap : Nat) (f : Nat → Int) (hl : n ≤ 1048576) (w : World) (h : Px a n f w) :
    Calls Try.prog 25 #[im W H a n cap] w fun e w' => e = .returned (if okB W H n f = true then im W H a n cap else im 0 0 none 0 0) ∧ Below w.heap.size w w' := by
  have HS0 := hide ((((St.start w).box [.int .i64 W, .int .i64 H, .slice a n cap] 44).box' [.int .i64 0, .int .i64 0, .slice none 0 0] 26 (b := w.heap.size + 1) (by simp)).box' [.int .i64 W, .int .i64 H, .slice a n cap] 26 (b := w.heap.size + 2) (by simp))
  have c := implOk_any W H a n cap f hl _ (h.below HS0.out.below)
  cases hq : okB W H n f
  · rw [hq] at c
    clear hq h
    go_enter Try.func25, Try.ntmps25
    go_wp2_with fail
    refine c.mono ?_
    rintro e w1 ⟨rfl, hb⟩
    have HS1 := hide (HS0.out.next hb)
    obtain ⟨j0, j1, j2⟩ := HS1.out.im3 1 rfl
    obtain ⟨f0, f1, f2⟩ := HS1.out.fr3 1 rfl
    have HF := hide (HS1.out.fill3' (L1 := [_]) (.int .i64 0) (.int .i64 0) (.slice none 0 0))
    clear hb c HS0
    go_wp2_with fail
    refine bodyPost_ret (v := im 0 0 none 0 0) (by simp [results, Try.results25, go_sem, j0, j1, j2]) rfl ⟨rfl, HF.out.below⟩
  · rw [hq] at c
    clear hq h
    go_enter Try.func25, Try.ntmps25
    go_wp2_with fail
    refine c.mono ?_
    rintro e w1 ⟨rfl, hb⟩
    have HS1 := hide (HS0.out.next hb)
    obtain ⟨i0, i1, i2⟩ := HS1.out.im3 0 rfl
    obtain ⟨j0, j1, j2⟩ := HS1.out.im3 1 rfl
    obtain ⟨f0, f1, f2⟩ := HS1.out.fr3 1 rfl
    have HF := hide (HS1.out.fill3' (L1 := [_]) (.int .i64 W) (.int .i64 H) (.slice a n cap))
    clear hb c HS0
    go_wp2_with fail
    refine bodyPost_ret (v := im W H a n cap) (by simp [results, Try.results25, go_sem, j0, j1, j2]) rfl ⟨rfl, HF.out.below⟩

end Go.Proofs.Ytfaponkmmiiehaa

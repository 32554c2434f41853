/- Pictures: an image as one, a new picture by a function value that also writes into one block, and back. -/
import Derived.Test.YtfbjjfpcgpkhiaaHom
namespace Go.Proofs.Ytfbjjfpcgpkhiaa
open Go.RowKit

set_option maxRecDepth 100000 in
set_option maxHeartbeats 1000000 in
theorem pictureOf_any (W H : Int) (a : Option Addr) (n cap : Nat) (w : World) :
    Calls Try.prog 18 #[im W H a n cap] w fun e w' => e = .returned (im W H a n cap) ∧ Below w.heap.size w w' := by
  go_enter Try.func18, Try.ntmps18
  go_wp2_with fail
  refine bodyPost_ret (v := im W H a n cap) (by simp [results, Try.results18, go_sem]) rfl ⟨rfl, ?_⟩
  exact (bnew _ _).alloc (by simp) _

theorem Part.size_lt {b len k j : Nat} {f : Nat → Int} {w : World} (h : Part b len k f w) (hj : j < len) : b < w.heap.size := by
  obtain ⟨⟨z, hz, _⟩, _⟩ := h j hj
  exact World.block_lt_of_cell? w ⟨b, j, none⟩ hz
/-- a cell of a block that is not in hand is written: what is in hand stays -/
theorem St.far {w0 : World} {L : List BoxT} {O : List OwnT} {w : World} {b : Nat} (h : St w0 L O w) (hb : b ∉ blocks L O) (h0 : w0.heap.size ≤ b) (j : Nat) (v : Value) : St w0 L O (w.setCell ⟨b, j, none⟩ v) := by
  have hk : Kept b w (w.setCell ⟨b, j, none⟩ v) := (Kept.refl b w).setCell rfl _
  refine ⟨h.below.trans (hk.below h0 h.below.size), fun x hx => (h.bx x hx).kept hk (fun e => hb ?_), fun x hx => (h.ow x hx).keptO hk (fun hx0 e => hb ?_), fun c hc => ?_, h.nd⟩
  · rw [← e]; exact mem_blocks_box hx
  · rw [← e]; exact mem_blocks_own hx hx0
  · have := h.lt c hc
    exact ⟨this.1, Nat.lt_of_lt_of_le this.2 hk.size⟩

theorem Part.kept {b len k p : Nat} {f : Nat → Int} {w w' : World} (h : Part b len k f w) (hk : Kept p w w') (hp : b ≠ p) : Part b len k f w' := fun j hj => by
  obtain ⟨⟨z, hz, e⟩, fr⟩ := h j hj
  exact ⟨⟨z, hk.cell hp hz, e⟩, (hk.frozen (a := ⟨b, j, none⟩) hp hz).trans fr⟩

theorem Bx.keptP {b p : Nat} {vs : List Value} {w w' : World} (h : Bx b vs w) (hk : Kept p w w') (hp : b ≠ p) : Bx b vs w' := h.kept hk hp
theorem Kept.nextB {p : Nat} {a b c : World} (h : Kept p a b) (k : Below b.heap.size b c) : Kept p a c := h.trans (Kept.of_below k)

set_option maxRecDepth 100000 in
set_option maxHeartbeats 1000000 in
theorem filteredI_any (p : Nat) (Iv : World → Prop) (hIv : ∀ w w', Iv w → w'.heap[p]? = w.heap[p]? → Iv w') (W H : Int) (a : Option Addr) (n cap : Nat) (hl : n ≤ 1048576) (K : Nat) (hK : ∀ ar w, Sem.run Try.prog (callFunc K ar) w = .ok (.enter K ar) w) (cp : Array Value) (F : Nat → Int) (w : World)
    (hp1 : p < w.heap.size) (hI : Iv w)
    (hv : ∀ k wr, k < n → Kept p w wr → Iv wr → Calls Try.prog K (#[.int .i64 (k : Nat)] ++ cp) wr fun e w' => e = .returned (.int .i64 (F k)) ∧ Kept p wr w' ∧ Iv w') :
    Calls Try.prog 19 #[im W H a n cap, .func (.func K) #[] cp] w fun e w' => ∃ a0 cap b, e = .returned (im W H a0 n cap) ∧ Ow a0 b n F w' ∧ w.heap.size ≤ b ∧ b < w'.heap.size ∧ Kept p w w' ∧ Iv w' := by
  have hmk := fun w' => make_px n hl w'
  have HV := hide hv
  clear hv
  go_enter Try.func19, Try.ntmps19
  go_wp2_with fail
  have hz : ((w.alloc (.cells #[.int .i64 W, .int .i64 H, .slice a n cap] 44)).alloc (.cells #[.int .i64 0, .int .i64 0, .slice none 0 0] 44)).heap.size = w.heap.size + 2 := by simp
  have hb2 : Below w.heap.size w ((w.alloc (.cells #[.int .i64 W, .int .i64 H, .slice a n cap] 44)).alloc (.cells #[.int .i64 0, .int .i64 0, .slice none 0 0] 44)) := (bnew _ _).alloc (by simp) _
  have hr0 := row_new n ((w.alloc (.cells #[.int .i64 W, .int .i64 H, .slice a n cap] 44)).alloc (.cells #[.int .i64 0, .int .i64 0, .slice none 0 0] 44))
  rw [hz] at hr0
  have HP0 := hide (hr0.part (f := F))
  have hx1 : Bx (w.heap.size + 1) [.int .i64 0, .int .i64 0, .slice none 0 0] ((w.alloc (.cells #[.int .i64 W, .int .i64 H, .slice a n cap] 44)).alloc (.cells #[.int .i64 0, .int .i64 0, .slice none 0 0] 44)) := by
    have := Bx.new (w := w.alloc (.cells #[.int .i64 W, .int .i64 H, .slice a n cap] 44)) [.int .i64 0, .int .i64 0, .slice none 0 0] 44
    simpa using this
  have hx0 : Bx w.heap.size [.int .i64 W, .int .i64 H, .slice a n cap] ((w.alloc (.cells #[.int .i64 W, .int .i64 H, .slice a n cap] 44)).alloc (.cells #[.int .i64 0, .int .i64 0, .slice none 0 0] 44)) := (Bx.new (w := w) [.int .i64 W, .int .i64 H, .slice a n cap] _).below (bnew _ _) (by simp)
  have hb3 : Below ((w.alloc (.cells #[.int .i64 W, .int .i64 H, .slice a n cap] 44)).alloc (.cells #[.int .i64 0, .int .i64 0, .slice none 0 0] 44)).heap.size ((w.alloc (.cells #[.int .i64 W, .int .i64 H, .slice a n cap] 44)).alloc (.cells #[.int .i64 0, .int .i64 0, .slice none 0 0] 44)) (((w.alloc (.cells #[.int .i64 W, .int .i64 H, .slice a n cap] 44)).alloc (.cells #[.int .i64 0, .int .i64 0, .slice none 0 0] 44)).alloc (.cells (madeCells #[.int .i64 0] n) 2)) := bnew _ _
  have HX1 := hide (hx1.below hb3 (by rw [hz]; omega))
  have HX0 := hide (hx0.below hb3 (by rw [hz]; omega))
  have HB1 := hide (bnext hb2 (Nat.le_refl _) hb3)
  have HZ1 : Hid (w.heap.size + 2 < (((w.alloc (.cells #[.int .i64 W, .int .i64 H, .slice a n cap] 44)).alloc (.cells #[.int .i64 0, .int .i64 0, .slice none 0 0] 44)).alloc (.cells (madeCells #[.int .i64 0] n) 2)).heap.size) := by show _ < _; simp
  have HI1 : Hid (Iv (((w.alloc (.cells #[.int .i64 W, .int .i64 H, .slice a n cap] 44)).alloc (.cells #[.int .i64 0, .int .i64 0, .slice none 0 0] 44)).alloc (.cells (madeCells #[.int .i64 0] n) 2))) := hIv _ _ hI (HB1.out.block p hp1)
  clear hmk hr0 hz hx1 hx0 hb3 hb2 hI
  generalize ((w.alloc (.cells #[.int .i64 W, .int .i64 H, .slice a n cap] 44)).alloc (.cells #[.int .i64 0, .int .i64 0, .slice none 0 0] 44)).alloc (.cells (madeCells #[.int .i64 0] n) 2) = w1 at *
  go_loopw [13] (fun i wr => ∃ k : Nat, k ≤ n ∧ i = .int .i64 k ∧ Bx (w.heap.size + 1) [.int .i64 0, .int .i64 0, .slice none 0 0] wr ∧ Bx w.heap.size [.int .i64 W, .int .i64 H, .slice a n cap] wr ∧ w.heap.size + 2 < wr.heap.size ∧ Part (w.heap.size + 2) n k F wr ∧ Kept p w wr ∧ Iv wr) (fun i _ => n - (intOf i).toNat)
  case atStart => exact ⟨0, by omega, rfl, HX1.out, HX0.out, HZ1.out, HP0.out, Kept.of_below HB1.out, HI1.out⟩
  case round =>
    obtain ⟨k, hk, rfl, hx1, hx0, hz, hP, hkp, hi⟩ := hrel
    have HX1' := hide hx1
    have HX0' := hide hx0
    have HP := hide hP
    have HKp := hide hkp
    have HI := hide hi
    have HZ := hide hz
    clear HX1 HX0 HP0 HZ1 HB1 HI1 hx1 hx0 hP hkp hi hz
    by_cases hlt : k < n
    · have cK := HV.out k wr hlt HKp.out HI.out
      go_wp2_with fail
      refine cK.mono ?_
      rintro e w2 ⟨rfl, hk2, hi2⟩
      have HX1 := hide (HX1'.out.kept hk2 (by omega))
      have HX0 := hide (HX0'.out.kept hk2 (by omega))
      have hP2 := HP.out.kept hk2 (by omega)
      obtain ⟨⟨y, hy, _⟩, fr⟩ := hP2 k hlt
      have HK2 := hide (HKp.out.trans hk2)
      have hs : Kept (w.heap.size + 2) w2 (w2.setCell ⟨w.heap.size + 2, k, none⟩ (.int .i64 (F k))) := (Kept.refl _ w2).setCell (a := ⟨w.heap.size + 2, k, none⟩) rfl _
      have HX1b := hide (HX1.out.kept hs (by omega))
      have HX0b := hide (HX0.out.kept hs (by omega))
      have HP3 := hide (hP2.step hlt (F k) rfl)
      have HZ3 : Hid (w.heap.size + 2 < (w2.setCell ⟨w.heap.size + 2, k, none⟩ (.int .i64 (F k))).heap.size) := Nat.lt_of_lt_of_le HZ.out (Nat.le_trans hk2.size hs.size)
      have HK3 : Hid (Kept p w (w2.setCell ⟨w.heap.size + 2, k, none⟩ (.int .i64 (F k)))) := by
        have h2 := HK2.out
        refine ⟨hs.os.trans h2.os, hs.tape.trans h2.tape, hs.output.trans h2.output, Nat.le_trans h2.size hs.size, fun j hj hp => ?_⟩
        rw [hs.block j (Nat.lt_of_lt_of_le hj h2.size) (by omega)]
        exact h2.block j hj hp
      have HI3 : Hid (Iv (w2.setCell ⟨w.heap.size + 2, k, none⟩ (.int .i64 (F k)))) := hIv _ _ hi2 (hs.block p (Nat.lt_of_lt_of_le hp1 HK2.out.size) (by omega))
      clear cK HX1' HX0' HP HKp HI HZ hk2 hi2 hP2 HK2 hs HX1 HX0
      go_wp2_with fail
      exact ⟨⟨k + 1, by omega, rfl, HX1b.out, HX0b.out, HZ3.out, HP3.out, HK3.out, HI3.out⟩, by simp [intOf]; omega⟩
    · obtain rfl : k = n := by omega
      have i0 := (HX0'.out 0 _ rfl).1
      have i1 := (HX0'.out 1 _ rfl).1
      have j0 := (HX1'.out 0 _ rfl).1
      have j1 := (HX1'.out 1 _ rfl).1
      have j2 := (HX1'.out 2 _ rfl).1
      have f0 := (HX1'.out 0 _ rfl).2
      have f1 := (HX1'.out 1 _ rfl).2
      have f2 := (HX1'.out 2 _ rfl).2
      have hs : Kept (w.heap.size + 1) wr (((wr.setCell ⟨w.heap.size + 1, 0, none⟩ (.int .i64 W)).setCell ⟨w.heap.size + 1, 1, none⟩ (.int .i64 H)).setCell ⟨w.heap.size + 1, 2, none⟩ (.slice (some ⟨w.heap.size + 2, 0, none⟩) k k)) :=
        (((Kept.refl _ wr).setCell (a := ⟨w.heap.size + 1, 0, none⟩) rfl _).setCell (a := ⟨w.heap.size + 1, 1, none⟩) rfl _).setCell (a := ⟨w.heap.size + 1, 2, none⟩) rfl _
      have HR : Hid (Row (w.heap.size + 2) k F (((wr.setCell ⟨w.heap.size + 1, 0, none⟩ (.int .i64 W)).setCell ⟨w.heap.size + 1, 1, none⟩ (.int .i64 H)).setCell ⟨w.heap.size + 1, 2, none⟩ (.slice (some ⟨w.heap.size + 2, 0, none⟩) k k))) := (HP.out.kept hs (by omega)).row
      have HK3 : Hid (Kept p w (((wr.setCell ⟨w.heap.size + 1, 0, none⟩ (.int .i64 W)).setCell ⟨w.heap.size + 1, 1, none⟩ (.int .i64 H)).setCell ⟨w.heap.size + 1, 2, none⟩ (.slice (some ⟨w.heap.size + 2, 0, none⟩) k k))) := by
        have h2 := HKp.out
        refine ⟨hs.os.trans h2.os, hs.tape.trans h2.tape, hs.output.trans h2.output, Nat.le_trans h2.size hs.size, fun j hj hp => ?_⟩
        rw [hs.block j (Nat.lt_of_lt_of_le hj h2.size) (by omega)]
        exact h2.block j hj hp
      have HI3 : Hid (Iv (((wr.setCell ⟨w.heap.size + 1, 0, none⟩ (.int .i64 W)).setCell ⟨w.heap.size + 1, 1, none⟩ (.int .i64 H)).setCell ⟨w.heap.size + 1, 2, none⟩ (.slice (some ⟨w.heap.size + 2, 0, none⟩) k k))) := hIv _ _ HI.out (hs.block p (Nat.lt_of_lt_of_le hp1 HKp.out.size) (by omega))
      have HZ3 := hide (Nat.lt_of_lt_of_le HZ.out hs.size)
      clear hs HI HKp HP HX1' HX0' HZ HV
      go_wp2_with fail
      refine bodyPost_ret (v := im W H (some ⟨w.heap.size + 2, 0, none⟩) k k) (by simp [results, Try.results19, go_sem, j0, j1, j2]) rfl ?_
      exact ⟨_, _, w.heap.size + 2, rfl, .inr ⟨rfl, HR.out⟩, by omega, HZ3.out, HK3.out, HI3.out⟩

set_option maxRecDepth 100000 in
set_option maxHeartbeats 1000000 in
theorem image_any (W H : Int) (a : Option Addr) (n cap : Nat) (f : Nat → Int) (hl : n ≤ 1048576) (w : World) (h : Px a n f w) :
    Calls Try.prog 23 #[im W H a n cap] w fun e w' => e = .returned (if okB W H n f = true then im W H a n cap else im 0 0 none 0 0) ∧ Below w.heap.size w w' := by
  have HS0 := hide ((((St.start w).box [.int .i64 W, .int .i64 H, .slice a n cap] 44).box' [.int .i64 0, .int .i64 0, .slice none 0 0] 26 (b := w.heap.size + 1) (by simp)).box' [.int .i64 W, .int .i64 H, .slice a n cap] 26 (b := w.heap.size + 2) (by simp))
  have c := implOk_any W H a n cap f hl _ (h.below HS0.out.below)
  cases hq : okB W H n f
  · rw [hq] at c
    clear hq h
    go_enter Try.func23, Try.ntmps23
    go_wp2_with fail
    refine c.mono ?_
    rintro e w1 ⟨rfl, hb⟩
    have HS1 := hide (HS0.out.next hb)
    obtain ⟨j0, j1, j2⟩ := HS1.out.im3 1 rfl
    obtain ⟨f0, f1, f2⟩ := HS1.out.fr3 1 rfl
    have HF := hide (HS1.out.fill3' (L1 := [_]) (.int .i64 0) (.int .i64 0) (.slice none 0 0))
    clear hb c HS0
    go_wp2_with fail
    refine bodyPost_ret (v := im 0 0 none 0 0) (by simp [results, Try.results23, go_sem, j0, j1, j2]) rfl ⟨rfl, HF.out.below⟩
  · rw [hq] at c
    clear hq h
    go_enter Try.func23, Try.ntmps23
    go_wp2_with fail
    refine c.mono ?_
    rintro e w1 ⟨rfl, hb⟩
    have HS1 := hide (HS0.out.next hb)
    obtain ⟨i0, i1, i2⟩ := HS1.out.im3 0 rfl
    obtain ⟨j0, j1, j2⟩ := HS1.out.im3 1 rfl
    obtain ⟨f0, f1, f2⟩ := HS1.out.fr3 1 rfl
    have HF := hide (HS1.out.fill3' (L1 := [_]) (.int .i64 W) (.int .i64 H) (.slice a n cap))
    clear hb c HS0
    go_wp2_with fail
    refine bodyPost_ret (v := im W H a n cap) (by simp [results, Try.results23, go_sem, j0, j1, j2]) rfl ⟨rfl, HF.out.below⟩

end Go.Proofs.Ytfbjjfpcgpkhiaa

/- Painting: the program. -/
import Derived.Test.YtadeajdjjcelhaaPntS
namespace Go.Proofs.Ytadeajdjjcelhaa
open Go.RowKit
set_option maxRecDepth 100000
set_option maxHeartbeats 2000000

/-- the first n pixels as cells -/
def pixL (f : Nat → Int) : Nat → List Value
  | 0 => []
  | n + 1 => pixL f n ++ [.int .i64 (f n)]
theorem pixL_length (f : Nat → Int) : ∀ n, (pixL f n).length = n
  | 0 => rfl
  | n + 1 => by simp [pixL, pixL_length f n]
theorem pixL_at (f : Nat → Int) : ∀ (n k : Nat), k < n → (pixL f n)[k]? = some (.int .i64 (f k))
  | n + 1, k, hk => by
    simp only [pixL]
    by_cases e : k = n
    · subst e
      rw [List.getElem?_append_right (by rw [pixL_length]; omega), pixL_length]
      simp
    · rw [List.getElem?_append_left (by rw [pixL_length]; omega)]
      exact pixL_at f n k (by omega)

set_option maxRecDepth 100000 in
theorem info2 : ∃ i, Try.prog.info? 2 = some i ∧ i.zero = some (.int .i64 0) ∧ i.size = 1 ∧ i.bytes = 8 := ⟨_, rfl, rfl, rfl, rfl⟩

set_option maxRecDepth 100000 in
theorem make_pix (n : Nat) (h : n ≤ 4096) (w : World) :
    ∃ cur : Array Value, cur.size = n * 1 ∧ (Instr.makeSlice 27 (.int .i64 0) (.int .i64 n)).run Try.prog w = .ok (.slice (some ⟨w.heap.size, 0, none⟩) 0 n) (w.alloc (.cells cur 2)) := by
  have := run_make (P := Try.prog) w 27 2 _ (.int .i64 0) Try.underlying27 rfl rfl .i64 .i64 0 n (by omega) (by omega) (by show (8 : Int) * _ ≤ _; omega) (by omega)
  refine ⟨_, ?_, this⟩
  show (madeCells _ ((n : Int).toNat * 1)).size = _
  rw [Int.toNat_natCast]
  simp [madeCells]

theorem row_of_owns {w : World} {B n : Nat} {v : Value} {f : Nat → Int} (hn : 0 < n) (h : w.ownsRow B 2 1 v n (pixL f n)) : ∃ b cap, v = .slice (some ⟨b, 0, none⟩) n cap ∧ B ≤ b ∧ b < w.heap.size ∧ Row b n f w := by
  have h' := h
  obtain ⟨hlen, hv | ⟨b, cap, cur, hv, hg, hcur, _, hm, _, _⟩⟩ := h'
  · omega
  · subst hv
    refine ⟨b, cap, rfl, hg, ?_, fun k hk => ⟨?_, h.frozenAt k⟩⟩
    · rcases Nat.lt_or_ge b w.heap.size with h | h
      · exact h
      · rw [Array.getElem?_eq_none (by omega)] at hcur; cases hcur
    · rw [h.cellAt k (by omega)]; exact pixL_at f n k hk

/-- the pixel of a row and a column -/
theorem pict_at (g : Nat → Int) (m n y x : Nat) (hx : x < m) : pict g (m : Int) n (y * m + x) = dens g (x : Int) (y : Int) n := by
  unfold pict
  have e1 : ((y * m + x : Nat) : Int) % (m : Int) = (x : Int) := by
    show (((y * m + x) % m : Nat) : Int) = x
    rw [Nat.mul_comm, Nat.mul_add_mod, Nat.mod_eq_of_lt hx]
  have e2 : ((y * m + x : Nat) : Int) / (m : Int) = (y : Int) := by
    show (((y * m + x) / m : Nat) : Int) = y
    rw [Nat.mul_comm, Nat.mul_add_div (by omega), Nat.div_eq_of_lt hx, Nat.add_zero]
  rw [e1, e2]

theorem xy_in {x : Nat} (h : x ≤ 64) : inB (x : Int) (-100000) 100000 = true := by
  unfold inB
  simp only [Bool.and_eq_true, decide_eq_true_eq]
  omega

set_option maxHeartbeats 8000000 in
theorem implPaint_no (a : Option Addr) (len cap : Nat) (g : Nat → Int) (hl : len ≤ 1048576) (W H : Int) (N : Nat) (s : Nat → Int) (hr : paintB g len W H = false) (w : World) (h : Px a (len * 7) g w) :
    Calls Try.prog 14 #[.slice a len cap, .int .i64 W, .int .i64 H] w (Added (paintB g len W H) W H N s w) := by
  have cW := isSide_any W
  have cH := isSide_any H
  have HB0 : Hid (Below w.heap.size w (w.alloc (.cells #[.int .i64 0, .int .i64 0, .slice none 0 0] 29))) := bnew _ _
  have cP := placeShapes_any a len cap g hl _ (h.below HB0.out)
  have HI0 : Hid (Im w.heap.size 0 0 (.slice none 0 0) (w.alloc (.cells #[.int .i64 0, .int .i64 0, .slice none 0 0] 29))) := Im.new _ _ _ _ _
  have HF0 : Hid (Free w.heap.size (w.alloc (.cells #[.int .i64 0, .int .i64 0, .slice none 0 0] 29))) := by
    refine ⟨?_, ?_, ?_⟩ <;> simp [go_sem]
  have HR := fun w' => paint_none (w := w) (w' := w') hr s N
  have hlt : w.heap.size < (w.alloc (.cells #[.int .i64 0, .int .i64 0, .slice none 0 0] 29)).heap.size := by simp
  clear h
  cases hO : okS g len
  · clear hr
    go_enter Try.func14, Try.ntmps14
    go_wp2_with fail
    refine cP.mono ?_
    rintro e w2 ⟨hp, hb⟩
    unfold PlacedE at hp
    rw [hO] at hp
    obtain ⟨v, rfl⟩ := hp
    obtain ⟨i0, i1, i2⟩ := HI0.out.below hb
    have f0 := (hb.frozen (p := ⟨w.heap.size, 0, none⟩) hlt).trans HF0.out.1
    have f1 := (hb.frozen (p := ⟨w.heap.size, 1, none⟩) hlt).trans HF0.out.2.1
    have f2 := (hb.frozen (p := ⟨w.heap.size, 2, none⟩) hlt).trans HF0.out.2.2
    have hs := Nat.lt_of_lt_of_le hlt hb.size
    have HB2 : Hid (Below w.heap.size w w2) := bnext HB0.out (Nat.le_refl _) hb
    clear hb HI0 HF0 HB0 cP cW cH hlt hO
    go_wp2_with fail
    refine bodyPost_ret (v := im 0 0 none 0 0) (by simp [results, Try.results14, go_sem, i0, i1, i2]) rfl (HR _ ?_ ?_)
    · exact ((HB2.out.setCell (by simp) _).setCell (by simp) _).setCell (by simp) _
    · simp; omega
  cases hW : inB W 1 64
  · rw [hW] at cW
    clear hr hW
    go_enter Try.func14, Try.ntmps14
    go_wp2_with fail
    refine cP.mono ?_
    rintro e w2 ⟨hp, hb⟩
    unfold PlacedE at hp
    rw [hO] at hp
    obtain ⟨v, rfl, _⟩ := hp
    obtain ⟨i0, i1, i2⟩ := HI0.out.below hb
    have f0 := (hb.frozen (p := ⟨w.heap.size, 0, none⟩) hlt).trans HF0.out.1
    have f1 := (hb.frozen (p := ⟨w.heap.size, 1, none⟩) hlt).trans HF0.out.2.1
    have f2 := (hb.frozen (p := ⟨w.heap.size, 2, none⟩) hlt).trans HF0.out.2.2
    have hs := Nat.lt_of_lt_of_le hlt hb.size
    have HB2 : Hid (Below w.heap.size w w2) := bnext HB0.out (Nat.le_refl _) hb
    clear hb HI0 HF0 HB0 cP cH hlt hO
    go_wp2_with fail
    refine (cW _).mono ?_
    rintro e w3 ⟨rfl, rfl⟩
    go_wp2_with fail
    refine bodyPost_ret (v := im 0 0 none 0 0) (by simp [results, Try.results14, go_sem, i0, i1, i2]) rfl (HR _ ?_ ?_)
    · exact ((HB2.out.setCell (by simp) _).setCell (by simp) _).setCell (by simp) _
    · simp; omega
  have hH : inB H 1 64 = false := by unfold paintB at hr; rw [hW, hO] at hr; simpa using hr
  rw [hW] at cW
  rw [hH] at cH
  clear hr hW hH
  go_enter Try.func14, Try.ntmps14
  go_wp2_with fail
  refine cP.mono ?_
  rintro e w2 ⟨hp, hb⟩
  unfold PlacedE at hp
  rw [hO] at hp
  obtain ⟨v, rfl, _⟩ := hp
  obtain ⟨i0, i1, i2⟩ := HI0.out.below hb
  have f0 := (hb.frozen (p := ⟨w.heap.size, 0, none⟩) hlt).trans HF0.out.1
  have f1 := (hb.frozen (p := ⟨w.heap.size, 1, none⟩) hlt).trans HF0.out.2.1
  have f2 := (hb.frozen (p := ⟨w.heap.size, 2, none⟩) hlt).trans HF0.out.2.2
  have hs := Nat.lt_of_lt_of_le hlt hb.size
  have HB2 : Hid (Below w.heap.size w w2) := bnext HB0.out (Nat.le_refl _) hb
  clear hb HI0 HF0 HB0 cP hlt hO
  go_wp2_with fail
  refine (cW _).mono ?_
  rintro e w3 ⟨rfl, rfl⟩
  go_wp2_with fail
  refine (cH _).mono ?_
  rintro e w3 ⟨rfl, rfl⟩
  go_wp2_with fail
  refine bodyPost_ret (v := im 0 0 none 0 0) (by simp [results, Try.results14, go_sem, i0, i1, i2]) rfl (HR _ ?_ ?_)
  · exact ((HB2.out.setCell (by simp) _).setCell (by simp) _).setCell (by simp) _
  · simp; omega

end Go.Proofs.Ytadeajdjjcelhaa

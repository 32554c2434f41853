/- Painting: the program, where it can be painted. -/
import Derived.Test.YtedjnemijeaeoaaPntS
import Derived.Deep.DeepAppendRoom
namespace Go.Proofs.Ytedjnemijeaeoaa
open Go.RowKit
set_option maxRecDepth 100000
set_option maxHeartbeats 2000000

set_option maxRecDepth 100000 in
theorem make_pix (n : Nat) (h : n ≤ 4096) (w : World) :
    ∃ cur : Array Value, cur.size = n * 1 ∧ (Instr.makeSlice 30 (.int .i64 0) (.int .i64 n)).run Try.prog w = .ok (.slice (some ⟨w.heap.size, 0, none⟩) 0 n) (w.alloc (.cells cur 2)) := by
  have := run_make (P := Try.prog) w 30 2 _ (.int .i64 0) Try.underlying30 rfl rfl .i64 .i64 0 n (by omega) (by omega) (by show (8 : Int) * _ ≤ _; omega) (by omega)
  refine ⟨_, ?_, this⟩
  show (madeCells _ ((n : Int).toNat * 1)).size = _
  rw [Int.toNat_natCast]
  simp [madeCells]

theorem row_of_owns {w : World} {B n : Nat} {v : Value} {f : Nat → Int} (hn : 0 < n) (h : w.ownsRow B 2 1 v n (pixL f n)) : ∃ b cap, v = .slice (some ⟨b, 0, none⟩) n cap ∧ B ≤ b ∧ b < w.heap.size ∧ Row b n f w := by
  have h' := h
  obtain ⟨hlen, hv | ⟨b, cap, cur, hv, hg, hcur, _, hm, _, _⟩⟩ := h'
  · omega
  · subst hv
    refine ⟨b, cap, rfl, hg, ?_, fun k hk => ⟨?_, h.frozenAt k⟩⟩
    · rcases Nat.lt_or_ge b w.heap.size with h | h
      · exact h
      · rw [Array.getElem?_eq_none (by omega)] at hcur; cases hcur
    · rw [h.cellAt k (by omega)]; exact pixL_at f n k hk

/-- the pixel of a row and a column -/
theorem pict_at (g : Nat → Int) (m n y x : Nat) (hx : x < m) : pict g (m : Int) n (y * m + x) = dens g (x : Int) (y : Int) n := by
  unfold pict
  have e1 : ((y * m + x : Nat) : Int) % (m : Int) = (x : Int) := by
    show (((y * m + x) % m : Nat) : Int) = x
    rw [Nat.mul_comm, Nat.mul_add_mod, Nat.mod_eq_of_lt hx]
  have e2 : ((y * m + x : Nat) : Int) / (m : Int) = (y : Int) := by
    show (((y * m + x) / m : Nat) : Int) = y
    rw [Nat.mul_comm, Nat.mul_add_div (by omega), Nat.div_eq_of_lt hx, Nat.add_zero]
  rw [e1, e2]

theorem xy_in {x : Nat} (h : x ≤ 64) : inB (x : Int) (-100000) 100000 = true := by
  unfold inB
  simp only [Bool.and_eq_true, decide_eq_true_eq]
  omega

set_option maxHeartbeats 8000000 in
theorem implPaint_no (a : Option Addr) (len cap : Nat) (g : Nat → Int) (hl : len ≤ 1048576) (W H : Int) (N : Nat) (s : Nat → Int) (hr : paintB g len W H = false) (w : World) (h : Px a (len * 7) g w) :
    Calls Try.prog 7 #[.slice a len cap, .int .i64 W, .int .i64 H] w (Added (paintB g len W H) W H N s w) := by
  have cW := isSide_any W
  have cH := isSide_any H
  have HB0 : Hid (Below w.heap.size w (w.alloc (.cells #[.int .i64 0, .int .i64 0, .slice none 0 0] 32))) := bnew _ _
  have cP := placeShapes_any a len cap g hl _ (h.below HB0.out)
  have HI0 : Hid (Im w.heap.size 0 0 (.slice none 0 0) (w.alloc (.cells #[.int .i64 0, .int .i64 0, .slice none 0 0] 32))) := Im.new _ _ _ _ _
  have HF0 : Hid (Free w.heap.size (w.alloc (.cells #[.int .i64 0, .int .i64 0, .slice none 0 0] 32))) := by
    refine ⟨?_, ?_, ?_⟩ <;> simp [go_sem]
  have HR := fun w' => paint_none (w := w) (w' := w') hr s N
  have hlt : w.heap.size < (w.alloc (.cells #[.int .i64 0, .int .i64 0, .slice none 0 0] 32)).heap.size := by simp
  clear h
  cases hO : okS g len
  · clear hr
    go_enter Try.func7, Try.ntmps7
    go_wp2_with fail
    refine cP.mono ?_
    rintro e w2 ⟨hp, hb⟩
    unfold PlacedE at hp
    rw [hO] at hp
    obtain ⟨v, rfl⟩ := hp
    obtain ⟨i0, i1, i2⟩ := HI0.out.below hb
    have f0 := (hb.frozen (p := ⟨w.heap.size, 0, none⟩) hlt).trans HF0.out.1
    have f1 := (hb.frozen (p := ⟨w.heap.size, 1, none⟩) hlt).trans HF0.out.2.1
    have f2 := (hb.frozen (p := ⟨w.heap.size, 2, none⟩) hlt).trans HF0.out.2.2
    have hs := Nat.lt_of_lt_of_le hlt hb.size
    have HB2 : Hid (Below w.heap.size w w2) := bnext HB0.out (Nat.le_refl _) hb
    clear hb HI0 HF0 HB0 cP cW cH hlt hO
    go_wp2_with fail
    refine bodyPost_ret (v := im 0 0 none 0 0) (by simp [results, Try.results7, go_sem, i0, i1, i2]) rfl (HR _ ?_ ?_)
    · exact ((HB2.out.setCell (by simp) _).setCell (by simp) _).setCell (by simp) _
    · simp; omega
  cases hW : inB W 1 64
  · rw [hW] at cW
    clear hr hW
    go_enter Try.func7, Try.ntmps7
    go_wp2_with fail
    refine cP.mono ?_
    rintro e w2 ⟨hp, hb⟩
    unfold PlacedE at hp
    rw [hO] at hp
    obtain ⟨v, rfl, _⟩ := hp
    obtain ⟨i0, i1, i2⟩ := HI0.out.below hb
    have f0 := (hb.frozen (p := ⟨w.heap.size, 0, none⟩) hlt).trans HF0.out.1
    have f1 := (hb.frozen (p := ⟨w.heap.size, 1, none⟩) hlt).trans HF0.out.2.1
    have f2 := (hb.frozen (p := ⟨w.heap.size, 2, none⟩) hlt).trans HF0.out.2.2
    have hs := Nat.lt_of_lt_of_le hlt hb.size
    have HB2 : Hid (Below w.heap.size w w2) := bnext HB0.out (Nat.le_refl _) hb
    clear hb HI0 HF0 HB0 cP cH hlt hO
    go_wp2_with fail
    refine (cW _).mono ?_
    rintro e w3 ⟨rfl, rfl⟩
    go_wp2_with fail
    refine bodyPost_ret (v := im 0 0 none 0 0) (by simp [results, Try.results7, go_sem, i0, i1, i2]) rfl (HR _ ?_ ?_)
    · exact ((HB2.out.setCell (by simp) _).setCell (by simp) _).setCell (by simp) _
    · simp; omega
  have hH : inB H 1 64 = false := by unfold paintB at hr; rw [hW, hO] at hr; simpa using hr
  rw [hW] at cW
  rw [hH] at cH
  clear hr hW hH
  go_enter Try.func7, Try.ntmps7
  go_wp2_with fail
  refine cP.mono ?_
  rintro e w2 ⟨hp, hb⟩
  unfold PlacedE at hp
  rw [hO] at hp
  obtain ⟨v, rfl, _⟩ := hp
  obtain ⟨i0, i1, i2⟩ := HI0.out.below hb
  have f0 := (hb.frozen (p := ⟨w.heap.size, 0, none⟩) hlt).trans HF0.out.1
  have f1 := (hb.frozen (p := ⟨w.heap.size, 1, none⟩) hlt).trans HF0.out.2.1
  have f2 := (hb.frozen (p := ⟨w.heap.size, 2, none⟩) hlt).trans HF0.out.2.2
  have hs := Nat.lt_of_lt_of_le hlt hb.size
  have HB2 : Hid (Below w.heap.size w w2) := bnext HB0.out (Nat.le_refl _) hb
  clear hb HI0 HF0 HB0 cP hlt hO
  go_wp2_with fail
  refine (cW _).mono ?_
  rintro e w3 ⟨rfl, rfl⟩
  go_wp2_with fail
  refine (cH _).mono ?_
  rintro e w3 ⟨rfl, rfl⟩
  go_wp2_with fail
  refine bodyPost_ret (v := im 0 0 none 0 0) (by simp [results, Try.results7, go_sem, i0, i1, i2]) rfl (HR _ ?_ ?_)
  · exact ((HB2.out.setCell (by simp) _).setCell (by simp) _).setCell (by simp) _
  · simp; omega

end Go.Proofs.Ytedjnemijeaeoaa

namespace Go.Proofs.Ytedjnemijeaeoaa
open Go.RowKit
set_option maxRecDepth 100000
set_option maxHeartbeats 2000000

theorem cell_one_new' (w : World) (a : Value) (t : TypeId) : ∀ j u, [a][j]? = some u → (w.alloc (.cells #[a] t)).cell? ((⟨w.heap.size, 0, none⟩ : Addr).add j) = some u := by
  intro j u hj
  match j, hj with
  | 0, hj => simp at hj; subst hj; simp [Addr.add]
  | j + 1, hj => simp at hj

theorem im_free_start (w : World) : Im w.heap.size 0 0 (.slice none 0 0) (w.alloc (.cells #[.int .i64 0, .int .i64 0, .slice none 0 0] 32)) ∧ Free w.heap.size (w.alloc (.cells #[.int .i64 0, .int .i64 0, .slice none 0 0] 32)) := by
  refine ⟨Im.new _ _ _ _ _, ?_, ?_, ?_⟩ <;> simp [go_sem]

/-- the answer's box, waiting -/
def BxW (b : Nat) (w : World) : Prop := Im b 0 0 (.slice none 0 0) w ∧ Free b w
theorem BxW.below {b : Nat} {w w' : World} {B : Nat} (h : BxW b w) (hb : Below B w w') (hl : b < B) : BxW b w' :=
  ⟨⟨(hb.cell (p := ⟨b, 0, none⟩) hl).trans h.1.1, (hb.cell (p := ⟨b, 1, none⟩) hl).trans h.1.2.1, (hb.cell (p := ⟨b, 2, none⟩) hl).trans h.1.2.2⟩,
   ⟨(hb.frozen (p := ⟨b, 0, none⟩) hl).trans h.2.1, (hb.frozen (p := ⟨b, 1, none⟩) hl).trans h.2.2.1, (hb.frozen (p := ⟨b, 2, none⟩) hl).trans h.2.2.2⟩⟩

theorem Pl.belowB {a : Option Addr} {n B : Nat} {g : Nat → Int} {w w' : World} (h : Pl a n g w) (hb : Below B w w') (hB : w.heap.size ≤ B) : Pl a n g w' := h.below (hb.mono hB)

set_option maxHeartbeats 8000000 in
theorem implPaint_yes (a : Option Addr) (len cap : Nat) (g : Nat → Int) (m M : Nat) (m1 : 1 ≤ m) (m2 : m ≤ 64) (M1 : 1 ≤ M) (M2 : M ≤ 64) (hO : okS g len = true) (hWB : inB (m : Int) 1 64 = true) (hHB : inB (M : Int) 1 64 = true) (w : World) (h : Px a (len * 7) g w) :
    Calls Try.prog 7 #[.slice a len cap, .int .i64 m, .int .i64 M] w fun e w' => ∃ b, e = .returned (im m M (some ⟨b, 0, none⟩) (m * M) (m * M)) ∧ Row b (m * M) (pict g m len) w' ∧ w.heap.size ≤ b ∧ b < w'.heap.size ∧ Below w.heap.size w w' := by
  have h64 := okS_le hO
  have hmM : m * M ≤ 4096 := by
    have := Nat.mul_le_mul m2 M2
    omega
  have hpos : 0 < m * M := Nat.mul_pos (by omega) (by omega)
  have cW := isSide_any (m : Int)
  have cH := isSide_any (M : Int)
  rw [hWB] at cW
  rw [hHB] at cH
  have HB0 : Hid (Below w.heap.size w (w.alloc (.cells #[.int .i64 0, .int .i64 0, .slice none 0 0] 32))) := bnew _ _
  have HX0 : Hid (BxW w.heap.size (w.alloc (.cells #[.int .i64 0, .int .i64 0, .slice none 0 0] 32))) := im_free_start w
  have cP := placeShapes_any a len cap g (by omega) _ (h.below HB0.out)
  have hlt : w.heap.size < (w.alloc (.cells #[.int .i64 0, .int .i64 0, .slice none 0 0] 32)).heap.size := by simp
  have hn : (m : Int) * (M : Int) = ((m * M : Nat) : Int) := by simp
  have hwr : IntKind.i64.wrap ((m : Int) * (M : Int)) = ((m * M : Nat) : Int) := by rw [IntKind.wrap_i64, hn]; omega
  obtain ⟨ti, hi1, hi2, hi3, hi4⟩ := info2
  have HI1 : Hid (Try.prog.info? 2 = some ti) := hi1
  clear h hWB hHB hi1
  generalize hN : m * M = n at *
  go_enter Try.func7, Try.ntmps7
  go_wp2_with fail
  refine cP.mono ?_
  rintro e w2 ⟨hp, hb⟩
  unfold PlacedE at hp
  rw [hO] at hp
  obtain ⟨v, rfl, ho⟩ := hp
  obtain ⟨a', cap', rfl, hPl⟩ := pl_of ho
  have HPl : Hid (Pl a' len g w2) := hPl
  have HB2 : Hid (Below w.heap.size w w2) := bnext HB0.out (Nat.le_refl _) hb
  have HX2 : Hid (BxW w.heap.size w2) := HX0.out.below hb hlt
  have hs2 := Nat.lt_of_lt_of_le hlt hb.size
  clear hb ho hPl HB0 HX0 cP hlt
  go_wp2_with fail
  refine (cW _).mono ?_
  rintro e w3 ⟨rfl, rfl⟩
  go_wp2_with fail
  refine (cH _).mono ?_
  rintro e w4 ⟨rfl, rfl⟩
  clear cW cH
  obtain ⟨cur, hcur, hmk⟩ := make_pix n hmM w4
  have HO0 : Hid ((w4.alloc (.cells cur 2)).ownsRow w4.heap.size 2 1 (.slice (some ⟨w4.heap.size, 0, none⟩) 0 n) 0 []) := World.ownsRow_made w4 cur n (Nat.le_refl _) (by unfold maxLen; omega) hcur
  have HBM : Hid (Below w4.heap.size w4 (w4.alloc (.cells cur 2))) := bnew _ _
  clear hcur
  go_wp2_with fail
  go_loopw [9, 35] (fun v i wr => ∃ y : Nat, y ≤ M ∧ i = .int .i64 y ∧ v = .slice (some ⟨w4.heap.size, 0, none⟩) (y * m) n ∧ wr.ownsRow w4.heap.size 2 1 v (y * m) (pixL (pict g m len) (y * m)) ∧ Below w4.heap.size w4 wr) (fun _ i _ => M - (intOf i).toNat)
  case atStart => exact ⟨0, by omega, rfl, by simp, by rw [Nat.zero_mul]; exact HO0.out, HBM.out⟩
  case round =>
    obtain ⟨y, hy, rfl, rfl, hown, hbr⟩ := hrel
    clear HO0 HBM hmk
    by_cases hlt : y < M
    · have HO : Hid (wr.ownsRow w4.heap.size 2 1 _ (y * m) (pixL (pict g m len) (y * m))) := hown
      have HBr : Hid (Below w4.heap.size w4 wr) := hbr
      clear hown hbr
      go_wp2_with fail
      go_loopw [9, 39] (fun v j wr => ∃ x : Nat, x ≤ m ∧ j = .int .i64 x ∧ v = .slice (some ⟨w4.heap.size, 0, none⟩) (y * m + x) n ∧ wr.ownsRow w4.heap.size 2 1 v (y * m + x) (pixL (pict g m len) (y * m + x)) ∧ Below w4.heap.size w4 wr) (fun _ j _ => m - (intOf j).toNat)
      case atStart => exact ⟨0, by omega, rfl, rfl, HO.out, HBr.out⟩
      case round =>
        obtain ⟨x, hx, rfl, rfl, hown, hbr⟩ := hrel
        clear HO HBr
        by_cases hxm : x < m
        · have hq : y * m + x < n := by
            have := Nat.mul_le_mul_right m (show y + 1 ≤ M by omega)
            rw [Nat.succ_mul] at this
            rw [← hN, Nat.mul_comm m M]
            omega
          have cD := densityAt_any a' len cap' g hO x y (xy_in (by omega)) (xy_in (by omega)) wr (HPl.out.below hbr)
          have hpx := pict_at g m len y x hxm
          have HO : Hid (wr.ownsRow w4.heap.size 2 1 _ (y * m + x) (pixL (pict g m len) (y * m + x))) := hown
          have HBr : Hid (Below w4.heap.size w4 wr) := hbr
          have hsr := hbr.size
          clear hown hbr
          go_wp2_with fail
          refine cD.mono ?_
          rintro e w5 ⟨rfl, hb5⟩
          have HO5 : Hid ((w5.alloc (.cells #[.int .i64 (dens g x y len)] 2)).ownsRow w4.heap.size 2 1 (.slice (some ⟨w4.heap.size, 0, none⟩) (y * m + x) n) (y * m + x) (pixL (pict g m len) (y * m + x))) := (ownsRow_below' HO.out hb5).alloc _
          have HB5 : Hid (Below w4.heap.size w4 (w5.alloc (.cells #[.int .i64 (dens g x y len)] 2))) := bnext (bnext HBr.out (Nat.le_refl _) hb5) (Nat.le_refl _) (bnew _ _)
          have hs5 := hb5.size
          have hpl : pixL (pict g m len) (y * m + x + 1) = pixL (pict g m len) (y * m + x) ++ [.int .i64 (dens g x y len)] := by rw [← hpx]; rfl
          clear cD hb5 HO HBr hpx
          generalize dens g x y len = D at *
          have N1 : Hid (∀ (j : Nat) (u : Value), [Value.int .i64 D][j]? = some u → (w5.alloc (.cells #[.int .i64 D] 2)).cell? ((⟨w5.heap.size, 0, none⟩ : Addr).add j) = some u) := cell_one_new' _ _ _
          have N2 : Hid (∀ (u : Value), u ∈ [Value.int .i64 D] → u.oneCell' = true) := by
            intro u hu
            simp at hu
            rw [hu]; rfl
          have N5 : Hid (w4.heap.size ≤ (w5.alloc (.cells #[.int .i64 D] 2)).heap.size) := by show _ ≤ _; simp; omega
          go_wp2_with (refine wpList_append_own_spare _ rfl _ _ 30 rfl w4.heap.size 2 ti 1 Try.underlying30 HI1.out hi3 w4.heap.size (y * m + x) n (pixL (pict g m len) (y * m + x)) rfl HO5.out ⟨w5.heap.size, 0, none⟩ 1 1 [.int .i64 D] rfl rfl N1.out N2.out (by omega) ?_)
          intro w' ho3 hg3
          have HB3 : Hid (Below w4.heap.size w4 w') := HB5.out.trans ((Below.refl _ _).grown hg3 N5.out (fun q hq => by cases hq; exact Nat.le_refl _))
          have HO3 : Hid (w'.ownsRow w4.heap.size 2 1 (.slice (some ⟨w4.heap.size, 0, none⟩) (y * m + x + 1) n) (y * m + x + 1) (pixL (pict g m len) (y * m + x + 1))) := by rw [hpl]; exact ho3
          clear N1 N2 N5 HO5 HB5 hg3 ho3
          go_wp2_with fail
          exact ⟨⟨x + 1, by omega, rfl, rfl, HO3.out, HB3.out⟩, by simp [intOf]; omega⟩
        · obtain rfl : x = m := by omega
          have HO : Hid (wr.ownsRow w4.heap.size 2 1 _ (y * x + x) (pixL (pict g x len) (y * x + x))) := hown
          have HBr : Hid (Below w4.heap.size w4 wr) := hbr
          clear hown hbr
          go_wp2_with fail
          exact ⟨⟨y + 1, by omega, rfl, by rw [Nat.succ_mul], by rw [Nat.succ_mul]; exact HO.out, HBr.out⟩, by simp [intOf]; omega⟩
    · obtain rfl : y = M := by omega
      have hM : y * m = n := by rw [← hN]; exact Nat.mul_comm _ _
      rw [hM] at hown
      obtain ⟨b, c, hv, hB, hl2, hrow⟩ := row_of_owns hpos hown
      cases hv
      have HR : Hid (Row w4.heap.size n (pict g m len) wr) := hrow
      have HBr : Hid (Below w.heap.size w wr) := bnext HB2.out (Nat.le_refl _) hbr
      obtain ⟨⟨i0, i1, i2⟩, f0, f1, f2⟩ := HX2.out.below hbr hs2
      have hsz := hbr.size
      clear hrow hbr HB2 HX2 HPl hown hB
      rw [hM]
      go_wp2_with fail
      refine bodyPost_ret (v := im m y (some ⟨w4.heap.size, 0, none⟩) n n) (by simp [results, Try.results7, go_sem, i0, i1, i2]) rfl ⟨_, rfl, ?_, by omega, by simp; omega, ?_⟩
      · exact ((HR.out.set (by simp; omega) _).set (by simp; omega) _).set (by simp; omega) _
      · exact ((HBr.out.setCell (by simp) _).setCell (by simp) _).setCell (by simp) _

/-- what the program's Paint answers -/
theorem implPaint_any (a : Option Addr) (len cap : Nat) (g : Nat → Int) (hl : len ≤ 1048576) (W H : Int) (w : World) (h : Px a (len * 7) g w) :
    Calls Try.prog 7 #[.slice a len cap, .int .i64 W, .int .i64 H] w (Added (paintB g len W H) W H (W * H).toNat (pict g W len) w) := by
  cases hr : paintB g len W H
  · have := implPaint_no a len cap g hl W H (W * H).toNat (pict g W len) hr w h
    rw [hr] at this
    exact this
  · have hr' := hr
    unfold paintB at hr'
    simp only [Bool.and_eq_true] at hr'
    obtain ⟨hW, hH, hO⟩ := hr'
    obtain ⟨m, rfl, m1, m2⟩ := side_nat hW
    obtain ⟨M, rfl, M1, M2⟩ := side_nat hH
    have en : ((m : Int) * (M : Int)).toNat = m * M := by
      rw [← Int.natCast_mul]; exact Int.toNat_natCast _
    rw [en]
    refine (implPaint_yes a len cap g m M m1 m2 M1 M2 hO hW hH w h).mono ?_
    rintro e w' ⟨b, rfl, hrow, h1, h2, hb⟩
    exact ⟨some ⟨b, 0, none⟩, b, rfl, .inr ⟨rfl, hrow⟩, h1, h2, hb⟩

end Go.Proofs.Ytedjnemijeaeoaa

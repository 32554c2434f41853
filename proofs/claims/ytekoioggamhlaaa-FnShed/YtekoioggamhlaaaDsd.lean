/- An image is spoilt: some image comes out. -/
import Derived.Test.YtekoioggamhlaaaHom
import Derived.Deep.RegionHeld3
import Derived.Deep.AppendLies
import Derived.Test.YtekoioggamhlaaaDim
import Derived.Deep.CutBlock
namespace Go.Proofs.Ytekoioggamhlaaa
open Go.RowKit

theorem src_ints {p : Addr} {n : Nat} {f : Nat → Int} {w : World} (h : Px (some p) n f w) : ∀ (j : Nat) (u : Value), (ints ((List.range n).map f))[j]? = some u → w.cell? (p.add j) = some u := by
  intro j u hu
  have hj : j < n := by
    have := (List.getElem?_eq_some_iff.1 hu).1
    rw [ints_length] at this
    simpa using this
  obtain ⟨b, off, e, hc⟩ := h.at hj
  cases e
  have e2 : (⟨b, off, none⟩ : Addr).add j = ⟨b, off + j, none⟩ := by by_cases h0 : j = 0 <;> simp [Addr.add, h0]
  rw [e2, hc]
  unfold ints at hu
  rw [List.getElem?_map, List.getElem?_map, List.getElem?_range hj] at hu
  exact hu
theorem rng_at {n : Nat} {f : Nat → Int} {k : Nat} (hk : k < n) : ((List.range n).map f).getD k 0 = f k := by
  rw [List.getD_eq_getElem?_getD, List.getElem?_map, List.getElem?_range hk]
  rfl

theorem below_set3' {B : Nat} {w w1 : World} (h : Below B w w1) {b : Nat} {u v x : Value} (hb : B ≤ b) : Below B w (((w1.setCell ⟨b, 0, none⟩ u).setCell ⟨b, 1, none⟩ v).setCell ⟨b, 2, none⟩ x) :=
  Below.setCell (p := ⟨b, 2, none⟩) (Below.setCell (p := ⟨b, 1, none⟩) (Below.setCell (p := ⟨b, 0, none⟩) h hb u) hb v) hb x

set_option maxRecDepth 100000 in
set_option maxHeartbeats 1000000 in
theorem copyImage_any (W H : Int) (a : Option Addr) (n cap : Nat) (f : Nat → Int) (hl : n ≤ 1048576) (h0 : 0 < n) (w : World) (h : Px a n f w) :
    Calls Try.prog 9 #[im W H a n cap] w fun e w' => ∃ b c, e = .returned (im W H (some ⟨b, 0, none⟩) n c) ∧ Row b n f w' ∧ w.heap.size ≤ b ∧ Below w.heap.size w w' := by
  obtain ⟨bs, off, rfl, -⟩ := h.at h0
  obtain ⟨ti, hi1, hi2, hi3, hi4⟩ := info2
  have HI1 := hide hi1
  have HB0 := hide (bnext (bnew w (.cells #[.int .i64 W, .int .i64 H, .slice (some ⟨bs, off, none⟩) n cap] 26)) (Nat.le_refl _) (bnew _ (.cells #[.int .i64 0, .int .i64 0, .slice none 0 0] 26)))
  have HP := hide h
  have N2 : Hid ((ints ((List.range n).map f)).length = n * 1) := by
    show _ = _
    rw [ints_length]; simp
  have N3 : Hid (0 + n ≤ maxLen) := by
    show _ ≤ _
    unfold maxLen; omega
  have N4 : Hid ((0 + n) * 8 ≤ 140737488355328) := by show _ ≤ _; omega
  have hE := (World.ownsRow_lit (e := 2) (size := 1) ((w.alloc (.cells #[.int .i64 W, .int .i64 H, .slice (some ⟨bs, off, none⟩) n cap] 26)).alloc (.cells #[.int .i64 0, .int .i64 0, .slice none 0 0] 26)) #[] 0 (base := w.heap.size + 2) (by simp) (by unfold maxLen; omega) rfl).drew
  have hz : ((w.alloc (.cells #[.int .i64 W, .int .i64 H, .slice (some ⟨bs, off, none⟩) n cap] 26)).alloc (.cells #[.int .i64 0, .int .i64 0, .slice none 0 0] 26)).heap.size = w.heap.size + 2 := by simp
  rw [hz] at hE
  have HE := hide hE
  clear hE hz
  have hb3 := bnext HB0.out (Nat.le_refl _) (bnew _ (.cells #[] 2))
  have HBE := hide hb3.drew
  have HN := hide (src_ints (h.below hb3.drew))
  have n0 : some w.heap.size ≠ Value.ownBlock (.slice (some ⟨w.heap.size + 2, 0, none⟩) 0 0) := by simp [Value.ownBlock]
  have n1 : some (w.heap.size + 1) ≠ Value.ownBlock (.slice (some ⟨w.heap.size + 2, 0, none⟩) 0 0) := by simp [Value.ownBlock]
  clear hi1 h hb3
  go_enter Try.func9, Try.ntmps9
  go_upto_region 1 with fail
  go_region_held3 (fun w' => w'.cell? ⟨w.heap.size, 0, none⟩ = some (.int .i64 W) ∧ w'.cell? ⟨w.heap.size, 1, none⟩ = some (.int .i64 H) ∧ w'.cell? ⟨w.heap.size, 2, none⟩ = some (.slice (some ⟨bs, off, none⟩) n cap))
    (first
      | with_reducible exact SK.out
      | (simp [go_sem]; done)
      | go_keep)
    (first
      | (refine step_append_lies _ (by rfl) _ _ _ (by rfl) (w.heap.size + 2) 2 ti _ 1 8 Try.underlying24 HI1.out hi2 hi3 hi4 rfl (by omega) (.slice (some ⟨w.heap.size + 2, 0, none⟩) 0 0) 0 [] (by rfl) HE.out ⟨bs, off, none⟩ n cap (ints ((List.range n).map f)) (by rfl) N2.out HN.out (ints_one _) h0 N3.out N4.out (by simp) (w.heap.size + 3) (by simp) ?_; intro gg cap1 w1 hown1 hgrow hat hlt1; have SK := hide (And.intro ((hgrow.cell_far ⟨w.heap.size, 0, none⟩ (by simp; try omega) n0).trans (by simp [go_sem])) (And.intro ((hgrow.cell_far ⟨w.heap.size, 1, none⟩ (by simp; try omega) n0).trans (by simp [go_sem])) ((hgrow.cell_far ⟨w.heap.size, 2, none⟩ (by simp; try omega) n0).trans (by simp [go_sem]))) : w1.cell? ⟨w.heap.size, 0, none⟩ = some (.int .i64 W) ∧ w1.cell? ⟨w.heap.size, 1, none⟩ = some (.int .i64 H) ∧ w1.cell? ⟨w.heap.size, 2, none⟩ = some (.slice (some ⟨bs, off, none⟩) n cap)); have z0 : w1.cell? ⟨w.heap.size + 1, 0, none⟩ = some (.int .i64 0) := (hgrow.cell_far ⟨w.heap.size + 1, 0, none⟩ (by simp; try omega) n1).trans (by simp [go_sem]); have z1 : w1.cell? ⟨w.heap.size + 1, 1, none⟩ = some (.int .i64 0) := (hgrow.cell_far ⟨w.heap.size + 1, 1, none⟩ (by simp; try omega) n1).trans (by simp [go_sem]); have z2 : w1.cell? ⟨w.heap.size + 1, 2, none⟩ = some (.slice none 0 0) := (hgrow.cell_far ⟨w.heap.size + 1, 2, none⟩ (by simp; try omega) n1).trans (by simp [go_sem]); have y0 : w1.frozen? ⟨w.heap.size + 1, 0, none⟩ = false := (hgrow.frozen_far ⟨w.heap.size + 1, 0, none⟩ (by simp; try omega) n1).trans (by simp [go_sem]); have y1 : w1.frozen? ⟨w.heap.size + 1, 1, none⟩ = false := (hgrow.frozen_far ⟨w.heap.size + 1, 1, none⟩ (by simp; try omega) n1).trans (by simp [go_sem]); have y2 : w1.frozen? ⟨w.heap.size + 1, 2, none⟩ = false := (hgrow.frozen_far ⟨w.heap.size + 1, 2, none⟩ (by simp; try omega) n1).trans (by simp [go_sem])))
  all_goals
    have HO1 : Hid (w1.ownsRow (w.heap.size + 2) 2 1 (.slice (some ⟨gg, 0, none⟩) n cap1) n (ints ((List.range n).map f))) := by
      have := hown1
      rw [Nat.zero_add, List.nil_append] at this
      exact this
    have HB1 : Hid (Below w.heap.size w w1) := HBE.out.trans ((Below.refl _ _).grown hgrow (by simp; try omega) (fun q hq => by
      have e : q = w.heap.size + 2 := by simpa [Value.ownBlock] using hq.symm
      omega))
    clear hown1 hgrow hat hlt1 SK HE HN HBE HB0 HP
    go_wp2_with fail
    refine bodyPost_ret (v := im W H (some ⟨gg, 0, none⟩) n cap1) (by simp [results, Try.results9, go_sem, z0, z1, z2]) rfl ?_
    obtain ⟨a', cap', b', e, ow, hB, -⟩ := ow_of_some HO1.out h0
    cases e
    rw [Nat.mul_one] at ow
    rcases ow with ow | ⟨e2, ow⟩
    · omega
    · cases e2
      refine ⟨gg, cap1, rfl, ?_, by omega, below_set3' HB1.out (by omega)⟩
      have hne : w.heap.size + 1 ≠ gg := by omega
      exact (((ow.set hne _).set hne _).set hne _).congr (fun q hq => rng_at hq)

end Go.Proofs.Ytekoioggamhlaaa

namespace Go.Proofs.Ytekoioggamhlaaa
open Go.RowKit

set_option maxRecDepth 100000 in
set_option maxHeartbeats 2000000 in
theorem belowW_any (p : Nat) (a : Option Addr) (len cap : Nat) (w : World) (h : Cur p a len cap w) (n : Int) (h1 : 1 ≤ n) (h2 : n ≤ 1000000) :
    Calls Try.prog 17 #[.pointer (some ⟨p, 0, none⟩), .int .i64 n] w (Drawn p a len cap w 0 (n - 1)) := by
  by_cases h3 : n ≤ 256
  · exact below_any p a len cap w h n h1 h3
  have hn0 : (n == 0) = false := by simp; omega
  have hn1 : ¬ n = 0 := by omega
  have hd := byte_any p a len cap w h
  clear h
  go_enter Try.func17, Try.ntmps17
  go_wp2_with fail
  refine hd.mono ?_
  rintro e w1 ⟨x1, rfl, l1, u1, hc, hk⟩
  have HK1 := hide hk
  clear hd hk
  have hd := byte_any p a len cap w1 hc
  clear hc
  go_wp2_with fail
  refine hd.mono ?_
  rintro e w2 ⟨x2, rfl, l2, u2, hc, hk⟩
  have HK2 := hide (HK1.out.trans hk)
  clear hd hk HK1
  have hd := byte_any p a len cap w2 hc
  clear hc
  go_wp2_with fail
  refine hd.mono ?_
  rintro e w3 ⟨x3, rfl, l3, u3, hc, hk⟩
  have HK3 := hide (HK2.out.trans hk)
  clear hd hk HK2
  have hd := byte_any p a len cap w3 hc
  clear hc
  go_wp2_with fail
  refine hd.mono ?_
  rintro e w4 ⟨x4, rfl, l4, u4, hc, hk⟩
  have HK4 := hide (HK3.out.trans hk)
  have HC := hide hc
  clear hd hk HK3 hc
  have a1 : IntKind.i64.wrap (x1 * 16777216) = x1 * 16777216 := by rw [IntKind.wrap_i64]; omega
  have a2 : IntKind.i64.wrap (x2 * 65536) = x2 * 65536 := by rw [IntKind.wrap_i64]; omega
  have a3 : IntKind.i64.wrap (x3 * 256) = x3 * 256 := by rw [IntKind.wrap_i64]; omega
  have a4 : IntKind.i64.wrap (x1 * 16777216 + x2 * 65536) = x1 * 16777216 + x2 * 65536 := by rw [IntKind.wrap_i64]; omega
  have a5 : IntKind.i64.wrap (x1 * 16777216 + x2 * 65536 + x3 * 256) = x1 * 16777216 + x2 * 65536 + x3 * 256 := by rw [IntKind.wrap_i64]; omega
  obtain ⟨T, hT⟩ : ∃ T, T = x1 * 16777216 + x2 * 65536 + x3 * 256 + x4 := ⟨_, rfl⟩
  have a6 : IntKind.i64.wrap (x1 * 16777216 + x2 * 65536 + x3 * 256 + x4) = T := by rw [IntKind.wrap_i64, ← hT]; omega
  have hT0 : 0 ≤ T := by omega
  have HR0 : Hid (0 ≤ T % n ∧ T % n ≤ n - 1) := by
    have := Int.emod_nonneg T hn1
    have := Int.emod_lt_of_pos T (show 0 < n by omega)
    exact ⟨by omega, by omega⟩
  clear hT l1 u1 l2 u2 l3 u3 l4 u4
  go_wp2_with fail
  go_ret
  exact ⟨T % n, rfl, HR0.out.1, HR0.out.2, HC.out, HK4.out⟩

end Go.Proofs.Ytekoioggamhlaaa

namespace Go.Proofs.Ytekoioggamhlaaa
open Go.RowKit

/-- the table of odd numbers -/
abbrev otab : Array Value := #[.int .i64 (-1), .int .i64 0, .int .i64 1, .int .i64 2147483648, .int .i64 (-2147483648), .int .i64 1099511627776, .int .i64 4611686018427387904, .int .i64 (-4611686018427387904), .int .i64 9223372036854775807, .int .i64 (-9223372036854775808)]

theorem otab_at (k : Nat) (h : k < 10) : ∃ n : Int, otab[k]? = some (.int .i64 n) := by
  have : k = 0 ∨ k = 1 ∨ k = 2 ∨ k = 3 ∨ k = 4 ∨ k = 5 ∨ k = 6 ∨ k = 7 ∨ k = 8 ∨ k = 9 := by omega
  rcases this with rfl | rfl | rfl | rfl | rfl | rfl | rfl | rfl | rfl | rfl <;> exact ⟨_, rfl⟩

theorem otab_cell (w : World) (k : Nat) : (w.alloc (.cells otab 2)).cell? ⟨w.heap.size, k, none⟩ = otab[k]? :=
  World.cell?_alloc_new w otab 2 k

theorem odd_any (p : Nat) (a : Option Addr) (len cap : Nat) (w : World) (h : Cur p a len cap w) :
    Calls Try.prog 35 #[.pointer (some ⟨p, 0, none⟩)] w (DrawnI p a len cap w) := by
  have hpw : p < w.heap.size := World.block_lt_of_cell? w _ h.head
  have hcT := h.below (bnew w (.cells otab 2))
  have hb5 := below_any p a len cap _ hcT 10 (by omega) (by omega)
  clear h hcT
  go_enter Try.func35, Try.ntmps35
  go_wp2_with fail
  refine hb5.mono ?_
  rintro e w3 ⟨y, rfl, y0', y1', hc3, hk3⟩
  obtain ⟨k, rfl⟩ : ∃ k : Nat, y = k := ⟨y.toNat, by omega⟩
  have hk20 : k < 10 := by omega
  obtain ⟨n, hn2⟩ := otab_at k hk20
  have hcell : w3.cell? ⟨w.heap.size, k, none⟩ = some (.int .i64 n) := hk3.cell (by show w.heap.size ≠ p; omega) (by rw [otab_cell w k, hn2])
  have hkt3 := (Kept.of_below (p := p) (bnew w (.cells otab 2))).trans hk3
  clear hb5 hk3 hn2 hpw y0' y1'
  go_wp2_with fail
  go_ret
  exact ⟨n, rfl, hc3, hkt3⟩


/-- some image is drawn, with at most so many pixels, in a block of its own -/
def DrawnY (p : Nat) (a : Option Addr) (len cap N : Nat) (Q : Nat → Prop) (w : World) (e : Ending) (w' : World) : Prop :=
  ∃ W H x b m c f, e = .returned (im W H x m c) ∧ m ≤ N ∧ Ow x b m f w' ∧ (m = 0 ∨ (Q b ∧ b ≠ p)) ∧ Cur p a len cap w' ∧ Kept p w w'

/-- what is known while an image is being spoilt: the box of the image, the box of the answer -/
structure SP (p : Nat) (a : Option Addr) (len cap : Nat) (w : World) (vs : List Value) (wr : World) : Prop where
  cur : Cur p a len cap wr
  kept : Kept p w wr
  box : Bx w.heap.size vs wr
  res : Bx (w.heap.size + 1) [.int .i64 0, .int .i64 0, .slice none 0 0] wr
  sz : w.heap.size + 2 ≤ wr.heap.size
theorem SP.step {p : Nat} {a : Option Addr} {len cap : Nat} {w : World} {vs : List Value} {wr w' : World} (h : SP p a len cap w vs wr) (hp : p < w.heap.size) (hc : Cur p a len cap w') (hk : Kept p wr w') : SP p a len cap w vs w' :=
  ⟨hc, h.kept.trans hk, h.box.kept hk (by omega), h.res.kept hk (by omega), Nat.le_trans h.sz hk.size⟩
theorem SP.grown {p : Nat} {a : Option Addr} {len cap : Nat} {w : World} {vs : List Value} {wr w' : World} (h : SP p a len cap w vs wr) (hp : p < w.heap.size) (hab : len = 0 ∨ ∀ b off, a = some ⟨b, off, none⟩ → b < w.heap.size) (hb : Below (w.heap.size + 2) wr w') : SP p a len cap w vs w' :=
  ⟨h.cur.belowB (hb.mono (by omega)) hp hab, h.kept.belowB (hb.mono (by omega)) (Nat.le_refl _), h.box.below hb (by omega), h.res.below hb (by omega), Nat.le_trans h.sz hb.size⟩
theorem SP.set {p : Nat} {a : Option Addr} {len cap : Nat} {w : World} {vs : List Value} {wr : World} (h : SP p a len cap w vs wr) (hp : p < w.heap.size) (hab : len = 0 ∨ ∀ b off, a = some ⟨b, off, none⟩ → b < w.heap.size) (j : Nat) (v : Value) : SP p a len cap w (vs.set j v) (wr.setCell ⟨w.heap.size, j, none⟩ v) := by
  have hb : Below w.heap.size wr (wr.setCell ⟨w.heap.size, j, none⟩ v) := Below.setCell (p := ⟨w.heap.size, j, none⟩) (Below.refl _ _) (Nat.le_refl _) v
  exact ⟨h.cur.belowB hb hp hab, h.kept.belowB hb (Nat.le_refl _), h.box.set j v, h.res.far (by show w.heap.size ≠ _; omega) _, by simpa using h.sz⟩
theorem SP.drew {p : Nat} {a : Option Addr} {len cap : Nat} {w : World} {vs : List Value} {wr : World} (h : SP p a len cap w vs wr) : SP p a len cap w vs wr.drew :=
  ⟨h.cur.drewN 1, h.kept.drew, h.box, h.res, h.sz⟩
/-- the numbers that spoil -/
abbrev tab5 : Array Value := #[.int .i64 1000000000, .int .i64 1000000001, .int .i64 (-1000000000), .int .i64 (-1000000001), .int .i64 4611686018427387904]
theorem tab5_at (k : Nat) (h : k < 4) : ∃ z : Int, tab5[k]? = some (.int .i64 z) := by
  have : k = 0 ∨ k = 1 ∨ k = 2 ∨ k = 3 := by omega
  rcases this with rfl | rfl | rfl | rfl <;> exact ⟨_, rfl⟩
/-- the answer -/
theorem SP.ends {p : Nat} {a : Option Addr} {len cap N : Nat} {Q : Nat → Prop} {w : World} {W H : Int} {x : Option Addr} {b m c : Nat} {f : Nat → Int} {wr : World} (h : SP p a len cap w [.int .i64 W, .int .i64 H, .slice x m c] wr) (hp : p < w.heap.size) (hab : len = 0 ∨ ∀ b off, a = some ⟨b, off, none⟩ → b < w.heap.size) (hm : m ≤ N) (hx : Ow x b m f wr) (hxb : m = 0 ∨ (Q b ∧ b ≠ p ∧ b ≠ w.heap.size + 1)) :
    DrawnY p a len cap N Q w (.returned (im W H x m c)) (((wr.setCell ⟨w.heap.size + 1, 0, none⟩ (.int .i64 W)).setCell ⟨w.heap.size + 1, 1, none⟩ (.int .i64 H)).setCell ⟨w.heap.size + 1, 2, none⟩ (.slice x m c)) := by
  have hb := below_set3 (B := w.heap.size) wr (w.heap.size + 1) (.int .i64 W) (.int .i64 H) (.slice x m c) (by omega)
  refine ⟨W, H, x, b, m, c, f, rfl, hm, ?_, hxb.imp id (fun h => ⟨h.1, h.2.1⟩), h.cur.belowB hb hp hab, h.kept.belowB hb (Nat.le_refl _)⟩
  rcases hx with hx | ⟨ha, hx⟩
  · exact .inl hx
  · by_cases h0 : m = 0
    · exact .inl h0
    have hne : w.heap.size + 1 ≠ b := by rcases hxb with h | h <;> omega
    exact .inr ⟨ha, ((hx.set (p := ⟨w.heap.size + 1, 0, none⟩) hne _).set (p := ⟨w.heap.size + 1, 1, none⟩) hne _).set (p := ⟨w.heap.size + 1, 2, none⟩) hne _⟩

/-- a value of one cell is stored into a cell that is there -/
theorem run_one (w : World) (b j : Nat) (v : Value) (h1 : v.oneCell' = true) (hc : (w.cell? ⟨b, j, none⟩).isSome = true) (hf : w.frozen? ⟨b, j, none⟩ = false) : (storeCells ⟨b, j, none⟩ [v]).run Try.prog w = .ok () (w.setCell ⟨b, j, none⟩ v) := by
  obtain ⟨u, hu⟩ := Option.isSome_iff_exists.1 hc
  have h := run_store Try.prog w ⟨b, j, none⟩ v .plain h1
  have e : (⟨b, j, none⟩ : Addr).add 0 = ⟨b, j, none⟩ := by simp [Addr.add]
  simp [storeCells, e, h, hu, hf]

/-- an image is spoilt: some image comes out -/
def Spoils : Prop := ∀ (p : Nat) (a : Option Addr) (len cap : Nat) (W H : Int) (o n c : Nat) (f : Nat → Int), n ≤ 1000 → 0 < n → ∀ (w : World), Cur p a len cap w → p < w.heap.size → (len = 0 ∨ ∀ b off, a = some ⟨b, off, none⟩ → b < w.heap.size) → Row o n f w → o ≠ p →
    Calls Try.prog 19 #[.pointer (some ⟨p, 0, none⟩), im W H (some ⟨o, 0, none⟩) n c] w (DrawnY p a len cap (n + 1) (fun b => b = o ∨ w.heap.size ≤ b) w)

end Go.Proofs.Ytekoioggamhlaaa

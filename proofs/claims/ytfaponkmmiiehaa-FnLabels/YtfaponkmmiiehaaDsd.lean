/- An image is spoilt: some image comes out. -/
import Derived.Test.YtfaponkmmiiehaaDim
import Derived.Test.YtfaponkmmiiehaaDbw
import Derived.Test.YtfaponkmmiiehaaCpy
import Derived.Deep.CutBlock
namespace Go.Proofs.Ytfaponkmmiiehaa
open Go.RowKit

/-- the table of odd numbers -/
abbrev otab : Array Value := #[.int .i64 (-1), .int .i64 0, .int .i64 1, .int .i64 2147483648, .int .i64 (-2147483648), .int .i64 1099511627776, .int .i64 4611686018427387904, .int .i64 (-4611686018427387904), .int .i64 9223372036854775807, .int .i64 (-9223372036854775808)]

theorem otab_at (k : Nat) (h : k < 10) : ∃ n : Int, otab[k]? = some (.int .i64 n) := by
  have : k = 0 ∨ k = 1 ∨ k = 2 ∨ k = 3 ∨ k = 4 ∨ k = 5 ∨ k = 6 ∨ k = 7 ∨ k = 8 ∨ k = 9 := by omega
  rcases this with rfl | rfl | rfl | rfl | rfl | rfl | rfl | rfl | rfl | rfl <;> exact ⟨_, rfl⟩

theorem otab_cell (w : World) (k : Nat) : (w.alloc (.cells otab 2)).cell? ⟨w.heap.size, k, none⟩ = otab[k]? :=
  World.cell?_alloc_new w otab 2 k

theorem odd_any (p : Nat) (a : Option Addr) (len cap : Nat) (w : World) (h : Cur p a len cap w) :
    Calls Try.prog 45 #[.pointer (some ⟨p, 0, none⟩)] w (DrawnI p a len cap w) := by
  have hpw : p < w.heap.size := World.block_lt_of_cell? w _ h.head
  have hcT := h.below (bnew w (.cells otab 2))
  have hb5 := below_any p a len cap _ hcT 10 (by omega) (by omega)
  clear h hcT
  go_enter Try.func45, Try.ntmps45
  go_wp2_with fail
  refine hb5.mono ?_
  rintro e w3 ⟨y, rfl, y0', y1', hc3, hk3⟩
  obtain ⟨k, rfl⟩ : ∃ k : Nat, y = k := ⟨y.toNat, by omega⟩
  have hk20 : k < 10 := by omega
  obtain ⟨n, hn2⟩ := otab_at k hk20
  have hcell : w3.cell? ⟨w.heap.size, k, none⟩ = some (.int .i64 n) := hk3.cell (by show w.heap.size ≠ p; omega) (by rw [otab_cell w k, hn2])
  have hkt3 := (Kept.of_below (p := p) (bnew w (.cells otab 2))).trans hk3
  clear hb5 hk3 hn2 hpw y0' y1'
  go_wp2_with fail
  go_ret
  exact ⟨n, rfl, hc3, hkt3⟩


/-- some image is drawn, with at most so many pixels, in a block of its own -/
def DrawnY (p : Nat) (a : Option Addr) (len cap N : Nat) (Q : Nat → Prop) (w : World) (e : Ending) (w' : World) : Prop :=
  ∃ W H x b m c f, e = .returned (im W H x m c) ∧ m ≤ N ∧ Ow x b m f w' ∧ (m = 0 ∨ (Q b ∧ b ≠ p)) ∧ Cur p a len cap w' ∧ Kept p w w'

/-- what is known while an image is being spoilt: the box of the image, the box of the answer -/
structure SP (p : Nat) (a : Option Addr) (len cap : Nat) (w : World) (vs : List Value) (wr : World) : Prop where
  cur : Cur p a len cap wr
  kept : Kept p w wr
  box : Bx w.heap.size vs wr
  res : Bx (w.heap.size + 1) [.int .i64 0, .int .i64 0, .slice none 0 0] wr
  sz : w.heap.size + 2 ≤ wr.heap.size
theorem SP.step {p : Nat} {a : Option Addr} {len cap : Nat} {w : World} {vs : List Value} {wr w' : World} (h : SP p a len cap w vs wr) (hp : p < w.heap.size) (hc : Cur p a len cap w') (hk : Kept p wr w') : SP p a len cap w vs w' :=
  ⟨hc, h.kept.trans hk, h.box.kept hk (by omega), h.res.kept hk (by omega), Nat.le_trans h.sz hk.size⟩
theorem SP.grown {p : Nat} {a : Option Addr} {len cap : Nat} {w : World} {vs : List Value} {wr w' : World} (h : SP p a len cap w vs wr) (hp : p < w.heap.size) (hab : len = 0 ∨ ∀ b off, a = some ⟨b, off, none⟩ → b < w.heap.size) (hb : Below (w.heap.size + 2) wr w') : SP p a len cap w vs w' :=
  ⟨h.cur.belowB (hb.mono (by omega)) hp hab, h.kept.belowB (hb.mono (by omega)) (Nat.le_refl _), h.box.below hb (by omega), h.res.below hb (by omega), Nat.le_trans h.sz hb.size⟩
theorem SP.set {p : Nat} {a : Option Addr} {len cap : Nat} {w : World} {vs : List Value} {wr : World} (h : SP p a len cap w vs wr) (hp : p < w.heap.size) (hab : len = 0 ∨ ∀ b off, a = some ⟨b, off, none⟩ → b < w.heap.size) (j : Nat) (v : Value) : SP p a len cap w (vs.set j v) (wr.setCell ⟨w.heap.size, j, none⟩ v) := by
  have hb : Below w.heap.size wr (wr.setCell ⟨w.heap.size, j, none⟩ v) := Below.setCell (p := ⟨w.heap.size, j, none⟩) (Below.refl _ _) (Nat.le_refl _) v
  exact ⟨h.cur.belowB hb hp hab, h.kept.belowB hb (Nat.le_refl _), h.box.set j v, h.res.far (by show w.heap.size ≠ _; omega) _, by simpa using h.sz⟩
theorem SP.drew {p : Nat} {a : Option Addr} {len cap : Nat} {w : World} {vs : List Value} {wr : World} (h : SP p a len cap w vs wr) : SP p a len cap w vs wr.drew :=
  ⟨h.cur.drewN 1, h.kept.drew, h.box, h.res, h.sz⟩
/-- the numbers that spoil -/
abbrev tab5 : Array Value := #[.int .i64 1000000000, .int .i64 1000000001, .int .i64 (-1000000000), .int .i64 (-1000000001), .int .i64 4611686018427387904]
theorem tab5_at (k : Nat) (h : k < 4) : ∃ z : Int, tab5[k]? = some (.int .i64 z) := by
  have : k = 0 ∨ k = 1 ∨ k = 2 ∨ k = 3 := by omega
  rcases this with rfl | rfl | rfl | rfl <;> exact ⟨_, rfl⟩
/-- the answer -/
theorem SP.ends {p : Nat} {a : Option Addr} {len cap N : Nat} {Q : Nat → Prop} {w : World} {W H : Int} {x : Option Addr} {b m c : Nat} {f : Nat → Int} {wr : World} (h : SP p a len cap w [.int .i64 W, .int .i64 H, .slice x m c] wr) (hp : p < w.heap.size) (hab : len = 0 ∨ ∀ b off, a = some ⟨b, off, none⟩ → b < w.heap.size) (hm : m ≤ N) (hx : Ow x b m f wr) (hxb : m = 0 ∨ (Q b ∧ b ≠ p ∧ b ≠ w.heap.size + 1)) :
    DrawnY p a len cap N Q w (.returned (im W H x m c)) (((wr.setCell ⟨w.heap.size + 1, 0, none⟩ (.int .i64 W)).setCell ⟨w.heap.size + 1, 1, none⟩ (.int .i64 H)).setCell ⟨w.heap.size + 1, 2, none⟩ (.slice x m c)) := by
  have hb := below_set3 (B := w.heap.size) wr (w.heap.size + 1) (.int .i64 W) (.int .i64 H) (.slice x m c) (by omega)
  refine ⟨W, H, x, b, m, c, f, rfl, hm, ?_, hxb.imp id (fun h => ⟨h.1, h.2.1⟩), h.cur.belowB hb hp hab, h.kept.belowB hb (Nat.le_refl _)⟩
  rcases hx with hx | ⟨ha, hx⟩
  · exact .inl hx
  · by_cases h0 : m = 0
    · exact .inl h0
    have hne : w.heap.size + 1 ≠ b := by rcases hxb with h | h <;> omega
    exact .inr ⟨ha, ((hx.set (p := ⟨w.heap.size + 1, 0, none⟩) hne _).set (p := ⟨w.heap.size + 1, 1, none⟩) hne _).set (p := ⟨w.heap.size + 1, 2, none⟩) hne _⟩

/-- a value of one cell is stored into a cell that is there -/
theorem run_one (w : World) (b j : Nat) (v : Value) (h1 : v.oneCell' = true) (hc : (w.cell? ⟨b, j, none⟩).isSome = true) (hf : w.frozen? ⟨b, j, none⟩ = false) : (storeCells ⟨b, j, none⟩ [v]).run Try.prog w = .ok () (w.setCell ⟨b, j, none⟩ v) := by
  obtain ⟨u, hu⟩ := Option.isSome_iff_exists.1 hc
  have h := run_store Try.prog w ⟨b, j, none⟩ v .plain h1
  have e : (⟨b, j, none⟩ : Addr).add 0 = ⟨b, j, none⟩ := by simp [Addr.add]
  simp [storeCells, e, h, hu, hf]

/-- an image is spoilt: some image comes out -/
def Spoils : Prop := ∀ (p : Nat) (a : Option Addr) (len cap : Nat) (W H : Int) (o n c : Nat) (f : Nat → Int), n ≤ 1000 → 0 < n → ∀ (w : World), Cur p a len cap w → p < w.heap.size → (len = 0 ∨ ∀ b off, a = some ⟨b, off, none⟩ → b < w.heap.size) → Row o n f w → o ≠ p →
    Calls Try.prog 36 #[.pointer (some ⟨p, 0, none⟩), im W H (some ⟨o, 0, none⟩) n c] w (DrawnY p a len cap (n + 1) (fun b => b = o ∨ w.heap.size ≤ b) w)

end Go.Proofs.Ytfaponkmmiiehaa

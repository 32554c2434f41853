/- Erode, the program: what each pixel becomes. -/
import Derived.Test.YtchbaegmkaibcaaG8w
import Derived.Lib.MinMax
namespace Go.Proofs.Ytchbaegmkaibcaa
open Go.RowKit

set_option maxRecDepth 100000 in
set_option maxHeartbeats 1000000 in
theorem eroVis_any (W H : Int) (a : Option Addr) (n cap : Nat) (f : Nat → Int) (k q v : Int) (h0 : 0 ≤ q) (h1 : q < n) (c bp : Nat) (w : World) (hz : Bx c [.int .i64 v] w) (hb : Bx bp [.int .i64 W, .int .i64 H, .slice a n cap] w) (hx : Px a n f w) :
    Calls Try.prog 29 #[.int .i64 k, .int .i64 q, .pointer (some ⟨c, 0, none⟩), .pointer (some ⟨bp, 0, none⟩)] w fun e w' => e = .returned (.tuple #[]) ∧ KpS (· = c) w w' ∧ Bx c [.int .i64 (min v (f q.toNat))] w' := by
  obtain ⟨b, off, rfl, hy⟩ := hx.at' h0 h1
  obtain ⟨z0, z1⟩ := hz 0 _ rfl
  have p2 := (hb 2 _ rfl).1
  have HZ := hide (hz.set 0 (.int .i64 (min v (f q.toNat))))
  have HK := hide ((KpS.refl (· = c) w).setCell (a := ⟨c, 0, none⟩) rfl (.int .i64 (min v (f q.toNat))))
  generalize f q.toNat = y at *
  clear hx hz hb
  go_enter Try.func29, Try.ntmps29
  go_wp2_with fail
  go_region
  go_wp2_with fail
  go_end0
  exact ⟨rfl, HK.out.drew, HZ.out⟩

set_option maxRecDepth 100000 in
theorem eroVis_fn : ∀ ar w, Sem.run Try.prog (callFunc 29 ar) w = .ok (.enter 29 ar) w := fun _ _ => rfl
set_option maxRecDepth 100000 in
theorem eroPix_fn : ∀ ar w, Sem.run Try.prog (callFunc 28 ar) w = .ok (.enter 28 ar) w := fun _ _ => rfl

set_option maxRecDepth 100000 in
set_option maxHeartbeats 1000000 in
theorem eroPix_any (W H p : Int) (a : Option Addr) (n cap : Nat) (f : Nat → Int) (hl : n ≤ 1048576) (hn : (n : Int) = W * H) (hW : 1 ≤ W) (hW' : W ≤ 64) (hH : 1 ≤ H) (hH' : H ≤ 64) (hp : 0 ≤ p) (hp' : p < 4096)
    (a2 : Option Addr) (m cap2 : Nat) (g : Nat → Int) (hm : m ≤ 1048576) (hg : ∀ j, j < m * 2 → -64 ≤ g j ∧ g j ≤ 64) (bp bq : Nat) (w : World)
    (hb : Bx bp [.int .i64 W, .int .i64 H, .slice a n cap] w) (hq : Bx bq [.slice a2 m cap2] w) (hx : Px a n f w) (hy : Px a2 (m * 2) g w) :
    Calls Try.prog 28 #[.int .i64 p, .pointer (some ⟨bp, 0, none⟩), .pointer (some ⟨bq, 0, none⟩)] w fun e w' => e = .returned (.int .i64 (vis W H p g (fun _ q v => min v (f q.toNat)) 1 m)) ∧ Below w.heap.size w w' := by
  have hbp : bp < w.heap.size := World.block_lt_of_cell? w ⟨bp, 0, none⟩ (hb 0 _ rfl).1
  have hbq : bq < w.heap.size := World.block_lt_of_cell? w ⟨bq, 0, none⟩ (hq 0 _ rfl).1
  have hw1 := bnew w (.cells #[.int .i64 1] 2)
  have h1 : ∀ wr, KpS (· = w.heap.size) (w.alloc (.cells #[.int .i64 1] 2)) wr → Bx bp [.int .i64 W, .int .i64 H, .slice a n cap] wr ∧ Px a n f wr := by
    intro wr hk
    refine ⟨hk.bx (by show bp ≠ _; omega) (by simp; omega) (hb.below hw1 hbp), ?_⟩
    by_cases h0 : n = 0
    · exact .inl h0
    · exact hk.px (fun b off e => hx.block_ne (Nat.le_refl _) (by omega) b off e) (hx.below hw1)
  have cV := visitFold_any W H p a2 m cap2 g hm hW hW' hH hH' hp hp' hg _ eroVis_fn #[.pointer (some ⟨w.heap.size, 0, none⟩), .pointer (some ⟨bp, 0, none⟩)] (fun _ q v => min v (f q.toNat)) 1 w.heap.size (w.alloc (.cells #[.int .i64 1] 2)) (by simp)
    (Bx.new [.int .i64 1] 2 w) (hy.below hw1) (fun b off h0 e => hy.block_ne (Nat.le_refl _) (by omega) b off e)
    (fun k wr _ hq hk hbx => by
      obtain ⟨q0, q1⟩ := place_lt hq hn
      exact eroVis_any W H a n cap f k _ _ q0 q1 w.heap.size bp wr hbx (h1 wr hk).1 (h1 wr hk).2)
  obtain ⟨p0, p1, p2⟩ : w.cell? ⟨bp, 0, none⟩ = some (.int .i64 W) ∧ w.cell? ⟨bp, 1, none⟩ = some (.int .i64 H) ∧ w.cell? ⟨bp, 2, none⟩ = some (.slice a n cap) := ⟨(hb 0 _ rfl).1, (hb 1 _ rfl).1, (hb 2 _ rfl).1⟩
  have q0 := (hq 0 _ rfl).1
  clear hb hq hx hy h1 hw1
  generalize vis W H p g (fun _ q v => min v (f q.toNat)) 1 m = R at *
  go_enter Try.func28, Try.ntmps28
  go_wp2_with fail
  refine cV.mono ?_
  rintro e w2 ⟨rfl, hk, hbx⟩
  have r0 := (hbx 0 _ rfl).1
  have HB : Hid (Below w.heap.size w w2) := (bnew w _).trans (hk.below (fun b h => by subst h; exact Nat.le_refl _) (by simp))
  clear hk hbx cV
  go_wp2_with fail
  go_ret
  exact ⟨rfl, HB.out⟩

end Go.Proofs.Ytchbaegmkaibcaa

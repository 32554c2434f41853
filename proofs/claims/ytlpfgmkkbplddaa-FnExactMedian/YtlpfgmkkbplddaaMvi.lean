/- Median, the program: what is visited is appended to a captured list. -/
import Derived.Test.YtlpfgmkkbplddaaSrt
import Derived.Deep.RegionLaw
import Derived.Deep.AppendLies
namespace Go.Proofs.Ytlpfgmkkbplddaa
open Go.RowKit

theorem KpS.grown {S : Nat → Prop} {a b c : World} {row : Option Nat} (h : KpS S a b) (hg : b.grownBy c row) (hr : ∀ k, row = some k → S k) : KpS S a c :=
  ⟨hg.os.trans h.os, hg.tape.trans h.tape, hg.output.trans h.output, Nat.le_trans h.size hg.size, fun k hk hs => (hg.block k (Nat.lt_of_lt_of_le hk h.size) (fun e => hs (hr k e.symm))).trans (h.block k hk hs)⟩

set_option maxRecDepth 100000 in
set_option maxHeartbeats 2000000 in
theorem medVis_any (W H : Int) (a : Option Addr) (n cap : Nat) (f : Nat → Int) (k q : Int) (h0 : 0 ≤ q) (h1 : q < n) (c bp B m : Nat) (v : Value) (L : List Int) (w : World) (hm : m ≤ 100) (hcB : c < B) (hbpB : bp < B) (haB : ∀ b off, a = some ⟨b, off, none⟩ → b < B) (hBw : B ≤ w.heap.size)
    (hz : Bx c [v] w) (hb : Bx bp [.int .i64 W, .int .i64 H, .slice a n cap] w) (hx : Px a n f w) (ho : w.ownsRow B 2 1 v m (ints L)) :
    Calls Try.prog 90 #[.int .i64 k, .int .i64 q, .pointer (some ⟨c, 0, none⟩), .pointer (some ⟨bp, 0, none⟩)] w fun e w' => e = .returned (.tuple #[]) ∧ KpS (fun x => x = c ∨ B ≤ x) w w' ∧ ∃ v', Bx c [v'] w' ∧ w'.ownsRow B 2 1 v' (m + 1) (ints (L ++ [f q.toNat])) := by
  obtain ⟨b, off, rfl, hy⟩ := hx.at' h0 h1
  have hbB := haB b off rfl
  obtain ⟨z0, z1⟩ := hz 0 _ rfl
  have p2 := (hb 2 _ rfl).1
  obtain ⟨t, ht⟩ : ∃ t, q.toNat = t := ⟨_, rfl⟩
  rw [ht] at hy ⊢
  generalize f t = y at *
  have ne0 : some c ≠ v.ownBlock := fun e => by have := (ho.lt c e.symm).1; omega
  have ne1 : some bp ≠ v.ownBlock := fun e => by have := (ho.lt bp e.symm).1; omega
  have ne2 : some b ≠ v.ownBlock := fun e => by have := (ho.lt b e.symm).1; omega
  have hlt : ∀ q, v.ownBlock = some q → B ≤ q := fun q hq => (ho.lt q hq).1
  have HO := hide ho
  have HLt := hide hlt
  have hz1 : ((w.alloc (.cells #[.int .i64 y] 2)).drew).frozen? ⟨c, 0, none⟩ = false := ((bnew w (.cells #[.int .i64 y] 2)).drew.frozen (p := ⟨c, 0, none⟩) (by show c < _; omega)).trans z1
  have hz0 : ((w.alloc (.cells #[.int .i64 y] 2)).drew).cell? ⟨c, 0, none⟩ = some v := ((bnew w (.cells #[.int .i64 y] 2)).drew.cell (p := ⟨c, 0, none⟩) (by show c < _; omega)).trans z0
  obtain ⟨ti, hi1, hi2, hi3, hi4⟩ := info2
  have HI1 := hide hi1
  clear hx hz hb ho hlt hi1 haB
  go_enter Try.func90, Try.ntmps90
  go_wp2_with fail
  have hcw : c < w.heap.size := by omega
  have hbw : bp < w.heap.size := by omega
  have hbw2 : b < w.heap.size := by omega
  go_region_law ((refine step_append_lies _ (by rfl) _ _ _ (by rfl) B 2 ti _ 1 8 Try.underlying24 HI1.out hi2 hi3 hi4 rfl (by omega) v m (ints L) (by rfl) ((HO.out.alloc _).drew) ⟨w.heap.size, 0, none⟩ 1 1 [.int .i64 y] (by rfl) (by rfl) (World.news_of_block (cs := #[.int .i64 y]) (t := 2) (fr := (0, 0)) (heap_alloc_new w _)) (by simp [Value.oneCell']) (by omega) (by unfold maxLen; omega) (by omega) (by simp; omega) (w.heap.size + 1) (by simp) ?_; intro gg cap1 w1 hown1 hgrow hat hlt1; have hcz : w1.cell? ⟨c, 0, none⟩ = some v := (hgrow.cell_far ⟨c, 0, none⟩ (by simp; omega) ne0).trans hz0; have hfz : w1.frozen? ⟨c, 0, none⟩ = false := (World.frozen?_of_block (a := ⟨c, 0, none⟩) (hgrow.block c (by simp; omega) ne0)).trans hz1))
  all_goals
    have HK : Hid (KpS (fun x => x = c ∨ B ≤ x) w (w1.setCell ⟨c, 0, none⟩ (.slice (some ⟨gg, 0, none⟩) (m + 1) cap1))) := ((KpS.of_below (bnew w (.cells #[.int .i64 y] 2)).drew).grown hgrow (fun q hq => .inr (HLt.out q hq))).setCell (a := ⟨c, 0, none⟩) (.inl rfl) _
    have HX : Hid (Bx c [.slice (some ⟨gg, 0, none⟩) (m + 1) cap1] (w1.setCell ⟨c, 0, none⟩ (.slice (some ⟨gg, 0, none⟩) (m + 1) cap1))) := by
      intro j u hu
      cases j with
      | zero => 
        cases hu
        exact ⟨World.cell?_setCell_same _ _ _ hcz, by simpa using hfz⟩
      | succ j => simp at hu
    have HO1 : Hid ((w1.setCell ⟨c, 0, none⟩ (.slice (some ⟨gg, 0, none⟩) (m + 1) cap1)).ownsRow B 2 1 (.slice (some ⟨gg, 0, none⟩) (m + 1) cap1) (m + 1) (ints (L ++ [y]))) := by
      rw [ints_append]
      exact ownsRow_setCell_below hown1 (a := ⟨c, 0, none⟩) hcB _
    clear hown1 hgrow hat hlt1 hcz hfz HO HLt hz0 hz1 z0 z1
    go_wp2_with fail
    go_end0
    exact ⟨rfl, HK.out, _, HX.out, HO1.out⟩

/-- the list of the pixels around -/
def medS (W H : Int) (f : Nat → Int) (r : Nat) (j : Nat) : Int := medOf (visL W H j (offF r r) f ((2 * r + 1) * (2 * r + 1)))

set_option maxRecDepth 100000 in
theorem medVis_fn : ∀ ar w, Sem.run Try.prog (callFunc 90 ar) w = .ok (.enter 90 ar) w := fun _ _ => rfl
set_option maxRecDepth 100000 in
theorem medPix_fn : ∀ ar w, Sem.run Try.prog (callFunc 89 ar) w = .ok (.enter 89 ar) w := fun _ _ => rfl

end Go.Proofs.Ytlpfgmkkbplddaa

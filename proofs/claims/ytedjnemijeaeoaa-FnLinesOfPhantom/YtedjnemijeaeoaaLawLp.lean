/- Lines of a phantom: the law, walked. -/
import Derived.Test.YtedjnemijeaeoaaHom
import Derived.Deep.RegionHeld3
import Derived.Deep.AppendLies
import Derived.Deep.Quiet
import Derived.BigQuiet
import Derived.Test.YtedjnemijeaeoaaPntS2
import Derived.Test.YtedjnemijeaeoaaLbk
import Derived.Test.YtedjnemijeaeoaaDcx
import Derived.Test.YtedjnemijeaeoaaDci
import Derived.Test.YtedjnemijeaeoaaDpp
import Derived.Test.YtedjnemijeaeoaaPntI2
import Derived.Test.YtedjnemijeaeoaaLno
import Derived.Test.YtedjnemijeaeoaaRwb
import Derived.Laws.AppendOwnNone
import Derived.BigRegion
namespace Go.Proofs.Ytedjnemijeaeoaa
open Go.RowKit

theorem sameInts_any (a a' : Option Addr) (len cap cap' : Nat) (f : Nat → Int) (hl : len ≤ 1048576) (w : World) (h : Px a len f w) (h' : Px a' len f w) :
    Calls Try.prog 24 #[.slice a len cap, .slice a' len cap'] w fun e w' => e = .returned (.bool true) ∧ ∃ n, w' = w.drewN n := by
  have HP := hide h
  have HP' := hide h'
  clear h h'
  have q0 : (((len : Nat) : Int) != (len : Int)) = false := by simp
  go_enter Try.func24, Try.ntmps24
  go_wp2
  go_loopw [5] (fun i wr => ∃ k n : Nat, k ≤ len ∧ i = .int .i64 k ∧ wr = w.drewN n) (fun i _ => len - (intOf i).toNat)
  case atStart => exact ⟨0, 0, by omega, rfl, rfl⟩
  case round =>
    obtain ⟨k, n, hk, rfl, rfl⟩ := hrel
    by_cases hlt : k < len
    · obtain ⟨b, off, rfl, hz⟩ := HP.out.at hlt
      obtain ⟨b', off', rfl, hz'⟩ := HP'.out.at hlt
      clear HP HP'
      go_wp2
      go_quiet (fail)
      go_wp2
      go_roundw
      case rel => exact ⟨k + 1, _, by omega, by go_num, rfl⟩
      case measure => simp [intOf]; omega
    · go_wp2
      go_ret
      exact ⟨rfl, _, rfl⟩

set_option maxRecDepth 100000 in
theorem sameImage_any (W H : Int) (a a' : Option Addr) (n cap cap' : Nat) (f : Nat → Int) (hl : n ≤ 1048576) (w : World) (h : Px a n f w) (h' : Px a' n f w) :
    Calls Try.prog 8 #[im W H a n cap, im W H a' n cap'] w fun e w' => e = .returned (.bool true) ∧ Below w.heap.size w w' := by
  have HS := hide (((St.start w).box [.int .i64 W, .int .i64 H, .slice a n cap] 32).box' [.int .i64 W, .int .i64 H, .slice a' n cap'] 32 (b := w.heap.size + 1) (by simp))
  have c := sameInts_any a a' n cap cap' f hl _ (h.below HS.out.below) (h'.below HS.out.below)
  have q0 : (W == W) = true := by simp
  have q1 : (H == H) = true := by simp
  clear h h'
  go_enter Try.func8, Try.ntmps8
  go_upto_region 1 with fail
  generalize hw2 : World.alloc (World.alloc w _) _ = w2 at *
  have HS2 : Hid (St w [(w.heap.size + 1, [.int .i64 W, .int .i64 H, .slice a' n cap']), (w.heap.size, [.int .i64 W, .int .i64 H, .slice a n cap])] [] w2) := HS.out
  obtain ⟨i0, i1, i2⟩ := HS2.out.im3 1 rfl
  obtain ⟨j0, j1, j2⟩ := HS2.out.im3 0 rfl
  clear HS hw2
  go_wp2_with fail
  refine c.mono ?_
  rintro e w3 ⟨rfl, d, rfl⟩
  have HB := hide (below_drewN HS2.out.below d)
  clear c HS2 i0 i1 i2 j0 j1 j2
  go_wp2_with fail
  go_ret
  exact ⟨rfl, HB.out⟩

end Go.Proofs.Ytedjnemijeaeoaa

namespace Go.Proofs.Ytedjnemijeaeoaa
open Go.RowKit

theorem src_ints {p : Addr} {n : Nat} {f : Nat → Int} {w : World} (h : Px (some p) n f w) : ∀ (j : Nat) (u : Value), (ints ((List.range n).map f))[j]? = some u → w.cell? (p.add j) = some u := by
  intro j u hu
  have hj : j < n := by
    have := (List.getElem?_eq_some_iff.1 hu).1
    rw [ints_length] at this
    simpa using this
  obtain ⟨b, off, e, hc⟩ := h.at hj
  cases e
  have e2 : (⟨b, off, none⟩ : Addr).add j = ⟨b, off + j, none⟩ := by by_cases h0 : j = 0 <;> simp [Addr.add, h0]
  rw [e2, hc]
  unfold ints at hu
  rw [List.getElem?_map, List.getElem?_map, List.getElem?_range hj] at hu
  exact hu
theorem rng_at {n : Nat} {f : Nat → Int} {k : Nat} (hk : k < n) : ((List.range n).map f).getD k 0 = f k := by
  rw [List.getD_eq_getElem?_getD, List.getElem?_map, List.getElem?_range hk]
  rfl

theorem below_set3' {B : Nat} {w w1 : World} (h : Below B w w1) {b : Nat} {u v x : Value} (hb : B ≤ b) : Below B w (((w1.setCell ⟨b, 0, none⟩ u).setCell ⟨b, 1, none⟩ v).setCell ⟨b, 2, none⟩ x) :=
  Below.setCell (p := ⟨b, 2, none⟩) (Below.setCell (p := ⟨b, 1, none⟩) (Below.setCell (p := ⟨b, 0, none⟩) h hb u) hb v) hb x

set_option maxRecDepth 100000 in
set_option maxHeartbeats 1000000 in
theorem copyImage_any (W H : Int) (a : Option Addr) (n cap : Nat) (f : Nat → Int) (hl : n ≤ 1048576) (h0 : 0 < n) (w : World) (h : Px a n f w) :
    Calls Try.prog 11 #[im W H a n cap] w fun e w' => ∃ b c, e = .returned (im W H (some ⟨b, 0, none⟩) n c) ∧ Row b n f w' ∧ w.heap.size ≤ b ∧ Below w.heap.size w w' := by
  obtain ⟨bs, off, rfl, -⟩ := h.at h0
  obtain ⟨ti, hi1, hi2, hi3, hi4⟩ := info2
  have HI1 := hide hi1
  have HB0 := hide (bnext (bnew w (.cells #[.int .i64 W, .int .i64 H, .slice (some ⟨bs, off, none⟩) n cap] 32)) (Nat.le_refl _) (bnew _ (.cells #[.int .i64 0, .int .i64 0, .slice none 0 0] 32)))
  have HP := hide h
  have N2 : Hid ((ints ((List.range n).map f)).length = n * 1) := by
    show _ = _
    rw [ints_length]; simp
  have N3 : Hid (0 + n ≤ maxLen) := by
    show _ ≤ _
    unfold maxLen; omega
  have N4 : Hid ((0 + n) * 8 ≤ 140737488355328) := by show _ ≤ _; omega
  have hE := (World.ownsRow_lit (e := 2) (size := 1) ((w.alloc (.cells #[.int .i64 W, .int .i64 H, .slice (some ⟨bs, off, none⟩) n cap] 32)).alloc (.cells #[.int .i64 0, .int .i64 0, .slice none 0 0] 32)) #[] 0 (base := w.heap.size + 2) (by simp) (by unfold maxLen; omega) rfl).drew
  have hz : ((w.alloc (.cells #[.int .i64 W, .int .i64 H, .slice (some ⟨bs, off, none⟩) n cap] 32)).alloc (.cells #[.int .i64 0, .int .i64 0, .slice none 0 0] 32)).heap.size = w.heap.size + 2 := by simp
  rw [hz] at hE
  have HE := hide hE
  clear hE hz
  have hb3 := bnext HB0.out (Nat.le_refl _) (bnew _ (.cells #[] 2))
  have HBE := hide hb3.drew
  have HN := hide (src_ints (h.below hb3.drew))
  have n0 : some w.heap.size ≠ Value.ownBlock (.slice (some ⟨w.heap.size + 2, 0, none⟩) 0 0) := by simp [Value.ownBlock]
  have n1 : some (w.heap.size + 1) ≠ Value.ownBlock (.slice (some ⟨w.heap.size + 2, 0, none⟩) 0 0) := by simp [Value.ownBlock]
  clear hi1 h hb3
  go_enter Try.func11, Try.ntmps11
  go_upto_region 1 with fail
  go_region_held3 (fun w' => w'.cell? ⟨w.heap.size, 0, none⟩ = some (.int .i64 W) ∧ w'.cell? ⟨w.heap.size, 1, none⟩ = some (.int .i64 H) ∧ w'.cell? ⟨w.heap.size, 2, none⟩ = some (.slice (some ⟨bs, off, none⟩) n cap))
    (first
      | with_reducible exact SK.out
      | (simp [go_sem]; done)
      | go_keep)
    (first
      | (refine step_append_lies _ (by rfl) _ _ _ (by rfl) (w.heap.size + 2) 2 ti _ 1 8 Try.underlying30 HI1.out hi2 hi3 hi4 rfl (by omega) (.slice (some ⟨w.heap.size + 2, 0, none⟩) 0 0) 0 [] (by rfl) HE.out ⟨bs, off, none⟩ n cap (ints ((List.range n).map f)) (by rfl) N2.out HN.out (ints_one _) h0 N3.out N4.out (by simp) (w.heap.size + 3) (by simp) ?_; intro gg cap1 w1 hown1 hgrow hat hlt1; have SK := hide (And.intro ((hgrow.cell_far ⟨w.heap.size, 0, none⟩ (by simp; try omega) n0).trans (by simp [go_sem])) (And.intro ((hgrow.cell_far ⟨w.heap.size, 1, none⟩ (by simp; try omega) n0).trans (by simp [go_sem])) ((hgrow.cell_far ⟨w.heap.size, 2, none⟩ (by simp; try omega) n0).trans (by simp [go_sem]))) : w1.cell? ⟨w.heap.size, 0, none⟩ = some (.int .i64 W) ∧ w1.cell? ⟨w.heap.size, 1, none⟩ = some (.int .i64 H) ∧ w1.cell? ⟨w.heap.size, 2, none⟩ = some (.slice (some ⟨bs, off, none⟩) n cap)); have z0 : w1.cell? ⟨w.heap.size + 1, 0, none⟩ = some (.int .i64 0) := (hgrow.cell_far ⟨w.heap.size + 1, 0, none⟩ (by simp; try omega) n1).trans (by simp [go_sem]); have z1 : w1.cell? ⟨w.heap.size + 1, 1, none⟩ = some (.int .i64 0) := (hgrow.cell_far ⟨w.heap.size + 1, 1, none⟩ (by simp; try omega) n1).trans (by simp [go_sem]); have z2 : w1.cell? ⟨w.heap.size + 1, 2, none⟩ = some (.slice none 0 0) := (hgrow.cell_far ⟨w.heap.size + 1, 2, none⟩ (by simp; try omega) n1).trans (by simp [go_sem]); have y0 : w1.frozen? ⟨w.heap.size + 1, 0, none⟩ = false := (hgrow.frozen_far ⟨w.heap.size + 1, 0, none⟩ (by simp; try omega) n1).trans (by simp [go_sem]); have y1 : w1.frozen? ⟨w.heap.size + 1, 1, none⟩ = false := (hgrow.frozen_far ⟨w.heap.size + 1, 1, none⟩ (by simp; try omega) n1).trans (by simp [go_sem]); have y2 : w1.frozen? ⟨w.heap.size + 1, 2, none⟩ = false := (hgrow.frozen_far ⟨w.heap.size + 1, 2, none⟩ (by simp; try omega) n1).trans (by simp [go_sem])))
  all_goals
    have HO1 : Hid (w1.ownsRow (w.heap.size + 2) 2 1 (.slice (some ⟨gg, 0, none⟩) n cap1) n (ints ((List.range n).map f))) := by
      have := hown1
      rw [Nat.zero_add, List.nil_append] at this
      exact this
    have HB1 : Hid (Below w.heap.size w w1) := HBE.out.trans ((Below.refl _ _).grown hgrow (by simp; try omega) (fun q hq => by
      have e : q = w.heap.size + 2 := by simpa [Value.ownBlock] using hq.symm
      omega))
    clear hown1 hgrow hat hlt1 SK HE HN HBE HB0 HP
    go_wp2_with fail
    refine bodyPost_ret (v := im W H (some ⟨gg, 0, none⟩) n cap1) (by simp [results, Try.results11, go_sem, z0, z1, z2]) rfl ?_
    obtain ⟨a', cap', b', e, ow, hB, -⟩ := ow_of_some HO1.out h0
    cases e
    rw [Nat.mul_one] at ow
    rcases ow with ow | ⟨e2, ow⟩
    · omega
    · cases e2
      refine ⟨gg, cap1, rfl, ?_, by omega, below_set3' HB1.out (by omega)⟩
      have hne : w.heap.size + 1 ≠ gg := by omega
      exact (((ow.set hne _).set hne _).set hne _).congr (fun q hq => rng_at hq)

end Go.Proofs.Ytedjnemijeaeoaa

namespace Go.Proofs.Ytedjnemijeaeoaa
open Go.RowKit

/-- a list of numbers of the call's own, by its list -/
theorem own_partsL {w : World} {B n : Nat} {v : Value} {L : List Int} (h : w.ownsRow B 2 1 v n (ints L)) (hn : 0 < n) :
    ∃ b cap, v = .slice (some ⟨b, 0, none⟩) n cap ∧ B ≤ b ∧ ∀ k, k < n → w.cell? ⟨b, k, none⟩ = some (.int .i64 (L.getD k 0)) ∧ w.frozen? ⟨b, k, none⟩ = false := by
  obtain ⟨a, cap, b, hv, ho, hB, _⟩ := ow_of_some h hn
  rcases ho with h0 | ⟨ha, hr⟩
  · omega
  · exact ⟨b, cap, by rw [hv, ha], hB, fun k hk => hr k (by omega)⟩
theorem own_setL {w : World} {B n b cap : Nat} {L : List Int} (h : w.ownsRow B 2 1 (.slice (some ⟨b, 0, none⟩) n cap) n (ints L)) (k : Nat) (z : Int) :
    (w.setCell ⟨b, k, none⟩ (.int .i64 z)).ownsRow B 2 1 (.slice (some ⟨b, 0, none⟩) n cap) n (ints (L.set k z)) := by
  obtain ⟨h1, h2⟩ := h
  refine ⟨by rw [ints_length] at h1 ⊢; rw [List.length_set]; exact h1, ?_⟩
  rcases h2 with ⟨hv, _⟩ | ⟨b', cap', cur, hv, hB, hh, hn, hc, hs, ht⟩
  · cases hv
  · cases hv
    refine .inr ⟨b, cap, cur.setIfInBounds k (.int .i64 z), rfl, hB, ?_, hn, hc, by rw [Array.size_setIfInBounds]; exact hs, ?_⟩
    · rw [heap_setCell_same w b k cur 2 _ hh]
    · rw [Array.toList_setIfInBounds, List.take_set, ht]
      unfold ints
      rw [List.map_set]
theorem growL (w : World) {ops : Array Oper} {rest : List Oper} {o : Oper} {a : Act} {Q : Exit → Act → World → Prop} (hgd : o.guard = none) (s x : Operand)
    (ho : o.op = .call { callee := .builtin .append, args := #[s, x], argTypes := #[30, 30] }) (B : Nat) (v : Value) (n : Nat) (L : List Int) (hs : a.eval s = v) (w0 : World) (hown : w.ownsRow B 2 1 v n (ints L))
    (hb : Below B w0 w) (hB : B ≤ w.heap.size) (z : Int) (hx : a.eval x = .slice (some ⟨w.heap.size, 0, none⟩) 1 1) (hn : n ≤ 1048576)
    (h : ∀ v' w', w'.ownsRow B 2 1 v' (n + 1) (ints (L ++ [z])) → Below B w0 w' → w.heap.size < w'.heap.size → wpList Try.prog ops Q rest (a.put o.dst v') w') :
    wpList Try.prog ops Q (o :: rest) a (w.alloc (.cells #[.int .i64 z] 2)) := by
  obtain ⟨ti, hi1, hi2, hi3, hi4⟩ := info2
  exact grow w hgd s x 30 ho B 2 ti (.int .i64 0) 1 8 Try.underlying30 hi1 hi2 hi3 hi4 rfl (by omega) v n L hs w0 hown hb hB [z] 1 1 hx rfl (by unfold maxLen; omega) (by omega) h

end Go.Proofs.Ytedjnemijeaeoaa

namespace Go.Proofs.Ytedjnemijeaeoaa
open Go.RowKit

/-- all blocks but that of v stay -/
def KpV (v : Value) (w w' : World) : Prop := ∀ b, b < w.heap.size → v.ownBlock ≠ some b → w'.heap[b]? = w.heap[b]?
/-- two values lie in blocks apart -/
def Apart (v u : Value) : Prop := ∀ b, v.ownBlock = some b → u.ownBlock ≠ some b
/-- where a value lies that was grown -/
def Moved (v v' : Value) (w : World) : Prop := ∀ b, v'.ownBlock = some b → v.ownBlock = some b ∨ w.heap.size ≤ b
theorem Apart.symm {v u : Value} (h : Apart v u) : Apart u v := fun b hb hv => h b hv hb

theorem owns_lt {w : World} {B n m : Nat} {e : TypeId} {v : Value} {xs : List Value} (h : w.ownsRow B e m v n xs) : ∀ b, v.ownBlock = some b → b < w.heap.size := fun b hb => (h.lt b hb).2
theorem owns_ge {w : World} {B n m : Nat} {e : TypeId} {v : Value} {xs : List Value} (h : w.ownsRow B e m v n xs) : ∀ b, v.ownBlock = some b → B ≤ b := fun b hb => (h.lt b hb).1
theorem owns_mono {w : World} {B B' n m : Nat} {e : TypeId} {v : Value} {xs : List Value} (h : w.ownsRow B e m v n xs) (hB : B' ≤ B) : w.ownsRow B' e m v n xs := by
  obtain ⟨h1, h2⟩ := h
  refine ⟨h1, ?_⟩
  rcases h2 with h2 | ⟨g, cap, cur, hv, hB', hr⟩
  · exact .inl h2
  · exact .inr ⟨g, cap, cur, hv, Nat.le_trans hB hB', hr⟩
theorem owns_keep {w w' : World} {B n m : Nat} {e : TypeId} {v : Value} {xs : List Value} (h : w.ownsRow B e m v n xs) (hk : ∀ b, v.ownBlock = some b → w'.heap[b]? = w.heap[b]?) : w'.ownsRow B e m v n xs := by
  obtain ⟨h1, h2⟩ := h
  refine ⟨h1, ?_⟩
  rcases h2 with h2 | ⟨g, cap, cur, hv, hB, hg, hr⟩
  · exact .inl h2
  · exact .inr ⟨g, cap, cur, hv, hB, (hk g (by rw [hv]; rfl)).trans hg, hr⟩
theorem owns_side {w w' : World} {B n m : Nat} {e : TypeId} {u v : Value} {xs : List Value} (h : w.ownsRow B e m u n xs) (hk : KpV v w w') (ha : Apart u v) : w'.ownsRow B e m u n xs :=
  owns_keep h fun b hb => hk b (owns_lt h b hb) (ha b hb)
theorem Apart.moved {u v v' : Value} {w : World} {B n m : Nat} {e : TypeId} {xs : List Value} (ha : Apart u v) (hm : Moved v v' w) (hu : w.ownsRow B e m u n xs) : Apart u v' := fun b hb hv => by
  rcases hm b hv with h | h
  · exact ha b hb h
  · have := owns_lt hu b hb; omega
theorem Apart.below {u v : Value} {w : World} {B' n' m' : Nat} {e' : TypeId} {xs' : List Value} (hB : ∀ b, u.ownBlock = some b → b < B') (hv : w.ownsRow B' e' m' v n' xs') : Apart u v := fun b hb hb' => by
  have := owns_ge hv b hb'; have := hB b hb; omega
theorem KpV.px {v : Value} {w w' : World} (h : KpV v w w') {a : Option Addr} {n : Nat} {f : Nat → Int} (hp : Px a n f w) (hb : ∀ p, a = some p → v.ownBlock ≠ some p.block) : Px a n f w' := by
  rcases hp with hp | ⟨b, off, ha, hp⟩
  · exact .inl hp
  · refine .inr ⟨b, off, ha, fun k hk => ?_⟩
    have h1 := hp k hk
    have hl := World.block_lt_of_cell? w _ h1
    have e := h b hl (hb _ ha)
    exact (World.cell?_of_block (a := ⟨b, off + k, none⟩) e).trans h1

theorem growM {P : Program} (w : World) {ops : Array Oper} {rest : List Oper} {o : Oper} {a : Act} {Q : Exit → Act → World → Prop} (hgd : o.guard = none) (s x : Operand) (t : TypeId)
    (ho : o.op = .call { callee := .builtin .append, args := #[s, x], argTypes := #[t, t] }) (B : Nat) (e : TypeId) (i : TypeInfo) (z : Value) (size bytes : Nat) (ht : P.underlying t = some (.slice e)) (hi : P.info? e = some i) (hz : i.zero = some z)
    (hsize : i.size = size) (hby : i.bytes = bytes) (hzs : z.cells.size = size) (hsz : 0 < size) (v : Value) (n : Nat) (L : List Int) (hs : a.eval s = v) (w0 : World) (hown : w.ownsRow B e size v n (ints L)) (hb : Below B w0 w) (hB : B ≤ w.heap.size)
    (M : List Int) (m c : Nat) (hx : a.eval x = .slice (some ⟨w.heap.size, 0, none⟩) m c) (hM : M.length = m * size) (hm : 0 < m) (h63 : n + m ≤ maxLen) (hbytes : (n + m) * bytes ≤ 140737488355328)
    (h : ∀ v' w', w'.ownsRow B e size v' (n + m) (ints (L ++ M)) → Below B w0 w' → w.heap.size < w'.heap.size → KpV v w w' → Moved v v' w → wpList P ops Q rest (a.put o.dst v') w') :
    wpList P ops Q (o :: rest) a (w.alloc (.cells (ints M).toArray e)) := by
  have hsw : w.heap.size < (w.alloc (.cells (ints M).toArray e)).heap.size := by simp
  refine wpList_append_lies _ hgd s x t ho B e i z size bytes ht hi hz hsize hby hzs hsz v n (ints L) hs (hown.alloc _) ⟨w.heap.size, 0, none⟩ m c (ints M) hx (by rw [ints_length]; exact hM) (new_cells w (ints M) e) (ints_one M) hm h63 hbytes (Nat.le_trans hB (Nat.le_of_lt hsw)) _ rfl ?_
  intro g cap w' h1 h2 h3 h4
  have hr3 : ∀ q, Value.ownBlock v = some q → B ≤ q := fun q hq => (hown.lt q hq).1
  have hB3 : Below B (w.alloc (.cells (ints M).toArray e)) w' := (Below.refl _ _).grown h2 (Nat.le_trans hB (Nat.le_of_lt hsw)) hr3
  refine h _ w' ?_ ((hb.alloc hB _).trans hB3) (Nat.lt_of_lt_of_le hsw hB3.size) ?_ ?_
  · rw [ints_append]; exact h1
  · intro b hb hv
    rw [h2.block b (Nat.lt_trans hb hsw) (fun e => hv e.symm)]
    exact (bnew w (.cells (ints M).toArray e)).block b hb
  · intro b hb
    cases hb
    rcases h3 with h3 | h3
    · exact .inl h3
    · right; rw [h3]; exact Nat.le_of_lt hsw
theorem growN (w : World) {ops : Array Oper} {rest : List Oper} {o : Oper} {a : Act} {Q : Exit → Act → World → Prop} (hgd : o.guard = none) (s x : Operand)
    (ho : o.op = .call { callee := .builtin .append, args := #[s, x], argTypes := #[30, 30] }) (B : Nat) (v : Value) (n : Nat) (L : List Int) (hs : a.eval s = v) (w0 : World) (hown : w.ownsRow B 2 1 v n (ints L))
    (hb : Below B w0 w) (hB : B ≤ w.heap.size) (z : Int) (hx : a.eval x = .slice (some ⟨w.heap.size, 0, none⟩) 1 1) (hn : n ≤ 1048576)
    (h : ∀ v' w', w'.ownsRow B 2 1 v' (n + 1) (ints (L ++ [z])) → Below B w0 w' → w.heap.size < w'.heap.size → KpV v w w' → Moved v v' w → wpList Try.prog ops Q rest (a.put o.dst v') w') :
    wpList Try.prog ops Q (o :: rest) a (w.alloc (.cells #[.int .i64 z] 2)) := by
  obtain ⟨ti, hi1, hi2, hi3, hi4⟩ := info2
  exact growM w hgd s x 30 ho B 2 ti (.int .i64 0) 1 8 Try.underlying30 hi1 hi2 hi3 hi4 rfl (by omega) v n L hs w0 hown hb hB [z] 1 1 hx rfl (by omega) (by unfold maxLen; omega) (by omega) h

end Go.Proofs.Ytedjnemijeaeoaa

namespace Go.Proofs.Ytedjnemijeaeoaa
open Go.RowKit

/-- a world that came out of another one by making memory -/
def Up (wb : World) : Type := { w' : World // Below wb.heap.size wb w' }
def Up.w {wb : World} (p : Up wb) : World := p.1
theorem Up.below {wb : World} (p : Up wb) : Below wb.heap.size wb p.w := p.2
theorem Up.cell {wb : World} (p : Up wb) {x : Addr} {v : Value} (h : wb.cell? x = some v) : p.w.cell? x = some v := (p.below.cell (World.block_lt_of_cell? _ _ h)).trans h
theorem up_ne (wb : World) : Nonempty (Up wb) := ⟨⟨wb, Below.refl _ _⟩⟩
theorem region_up {P : Program} {id : Nat} {Q : Exit → Act → World → Prop} {a : Act} {wb : World} {l : List Oper} (hm : P.follows .mixedOrders = true) (hB : Region.lexB .any l.toArray = true)
    (h : wpQuiet P l.toArray (fun w' => ∃ p : Up wb, w' = p.w) (fun a' => ∀ w', (∃ p : Up wb, w' = p.w) → Q .normal a' w') l a) : (Code.region id l.toArray true).wp P Q a wb :=
  wp_region_quiet (C := fun w' => ∃ p : Up wb, w' = p.w) hm hB ⟨⟨wb.drew, (Below.refl _ _).drew⟩, rfl⟩ (by simpa using h)
/-- a callee that makes memory alone -/
theorem calls_up {P : Program} {f : FuncId} {args : Array Value} {wb : World} {p : Up wb} {v : Value}
    (h : Calls P f args p.w fun e w' => e = .returned v ∧ Below p.w.heap.size p.w w') : Calls P f args p.w fun e w'' => e = .returned v ∧ ∃ q : Up wb, w'' = q.w :=
  h.mono fun _ w' ⟨he, hb⟩ => ⟨he, ⟨w', bnext p.below (Nat.le_refl _) hb⟩, rfl⟩

end Go.Proofs.Ytedjnemijeaeoaa

namespace Go.Proofs.Ytedjnemijeaeoaa
open Go.RowKit

theorem Bx.lt {b : Nat} {v : Value} {vs : List Value} {w : World} (h : Bx b (v :: vs) w) : b < w.heap.size := World.block_lt_of_cell? w ⟨b, 0, none⟩ (h 0 v rfl).1
/-- a box out of what a law keeps in hand -/
theorem St.bxAt {w0 : World} {L : List BoxT} {O : List OwnT} {w : World} (h : St w0 L O w) (i : Nat) {b : Nat} {vs : List Value} (hm : L[i]? = some (b, vs)) : Bx b vs w := fun j _ hv => ⟨h.cell i hm j hv, h.free i hm j hv⟩
/-- what stays: the box that operation A made is empty until operation S has run -/
def bR (A S : Nat) (z : Value) (zs : List Value) (wB : World) (u : Nat → Value) (w : World) : Prop :=
  Below wB.heap.size wB w ∧ ∀ M, u A = .pointer (some ⟨M, 0, none⟩) → wB.heap.size ≤ M → u S ≠ undef ∨ Bx M (z :: zs) w
/-- what each operation leaves -/
def bG (A S : Nat) (wB : World) (G : Nat → Value → Prop) (P : Nat → World → Prop) (j : Nat) (u : Nat → Value) (w : World) : Prop :=
  G j (u j) ∧ (j = A → ∃ M, u A = .pointer (some ⟨M, 0, none⟩) ∧ wB.heap.size ≤ M) ∧ (j = S → ∃ M, u A = .pointer (some ⟨M, 0, none⟩) ∧ wB.heap.size ≤ M ∧ P M w)
theorem bR_up {A S : Nat} {z : Value} {zs : List Value} {wB : World} {u : Nat → Value} {w w' : World} (h : bR A S z zs wB u w) (hb : Below w.heap.size w w') (i : Nat) (hA : A ≠ i) (hS : S ≠ i) (v : Value) : bR A S z zs wB (upU u i v) w' := by
  refine ⟨h.1.trans (hb.mono h.1.size), fun M hM hMB => ?_⟩
  rw [upU_other u v hA] at hM
  rw [upU_other u v hS]
  rcases h.2 M hM hMB with h1 | h1
  · exact .inl h1
  · exact .inr (h1.below hb h1.lt)
theorem bG_up {A S : Nat} {wB : World} {G : Nat → Value → Prop} {P : Nat → World → Prop} {u : Nat → Value} {w w' : World} (hP : ∀ M, P M w → P M w') (i : Nat) (hA : A ≠ i) (v : Value) (j : Nat) (hj : j ≠ i) (h : bG A S wB G P j u w) : bG A S wB G P j (upU u i v) w' := by
  obtain ⟨h1, h3, h4⟩ := h
  refine ⟨by rw [upU_other u v hj]; exact h1, fun e => ?_, fun e => ?_⟩
  · rw [upU_other u v hA]; exact h3 e
  · obtain ⟨M, a1, a2, a3⟩ := h4 e
    exact ⟨M, by rw [upU_other u v hA]; exact a1, a2, hP M a3⟩
/-- a new box -/
theorem bR_al {A S : Nat} {z : Value} {zs : List Value} {wB : World} {u : Nat → Value} {w : World} (h : bR A S z zs wB u w) {o : Obj} (ho : Bx w.heap.size (z :: zs) (w.alloc o)) : bR A S z zs wB (upU u A (.pointer (some ⟨w.heap.size, 0, none⟩))) (w.alloc o) := by
  refine ⟨h.1.trans ((bnew w o).mono h.1.size), fun M hM _ => ?_⟩
  rw [upU_same] at hM
  cases hM
  exact .inr ho
theorem bG_al {A S : Nat} {wB : World} {G : Nat → Value → Prop} {P : Nat → World → Prop} {u : Nat → Value} {w w' : World} {v : Value} (j : Nat) (hj : j ≠ A) (hjS : j ≠ S) (h : bG A S wB G P j u w) : bG A S wB G P j (upU u A v) w' := by
  obtain ⟨h1, h3, h4⟩ := h
  exact ⟨by rw [upU_other _ _ hj]; exact h1, fun e => absurd e hj, fun e => absurd e hjS⟩
theorem bG_ptr {A S : Nat} {wB : World} {G : Nat → Value → Prop} {P : Nat → World → Prop} {u : Nat → Value} {w : World} (hAS : A ≠ S) (hG : ∀ v, G A v) {M : Nat} (hM : wB.heap.size ≤ M) : bG A S wB G P A (upU u A (.pointer (some ⟨M, 0, none⟩))) w :=
  ⟨hG _, fun _ => ⟨M, upU_same _ _ _, hM⟩, fun e => absurd e hAS⟩
/-- the box is filled -/
theorem bR_st {A S : Nat} {z : Value} {zs : List Value} {wB : World} {u : Nat → Value} {w : World} (h : Below wB.heap.size wB w) {v : Value} (hv : v ≠ undef) : bR A S z zs wB (upU u S v) w :=
  ⟨h, fun _ _ _ => .inl (by rw [upU_same]; exact hv)⟩
theorem bG_st {A S : Nat} {wB : World} {G : Nat → Value → Prop} {P : Nat → World → Prop} {u : Nat → Value} {w w' : World} {v : Value} (hAS : A ≠ S) (j : Nat) (hj : j ≠ S) (h : bG A S wB G P j u w) : bG A S wB G P j (upU u S v) w' := by
  obtain ⟨h1, h3, h4⟩ := h
  exact ⟨by rw [upU_other _ _ hj]; exact h1, fun e => by rw [upU_other _ _ hAS]; exact h3 e, fun e => absurd e hj⟩
theorem bG_done {A S : Nat} {wB : World} {G : Nat → Value → Prop} {P : Nat → World → Prop} {u : Nat → Value} {w : World} {v : Value} (hAS : A ≠ S) (hG : ∀ v, G S v) {M : Nat} (h : u A = .pointer (some ⟨M, 0, none⟩)) (hM : wB.heap.size ≤ M) (hP : P M w) : bG A S wB G P S (upU u S v) w :=
  ⟨hG _, fun e => absurd e.symm hAS, fun _ => ⟨M, (upU_other _ _ hAS).trans h, hM, hP⟩⟩
/-- a value is told -/
theorem bG_val {A S : Nat} {wB : World} {G : Nat → Value → Prop} {P : Nat → World → Prop} {u : Nat → Value} {w : World} (j : Nat) (hA : j ≠ A) (hS : j ≠ S) {v : Value} (h : G j v) : bG A S wB G P j (upU u j v) w :=
  ⟨by rw [upU_same]; exact h, fun e => absurd e hA, fun e => absurd e hS⟩

/-- what each operation leaves, where none of them writes -/
def hF (H : Nat → Value → World → Prop) (j : Nat) (u : Nat → Value) (w : World) : Prop := H j (u j) w
theorem hF_up {H : Nat → Value → World → Prop} {u : Nat → Value} {w w' : World} (hH : ∀ j v, H j v w → H j v w') (i : Nat) (v : Value) (j : Nat) (hj : j ≠ i) (h : hF H j u w) : hF H j (upU u i v) w' := by
  show H j (upU u i v j) w'
  rw [upU_other u v hj]
  exact hH _ _ h
theorem hF_val {H : Nat → Value → World → Prop} {u : Nat → Value} {w : World} (j : Nat) {v : Value} (h : H j v w) : hF H j (upU u j v) w := by
  show H j (upU u j v j) w
  rw [upU_same]
  exact h

end Go.Proofs.Ytedjnemijeaeoaa

namespace Go.Proofs.Ytedjnemijeaeoaa
open Go.RowKit

/-- the numbers of a list of shapes -/
def gSh (L : List Int) (q : Nat) : Int := L.getD q 0
/-- the first j shapes are right and small -/
def GdS (L : List Int) (j : Nat) : Prop := L.length = j * 7 ∧ ∀ q, q < j → shG (gSh L) q = true ∧ (gSh L (q * 7 + 6)).natAbs ≤ 399
theorem gSh_app {L X : List Int} {q : Nat} (h : q < L.length) : gSh (L ++ X) q = gSh L q := by
  unfold gSh
  rw [List.getD, List.getD, List.getElem?_append_left h]
theorem gSh_new {L X : List Int} {q : Nat} : gSh (L ++ X) (L.length + q) = gSh X q := by
  unfold gSh
  rw [List.getD, List.getD, List.getElem?_append_right (Nat.le_add_right _ _), Nat.add_sub_cancel_left]
theorem GdS.nil : GdS [] 0 := ⟨rfl, fun _ hq => absurd hq (Nat.not_lt_zero _)⟩
theorem GdS.step {L : List Int} {j : Nat} (h : GdS L j) {x0 x1 x2 x3 x4 x5 x6 : Int} (hs : shapeB x0 x1 x2 x3 x4 x5 x6 = true) (hv : x6.natAbs ≤ 399) : GdS (L ++ [x0, x1, x2, x3, x4, x5, x6]) (j + 1) := by
  obtain ⟨hl, hq⟩ := h
  refine ⟨by simp [hl]; omega, fun q hlt => ?_⟩
  by_cases e : q < j
  · obtain ⟨h1, h2⟩ := hq q e
    have e6 : ∀ i, i < 7 → gSh (L ++ [x0, x1, x2, x3, x4, x5, x6]) (q * 7 + i) = gSh L (q * 7 + i) := fun i hi => gSh_app (by omega)
    unfold shG at h1 ⊢
    rw [show q * 7 = q * 7 + 0 from rfl] at h1 ⊢
    rw [e6 6 (by omega)]
    refine ⟨?_, h2⟩
    have z0 := e6 0 (by omega)
    rw [show q * 7 + 0 + 1 = q * 7 + 1 from rfl, show q * 7 + 0 + 2 = q * 7 + 2 from rfl, show q * 7 + 0 + 3 = q * 7 + 3 from rfl, show q * 7 + 0 + 4 = q * 7 + 4 from rfl, show q * 7 + 0 + 5 = q * 7 + 5 from rfl, show q * 7 + 0 + 6 = q * 7 + 6 from rfl] at h1 ⊢
    rw [z0, e6 1 (by omega), e6 2 (by omega), e6 3 (by omega), e6 4 (by omega), e6 5 (by omega)]
    exact h1
  · obtain rfl : q = j := by omega
    have e6 : ∀ i, gSh (L ++ [x0, x1, x2, x3, x4, x5, x6]) (q * 7 + i) = gSh [x0, x1, x2, x3, x4, x5, x6] i := fun i => by rw [← hl]; exact gSh_new
    have z0 := e6 0
    rw [Nat.add_zero] at z0
    unfold shG
    rw [z0, e6 1, e6 2, e6 3, e6 4, e6 5, e6 6]
    exact ⟨hs, hv⟩
theorem okS_of {g : Nat → Int} {j : Nat} (hj : j ≤ 8) (h : ∀ q, q < j → shG g q = true) : okS g j = true := by
  have ha : allG (shG g) j = true := by
    clear hj
    induction j with
    | zero => rfl
    | succ j ih => unfold allG; rw [ih (fun q hq => h q (by omega)), h j (by omega)]; rfl
  unfold okS
  rw [ha]
  simp
  omega
theorem dens_small {g : Nat → Int} (x y : Int) : ∀ {j : Nat}, (∀ q, q < j → (g (q * 7 + 6)).natAbs ≤ 399) → (dens g x y j).natAbs ≤ 399 * j
  | 0, _ => Nat.le_refl _
  | j + 1, h => by
    have h1 := dens_small x y (j := j) fun q hq => h q (by omega)
    have h2 := h j (by omega)
    unfold dens
    split <;> omega
/-- the side that the law takes -/
def sideL : Nat → Nat
  | 0 => 2
  | 1 => 3
  | 2 => 5
  | _ => 7
theorem sideL_pri (k : Nat) : 2 ≤ sideL k ∧ sideL k ≤ 7 ∧ priB (sideL k : Nat) = true := by
  unfold sideL
  split <;> exact ⟨by decide, by decide, by decide⟩
theorem alW_of {f : Nat → Int} {lo hi : Int} : ∀ {n : Nat}, (∀ k, k < n → lo ≤ f k ∧ f k ≤ hi) → alW f lo hi n = true
  | 0, _ => rfl
  | n + 1, h => alW_step (alW_of fun k hk => h k (by omega)) (by have := h n (by omega); unfold inB; simp; omega)
theorem allB_of' {f : Nat → Int} : ∀ {n : Nat}, (∀ k, k < n → -1000000000 ≤ f k ∧ f k ≤ 1000000000) → allB f n = true
  | 0, _ => rfl
  | n + 1, h => allB_step (allB_of' fun k hk => h k (by omega)) (by have := h n (by omega); unfold inB; simp; omega)
/-- what is painted is an image of tones -/
theorem pict_tone {L : List Int} {j : Nat} (hj : j ≤ 8) (h : GdS L j) (s : Nat) :
    paintB (gSh L) j (sideL s : Nat) (sideL s : Nat) = true ∧ toneB (sideL s : Nat) (sideL s : Nat) (sideL s * sideL s) (pict (gSh L) (sideL s : Nat) j) = true := by
  obtain ⟨p1, p2, hp⟩ := sideL_pri s
  generalize sideL s = p at *
  have hb : ∀ k, k < p * p → -4095 ≤ pict (gSh L) (p : Int) j k ∧ pict (gSh L) (p : Int) j k ≤ 4095 := fun k _ => by
    have := dens_small (g := gSh L) ((k : Int) % (p : Int)) ((k : Int) / (p : Int)) (j := j) fun q hq => (h.2 q hq).2
    unfold pict
    omega
  have hi : inB (p : Int) 1 64 = true := by unfold inB; simp; omega
  refine ⟨?_, ?_⟩
  · unfold paintB
    rw [hi, okS_of hj fun q hq => (h.2 q hq).1]
    rfl
  · unfold toneB okB
    rw [hi, allB_of' fun k hk => by have := hb k hk; omega, alW_of hb, hp, decide_eq_true (by simp)]
    simp

end Go.Proofs.Ytedjnemijeaeoaa

namespace Go.Proofs.Ytedjnemijeaeoaa
open Go.RowKit

theorem ph_facts {P : Int} {N : Nat} {F : Nat → Int} (ht : toneB P P N F = true) {LN : Nat} {LF : Nat → Int} (hLN : lnN P P N F = LN) (hLF : lnF P F = LF) :
    frB LN LF = true ∧ frW LN LF = P ∧ frN LN LF = N ∧ (∀ k, k < N → frX (frP LN) LF k = F k) ∧ (0 < N ∧ N ≤ 961 ∧ 0 < LN ∧ LN ≤ 992) ∧ dcB P P N (fun _ => 0) LN LF 3 = true ∧ (∀ r, dcT P.toNat LN LF (fun _ => 0) (r + 1) ≤ dcT P.toNat LN LF (fun _ => 0) r) ∧ msV P P N (fun _ => 0) LN LF = dcT P.toNat LN LF (fun _ => 0) 0 := by
  obtain ⟨-, h1, h2, h3, h4, h5, h6, h7, h8, h9, -, -⟩ := lines_back ht
  obtain ⟨p, hW, -, hn, p1, p2, hP, hf⟩ := toneB_parts ht
  have hN := hLN
  have hF := hLF
  unfold lnN at hN
  rw [if_pos ht] at hN
  rw [hLN] at h3 h4 h6 h7 h8 h9
  rw [hLF] at h5 h6 h9
  subst hW
  rw [Int.toNat_natCast] at hN
  have ht0 : toneB (p : Int) (p : Int) N (fun _ => 0) = true := by
    unfold toneB okB at ht ⊢
    simp only [Bool.and_eq_true] at ht ⊢
    exact ⟨⟨⟨ht.1.1.1, ht.1.1.2⟩, allB_of' fun _ _ => by omega⟩, ht.2.1, ht.2.2.1, alW_of fun _ _ => by omega⟩
  have hms : msB (p : Int) (p : Int) N (fun _ => 0) LN LF = true := by
    unfold msB lsB
    rw [ht0, Int.toNat_natCast, decide_eq_true hN.symm, alW_of fun k _ => by have := h5 k; omega]
    rfl
  refine ⟨h6, ?_, ?_, h9, ⟨h1, h2, h3, h4⟩, ?_, ?_, ?_⟩
  · unfold frW; rw [if_pos h6]; exact h7
  · unfold frN; rw [if_pos h6]; exact h8
  · unfold dcB; rw [hms]; rfl
  · intro r
    rw [Int.toNat_natCast]
    exact dcT_le (by omega) hN.symm LF (fun _ _ => by omega) r
  · obtain ⟨-, q, hq, -, -, -, -, hl, -⟩ := msB_parts hms
    obtain rfl : p = q := by omega
    unfold msV
    rw [if_pos hms, hl, Int.toNat_natCast]
    rfl

end Go.Proofs.Ytedjnemijeaeoaa

namespace Go.Proofs.Ytedjnemijeaeoaa
open Go.RowKit

theorem own_pxS7 {w : World} {B n : Nat} {e : TypeId} {a : Option Addr} {c : Nat} {L : List Int} (h : w.ownsRow B e 7 (.slice a n c) n (ints L)) : Px a (n * 7) (gSh L) w := by
  obtain ⟨hlen, ⟨h1, h2⟩ | ⟨g, cap', cur, h1, _⟩⟩ := id h
  · cases h1
    exact .inl (by omega)
  · cases h1
    rw [ints_length] at hlen
    refine .inr ⟨g, 0, rfl, fun k hk => ?_⟩
    rw [Nat.zero_add, h.cellAt k hk, ints_at _ _ (by omega)]
    rfl

theorem growCG (w : World) {ops : Array Oper} {rest : List Oper} {o : Oper} {a : Act} {Q : Exit → Act → World → Prop} (hgd : o.guard = none) (s x : Operand) (t e : TypeId) (sz by8 : Nat) (z : Value) (ti : TypeInfo)
    (ht : Try.prog.underlying t = some (.slice e)) (hi1 : Try.prog.info? e = some ti) (hi2 : ti.zero = some z) (hi3 : ti.size = sz) (hi4 : ti.bytes = by8) (hzs : z.cells.size = sz) (h0 : 0 < sz) (h8 : by8 ≤ 1000)
    (ho : o.op = .call { callee := .builtin .append, args := #[s, x], argTypes := #[t, t] }) (B : Nat) (v : Value) (n : Nat) (L : List Int) (hs : a.eval s = v) (w0 : World) (hown : w.ownsRow B e sz v n (ints L))
    (hb : Below B w0 w) (hB : B ≤ w.heap.size) (ad : Option Addr) (m c : Nat) (f : Nat → Int) (hx : a.eval x = .slice ad m c) (hnil : ad = none → m = 0 ∧ c = 0) (hpx : Px ad (m * sz) f w) (hn : n + m ≤ 100000)
    (h : ∀ v' w', w'.ownsRow B e sz v' (n + m) (ints (L ++ fl f (m * sz))) → Below B w0 w' → wpList Try.prog ops Q rest (a.put o.dst v') w') :
    wpList Try.prog ops Q (o :: rest) a w := by
  cases ad with
  | none =>
    obtain ⟨rfl, rfl⟩ := hnil rfl
    refine wpList_append_own_none hgd s x t ho B e ti sz ht hi1 v n (ints L) hs hown hx ?_
    refine h v w ?_ hb
    rw [Nat.zero_mul]
    simpa [fl] using hown
  | some ad =>
    refine wpList_append_own _ hgd s x t ho B e ti z sz by8 ht hi1 hi2 hi3 hi4 hzs h0 v n (ints L) hs hown ad m c (ints (fl f (m * sz))) hx (by rw [ints_length, fl_len]) ?_ (ints_one _) (by unfold maxLen; omega) (Nat.le_trans (Nat.mul_le_mul hn h8) (by omega)) hB ?_
    · intro j u hu
      have hj : j < m * sz := by
        have := (List.getElem?_eq_some_iff.1 hu).1
        rwa [ints_length, fl_len] at this
      rcases hpx with h0 | ⟨b, off, ha, hc⟩
      · omega
      · cases ha
        rw [show (⟨b, off, none⟩ : Addr).add j = ⟨b, off + j, none⟩ by unfold Addr.add; split <;> simp_all, hc j hj, ← hu, ints_at _ _ (by rw [fl_len]; exact hj), fl_at _ _ _ hj]
    · intro v' w' h1 h2 _
      have hr3 : ∀ q, Value.ownBlock v = some q → B ≤ q := fun q hq => (hown.lt q hq).1
      have hB3 : Below B w w' := (Below.refl _ _).grown h2 hB hr3
      refine h v' w' ?_ (hb.trans hB3)
      rw [ints_append]; exact h1
theorem own_isC {w : World} {B n m : Nat} {e : TypeId} {v : Value} {xs : List Value} (h : w.ownsRow B e m v n xs) : ∃ a cap, v = .slice a n cap ∧ n ≤ cap := by
  obtain ⟨_, ⟨rfl, rfl⟩ | ⟨g, cap, cur, hv, _, _, hc, _⟩⟩ := h
  · exact ⟨none, 0, rfl, Nat.le_refl _⟩
  · exact ⟨_, cap, hv, hc⟩
theorem own_pxC {w : World} {B n : Nat} {a : Option Addr} {c : Nat} {L : List Int} (h : w.ownsRow B 2 1 (.slice a n c) n (ints L)) : Px a n (fun k => L.getD k 0) w := by
  by_cases h0 : 0 < n
  · obtain ⟨b, c', hv, -, hc⟩ := own_partsL h h0
    cases hv
    exact .inr ⟨b, 0, rfl, fun k hk => by rw [Nat.zero_add]; exact (hc k hk).1⟩
  · exact .inl (by omega)
theorem Px.congrC {a : Option Addr} {n : Nat} {f g : Nat → Int} {w : World} (h : Px a n f w) (e : ∀ k, k < n → f k = g k) : Px a n g w := by
  rcases h with h | ⟨b, off, ha, hc⟩
  · exact .inl h
  · exact .inr ⟨b, off, ha, fun k hk => by rw [← e k hk]; exact hc k hk⟩
theorem made_zero (n : Nat) (w : World) : Px (some ⟨w.heap.size, 0, none⟩) n (fun _ => 0) (w.alloc (.cells (madeCells #[.int .i64 0] n) 2)) := (row_new n w).px
/-- what each operation leaves, where none writes: a value, and what is told of it -/
def lH (G : Nat → Value → Prop) (pv : Nat → Option (Value → World → Prop)) (j : Nat) (v : Value) (w : World) : Prop := G j v ∧ ∀ p, pv j = some p → p v w
def StabL (p : Value → World → Prop) : Prop := ∀ v w w', Below w.heap.size w w' → p v w → p v w'
theorem lH_up {G : Nat → Value → Prop} {pv : Nat → Option (Value → World → Prop)} (hst : ∀ j p, pv j = some p → StabL p) {w w' : World} (hb : Below w.heap.size w w') : ∀ j v, lH G pv j v w → lH G pv j v w' := fun j v ⟨h1, h2⟩ => ⟨h1, fun p hp => hst j p hp v _ _ hb (h2 p hp)⟩
def pixP (W H : Int) (n : Nat) (f : Nat → Int) : Value → World → Prop := fun v w => ∃ a k, v = im W H a n k ∧ Px a n f w
def lstP (n : Nat) (f : Nat → Int) : Value → World → Prop := fun v w => ∃ a k, v = .slice a n k ∧ Px a n f w
theorem pixP_st (W H : Int) (n : Nat) (f : Nat → Int) : StabL (pixP W H n f) := fun _ _ _ hb ⟨a, k, e, h⟩ => ⟨a, k, e, h.below hb⟩
theorem lstP_st (n : Nat) (f : Nat → Int) : StabL (lstP n f) := fun _ _ _ hb ⟨a, k, e, h⟩ => ⟨a, k, e, h.below hb⟩
theorem Bx.im3 {M : Nat} {a b c : Value} {w : World} (h : Bx M [a, b, c] w) : w.cell? ⟨M, 0, none⟩ = some a ∧ w.cell? ⟨M, 1, none⟩ = some b ∧ w.cell? ⟨M, 2, none⟩ = some c := ⟨(h 0 _ rfl).1, (h 1 _ rfl).1, (h 2 _ rfl).1⟩
theorem step_guardV {P : Program} {ops : Array Oper} {o : Oper} {a : Act} {w : World} {K : Act → World → Prop} {Q : Exit → Act → World → Prop} {E : Prop} {j : Nat} {b : Bool} {d : Tmp} {o' : Oper} (hg : o.guard = some (j, b)) (ho : ops[j]? = some o') (hd : o'.dst = some d) (hv : a.tmps[d]?.getD undef = .bool b) (h : Oper.wp P o a w K Q) : if Region.wanted o (yielded ops a.tmps) = true then Oper.wp P o a w K Q else E := by
  refine step_guard hg ho hd ?_ hv h
  by_cases hl : d < a.tmps.size
  · exact hl
  · rw [Array.getElem?_eq_none (Nat.le_of_not_lt hl)] at hv
    simp [undef] at hv
theorem Px.belowG {g n B : Nat} {f : Nat → Int} {w w' : World} (h : Px (some ⟨g, 0, none⟩) n f w) (hb : Below B w w') (hg : g < B) : Px (some ⟨g, 0, none⟩) n f w' := by
  rcases h with h | ⟨b, off, ha, hc⟩
  · exact .inl h
  · cases ha
    exact .inr ⟨_, _, rfl, fun k hk => (hb.cell (p := ⟨g, 0 + k, none⟩) hg).trans (hc k hk)⟩

set_option maxRecDepth 100000 in
set_option maxHeartbeats 16000000 in
theorem fnLinesOfPhantom_walk (c0 : Option Addr) (n0 k0 : Nat) (w : World) (hy0 : Bytes c0 n0 w) :
    Calls Try.prog 3 #[.slice c0 n0 k0] w fun e w' => e = .returned (.bool true) ∧ Below w.heap.size w w' := by
  have g1 := big_any c0 n0 k0
  have HB1 := hide hy0
  clear hy0
  obtain ⟨ti, hi1, hi2, hi3, hi4⟩ := info33
  have HI1 := hide hi1
  clear hi1
  go_enter Try.func3, Try.ntmps3
  go_wp2_with fail
  refine (g1 _).mono ?_
  rintro e w1 ⟨rfl, rfl⟩
  cases hd1 : decide (1048576 < n0)
  case true =>
    clear hd1
    go_wp2_with fail
    go_ret
    exact ⟨rfl, Below.refl _ _⟩
  have HN0 : Hid (n0 ≤ 1048576) := by show _ ≤ _; have := of_decide_eq_false hd1; omega
  clear hd1 g1
  have cP := drawPaint_any c0 n0 k0 w1 HB1.out
  go_wp2_with fail
  refine cP.mono ?_
  rintro e w3 ⟨gb, c, n, L, W, H, rfl, hn, hown, hb, hlt⟩
  have HPX : Hid (Px (some ⟨gb, 0, none⟩) (n * 7) (gSh L) w3) := own_pxS7 hown
  have HW3 := hide hb
  have HN : Hid (n ≤ 66) := hn
  have HGB : Hid (n = 0 ∨ gb < w3.heap.size) := by
    by_cases h0 : n = 0
    · exact .inl h0
    · obtain ⟨b, off, e, hl⟩ := HPX.out.lt (by omega)
      cases e
      exact .inr hl
  clear cP hown hb hlt hn HB1
  go_upto_region 5 with fail
  have HOW0 : Hid ((w3.alloc (.cells #[] 28)).ownsRow w3.heap.size 28 7 (.slice (some ⟨w3.heap.size, 0, none⟩) 0 0) 0 (ints []) ∧ Below w3.heap.size w3 (w3.alloc (.cells #[] 28)) ∧ w3.heap.size < (w3.alloc (.cells #[] 28)).heap.size) := ⟨World.ownsRow_lit w3 #[] 0 (Nat.le_refl _) (by unfold maxLen; omega) rfl, bnew _ _, by simp⟩
  have HPX4 := hide (HPX.out.below HOW0.out.2.1)
  have HW4 := hide (bnext HW3.out (Nat.le_refl _) HOW0.out.2.1)
  generalize hw4 : w3.alloc (.cells #[] 28) = w4 at *
  clear hw4 HPX
  obtain ⟨B, hB⟩ : ∃ B, B = w3.heap.size := ⟨_, rfl⟩
  rw [← hB] at HOW0 ⊢
  have HBE : Hid (B = w3.heap.size) := hB
  clear hB
  go_wp2_with fail
  go_loopw [6, 7] (fun v i wr => ∃ (k j : Nat) (M : List Int), i = .int .i64 k ∧ k ≤ n ∧ j ≤ 8 ∧ GdS M j ∧ wr.ownsRow B 28 7 v j (ints M) ∧ Below B w4 wr ∧ B < wr.heap.size ∧ Px (some ⟨gb, 0, none⟩) (n * 7) (gSh L) wr) (fun _ i _ => n - (intOf i).toNat)
  case atStart => exact ⟨0, 0, [], rfl, by omega, by omega, GdS.nil, HOW0.out.1, Below.refl _ _, HOW0.out.2.2, HPX4.out⟩
  case round =>
    obtain ⟨k, j, M, rfl, hk, hj, hg, ho, hb, hlt, hp⟩ := hrel
    have HG := hide hg
    have HO := hide ho
    have HB := hide hb
    have HLt := hide hlt
    have HP := hide hp
    clear hg ho hb hlt hp HPX4 HOW0
    obtain ⟨ao, co, hv⟩ := lenOf_owns HO.out
    subst hv
    go_upto_region 6 with fail
    go_cut [34] (fun s wc => s = .bool (decide (k < n ∧ j < 8)) ∧ wr = wc)
    case first =>
      by_cases h1 : k < n
      · have hki : (k : Int) < (n : Int) := by omega
        by_cases h2 : j < 8
        · have hji : (j : Int) < 8 := by omega
          go_wp2_with fail
          go_meet
          exact ⟨by simp [h1, h2], rfl⟩
        · have hji : ¬ (j : Int) < 8 := by omega
          go_wp2_with fail
          go_meet
          exact ⟨by simp [h2], rfl⟩
      · have hki : ¬ (k : Int) < (n : Int) := by omega
        go_wp2_with fail
        go_meet
        exact ⟨by simp [h1], rfl⟩
    case rest =>
    obtain ⟨rfl, hw⟩ := hcut
    subst hw
    by_cases hkn : k < n ∧ j < 8
    · rw [decide_eq_true hkn]
      obtain ⟨hkn, hj8⟩ := hkn
      have hki : (k : Int) < (n : Int) := by omega
      have hji : (j : Int) < 8 := by omega
      have hjw : IntKind.i64.wrap ((k : Int) + 1) = (k : Int) + 1 := by have := HN.out; rw [IntKind.wrap_i64]; omega
      have HMe : Hid (n - (k + 1) < n - k) := by show _ < _; omega
      have HJ : Hid (k + 1 ≤ n ∧ j + 1 ≤ 8) := by show _ ∧ _; omega
      obtain ⟨b', o', he, hbl, q0, q1, q2, q3, q4, q5, q6⟩ := HP.out.seven hkn
      cases he
      have cS := fun (x0 x1 x2 x3 x4 x5 x6 : Int) wz => specShape_any x0 x1 x2 x3 x4 x5 x6 wz
      generalize gSh L (k * 7) = x0 at *
      generalize gSh L (k * 7 + 1) = x1 at *
      generalize gSh L (k * 7 + 2) = x2 at *
      generalize gSh L (k * 7 + 3) = x3 at *
      generalize gSh L (k * 7 + 4) = x4 at *
      generalize gSh L (k * 7 + 5) = x5 at *
      generalize gSh L (k * 7 + 6) = x6 at *
      simp only [Nat.zero_add] at q0 q1 q2 q3 q4 q5 q6
      go_upto_region 9 with fail
      have hba := bnew wr (.cells #[.int .i64 x0, .int .i64 x1, .int .i64 x2, .int .i64 x3, .int .i64 x4, .int .i64 x5, .int .i64 x6] 28)
      have HBX := hide (Bx.new [.int .i64 x0, .int .i64 x1, .int .i64 x2, .int .i64 x3, .int .i64 x4, .int .i64 x5, .int .i64 x6] 28 wr)
      have HOA := hide (owns_keep HO.out (w' := wr.alloc (.cells #[.int .i64 x0, .int .i64 x1, .int .i64 x2, .int .i64 x3, .int .i64 x4, .int .i64 x5, .int .i64 x6] 28)) fun b hb => hba.block b (owns_lt HO.out b hb))
      have HBA := hide (HB.out.trans (hba.mono (Nat.le_of_lt HLt.out)))
      have HPA := hide (HP.out.below hba)
      have HLA : Hid (B < wr.heap.size ∧ (∀ b, Value.ownBlock (.slice ao j co) = some b → b < wr.heap.size) ∧ gb < wr.heap.size) := ⟨HLt.out, owns_lt HO.out, hbl⟩
      clear hba HO HB HP HLt q0 q1 q2 q3 q4 q5 q6 hbl
      have hsa : wr.heap.size < (wr.alloc (.cells #[.int .i64 x0, .int .i64 x1, .int .i64 x2, .int .i64 x3, .int .i64 x4, .int .i64 x5, .int .i64 x6] 28)).heap.size := by simp
      generalize hwa : wr.alloc (.cells #[.int .i64 x0, .int .i64 x1, .int .i64 x2, .int .i64 x3, .int .i64 x4, .int .i64 x5, .int .i64 x6] 28) = wa at *
      clear hwa
      generalize wr.heap.size = q at *
      have HSA := hide hsa
      clear hsa
      obtain ⟨y6, e6⟩ := HBX.out 6 _ rfl
      have t1 := Int.tmod_lt_of_pos x6 (show (0 : Int) < 400 by omega)
      have t2 := Int.lt_tmod_of_pos x6 (show (0 : Int) < 400 by omega)
      obtain ⟨z6, hz6⟩ : ∃ z, x6.tmod 400 = z := ⟨_, rfl⟩
      rw [hz6] at t1 t2
      have wz6 : IntKind.i64.wrap z6 = z6 := by rw [IntKind.wrap_i64]; omega
      have hn400 : ¬ ((400 : Int) = 0) := by omega
      have HZ6 : Hid (z6.natAbs ≤ 399) := by show _ ≤ _; omega
      clear t1 t2
      have hkq : Kept q wa (wa.setCell ⟨q, 6, none⟩ (.int .i64 z6)) := (Kept.refl q wa).setCell (a := ⟨q, 6, none⟩) rfl _
      have HBX2 := hide (HBX.out.set 6 (.int .i64 z6))
      have HOB := hide (owns_keep HOA.out (w' := wa.setCell ⟨q, 6, none⟩ (.int .i64 z6)) fun b hb => hkq.block b (owns_lt HOA.out b hb) (by have := HLA.out.2.1 b hb; omega))
      have HBB : Hid (Below B w4 (wa.setCell ⟨q, 6, none⟩ (.int .i64 z6))) := HBA.out.setCell (by show B ≤ q; exact Nat.le_of_lt HLA.out.1) _
      have HPB := hide (HPA.out.kept hkq (fun b off e => by cases e; have := HLA.out.2.2; omega))
      have HSB : Hid (q < (wa.setCell ⟨q, 6, none⟩ (.int .i64 z6)).heap.size) := by show _ < _; simpa using HSA.out
      clear HBX HOA HBA HPA HSA hkq
      go_upto_region 10 with fail
      generalize hwb : wa.setCell ⟨q, 6, none⟩ (.int .i64 z6) = wb at *
      clear hwb hz6 wz6 y6 e6 hn400
      obtain ⟨y0, -⟩ := HBX2.out 0 _ rfl
      obtain ⟨y1, -⟩ := HBX2.out 1 _ rfl
      obtain ⟨y2, -⟩ := HBX2.out 2 _ rfl
      obtain ⟨y3, -⟩ := HBX2.out 3 _ rfl
      obtain ⟨y4, -⟩ := HBX2.out 4 _ rfl
      obtain ⟨y5, -⟩ := HBX2.out 5 _ rfl
      obtain ⟨y6, -⟩ := HBX2.out 6 _ rfl
      have c := cS x0 x1 x2 x3 x4 x5 z6 wb
      clear cS
      go_wp2_with fail
      refine c.mono ?_
      rintro e wc ⟨rfl, hb⟩
      have HBX3 := hide (HBX2.out.below hb HSB.out)
      have HOC := hide (owns_keep HOB.out (w' := wc) fun b h => hb.block b (owns_lt HOB.out b h))
      have HBC := hide (HBB.out.trans (hb.mono (by have := HLA.out.1; have := HSB.out; omega)))
      have HPC := hide (HPB.out.below hb)
      have HSC : Hid (B < wc.heap.size ∧ q < wc.heap.size) := ⟨by have := HLA.out.1; have := HSB.out; have := hb.size; omega, by have := HSB.out; have := hb.size; omega⟩
      clear c hb y0 y1 y2 y3 y4 y5 y6 HBX2 HOB HBB HPB HSB
      cases hs : shapeB x0 x1 x2 x3 x4 x5 z6
      · clear hs
        go_wp2_with fail
        go_roundw
        case rel => exact ⟨k + 1, j, M, by simp, HJ.out.1, by have := HJ.out.2; omega, HG.out, HOC.out, HBC.out, HSC.out.1, HPC.out⟩
        case measure => simpa [intOf] using HMe.out
      · have HG2 := hide (HG.out.step hs HZ6.out)
        obtain ⟨y0, -⟩ := HBX3.out 0 _ rfl
        obtain ⟨y1, -⟩ := HBX3.out 1 _ rfl
        obtain ⟨y2, -⟩ := HBX3.out 2 _ rfl
        obtain ⟨y3, -⟩ := HBX3.out 3 _ rfl
        obtain ⟨y4, -⟩ := HBX3.out 4 _ rfl
        obtain ⟨y5, -⟩ := HBX3.out 5 _ rfl
        obtain ⟨y6, -⟩ := HBX3.out 6 _ rfl
        have HBs : Hid (B ≤ wc.heap.size) := Nat.le_of_lt HSC.out.1
        clear hs
        go_wp2_with (refine grow _ rfl _ _ 24 rfl B 28 ti (.agg #[.int .i64 0, .int .i64 0, .int .i64 0, .int .i64 0, .int .i64 0, .int .i64 0, .int .i64 0]) 7 56 Try.underlying24 HI1.out hi2 hi3 hi4 rfl (by omega) _ j M rfl wc HOC.out (Below.refl _ _) HBs.out [x0, x1, x2, x3, x4, x5, z6] 1 1 rfl rfl (by unfold maxLen; omega) (by omega) ?_)
        intro v4 wd ho hb hs
        have HP4 := hide (HPC.out.belowG hb (by have := HBE.out; have := HGB.out; omega))
        have HB4 := hide (HBC.out.trans hb)
        have HO4 := hide ho
        have HS4 : Hid (B < wd.heap.size) := Nat.lt_trans HSC.out.1 hs
        clear ho hb hs y0 y1 y2 y3 y4 y5 y6 HOC HBC HPC HBX3
        go_wp2_with fail
        go_roundw
        case rel => exact ⟨k + 1, j + 1, _, by simp, HJ.out.1, HJ.out.2, HG2.out, HO4.out, HB4.out, HS4.out, HP4.out⟩
        case measure => simpa [intOf] using HMe.out
    · rw [decide_eq_false hkn]
      clear hkn hk
      have HPM := hide (own_pxS7 HO.out)
      have HBW := hide (HW4.out.trans (HB.out.mono (by have := HBE.out; have := HW3.out.size; omega)))
      have HJ8 : Hid (j ≤ 8) := hj
      clear HO HB HLt HP hj HGB HBE HW3 HW4
      obtain ⟨s4, hs4⟩ : ∃ s, n0 % 4 = s := ⟨_, rfl⟩
      have hs5 : s4 < 4 := by omega
      have ets : (n0 : Int).tmod 4 = (s4 : Int) := by rw [← hs4, Int.tmod_eq_emod_of_nonneg (by omega)]; omega
      have ews : IntKind.i64.wrap (s4 : Int) = (s4 : Int) := by rw [IntKind.wrap_i64]; omega
      have hn4 : ¬ ((4 : Int) = 0) := by omega
      have hs6 : (s4 : Int) < 4 := by omega
      have htab : (wr.alloc (.cells #[.int .i64 2, .int .i64 3, .int .i64 5, .int .i64 7] 2)).cell? ⟨wr.heap.size, s4, none⟩ = some (.int .i64 ((sideL s4 : Nat) : Int)) := by
        have : s4 = 0 ∨ s4 = 1 ∨ s4 = 2 ∨ s4 = 3 := by omega
        rcases this with rfl | rfl | rfl | rfl <;> simp [go_sem, sideL]
      obtain ⟨hpt, htn⟩ := pict_tone HJ8.out HG.out s4
      have hsd := sideL_pri s4
      obtain ⟨p, hp⟩ : ∃ p, sideL s4 = p := ⟨_, rfl⟩
      rw [hp] at hpt htn hsd htab
      obtain ⟨P, hP⟩ : ∃ P : Int, (p : Int) = P := ⟨_, rfl⟩
      obtain ⟨N, hN⟩ : ∃ N, p * p = N := ⟨_, rfl⟩
      have hPN : P * P = (N : Int) := by rw [← hP, ← hN]; simp
      rw [hP] at hpt htn htab
      rw [hN] at htn
      obtain ⟨F, hF⟩ : ∃ F, pict (gSh M) P j = F := ⟨_, rfl⟩
      rw [hF] at htn
      have eN : (P * P).toNat = N := by rw [hPN]; simp
      have HPI : Hid (∀ wz, Px ao (j * 7) (gSh M) wz → Calls Try.prog 7 #[.slice ao j co, .int .i64 P, .int .i64 P] wz (ImR P P N F wz)) := fun wz h => by
        have cc := implPaint_any ao j co (gSh M) (by have := HJ8.out; omega) P P wz h
        rw [hpt, hF, eN] at cc
        exact cc.mono fun e w' ⟨a0, b, he, ho, h1, h2, hb⟩ => ⟨a0, N, b, by simpa using he, by simpa using ho, .inr h1, hb⟩
      have HPS : Hid (∀ wz, Px ao (j * 7) (gSh M) wz → Calls Try.prog 9 #[.slice ao j co, .int .i64 P, .int .i64 P] wz (ImR P P N F wz)) := fun wz h => by
        have cc := specPaint_any ao j co (gSh M) (by have := HJ8.out; omega) P P wz h
        rw [hpt, hF, eN] at cc
        exact cc.mono fun e w' ⟨a0, b, he, ho, h1, h2, hb⟩ => ⟨a0, N, b, by simpa using he, by simpa using ho, .inr h1, hb⟩
      obtain ⟨LN, hLN⟩ : ∃ n, lnN P P N F = n := ⟨_, rfl⟩
      obtain ⟨LF, hLF⟩ : ∃ f, lnF P F = f := ⟨_, rfl⟩
      obtain ⟨f1, f2, f3, f4, f5, f6, f7, f8⟩ := ph_facts htn hLN hLF
      have HNB := hide f5
      have HSM : Hid (∀ A B' k k' wz, Px A N F wz → Px B' N F wz → Calls Try.prog 8 #[im P P A N k, im P P B' N k'] wz fun e w' => e = .returned (.bool true) ∧ Below wz.heap.size wz w') := fun A B' k k' wz h1 h2 => sameImage_any P P A B' N k k' F (by have := HNB.out; omega) wz h1 h2
      have HCY : Hid (∀ A k wz, Px A N F wz → Calls Try.prog 11 #[im P P A N k] wz (ImR P P N F wz)) := fun A k wz h => (copyImage_any P P A N k F (by have := HNB.out; omega) HNB.out.1 wz h).mono fun e w' ⟨b, cc, he, hr, hb, hw⟩ => ⟨_, cc, b, he, .inr ⟨rfl, hr⟩, .inr hb, hw⟩
      have HLI : Hid (∀ A k wz, Px A N F wz → Calls Try.prog 10 #[im P P A N k] wz (LsC LN LF wz)) := fun A k wz h => by
        have cc := implLinesC_any P P A N k F (by have := HNB.out; omega) htn wz h
        rw [hLN, hLF] at cc
        exact cc
      have HLS : Hid (∀ A k wz, Px A N F wz → Calls Try.prog 15 #[im P P A N k] wz (LsR LN LF wz)) := fun A k wz h => by
        have cc := specLines_any P P A N k F (by have := HNB.out; omega) wz h
        rw [hLN, hLF] at cc
        exact cc
      have HFL : Hid (∀ A k wz, LN ≤ k → Px A LN LF wz → Calls Try.prog 12 #[.slice A LN k] wz (ImRB P P N (frX (frP LN) LF) true wz)) := fun A k wz hk h => by
        have cc := implFromLines_any A LN k LF (by have := HNB.out; omega) hk wz h
        rw [f1, f2, f3] at cc
        exact cc
      have HFX : Hid (∀ k, k < N → frX (frP LN) LF k = F k) := f4
      obtain ⟨T, hT⟩ : ∃ T, dcT P.toNat LN LF (fun _ => 0) = T := ⟨_, rfl⟩
      rw [hT] at f7 f8
      have HDE : Hid (∀ A k B' k' wz, Px A N (fun _ => 0) wz → Px B' LN LF wz → Calls Try.prog 13 #[im P P A N k, .slice B' LN k', .int .i64 3] wz (DcA P P N (dcR P.toNat LF (fun _ => 0) 3) 4 T wz)) := fun A k B' k' wz h1 h2 => by
        have cc := implDescend_any P P A N k (fun _ => 0) (by have := HNB.out; omega) B' LN k' LF (by have := HNB.out; omega) 3 wz h1 h2
        rw [f6, hT] at cc
        exact cc
      have HMI : Hid (∀ A k B' k' wz, Px A N (fun _ => 0) wz → Px B' LN LF wz → Calls Try.prog 14 #[im P P A N k, .slice B' LN k'] wz fun e w' => e = .returned (.int .i64 (T 0)) ∧ Below wz.heap.size wz w') := fun A k B' k' wz h1 h2 => by
        have cc := specMisfit_any P P A N k (fun _ => 0) (by have := HNB.out; omega) B' LN k' LF (by have := HNB.out; omega) wz h1 h2
        rw [f8] at cc
        exact cc
      have HTL : Hid (∀ r, T (r + 1) ≤ T r) := f7
      have HPP : Hid (P * P = (N : Int) ∧ IntKind.i64.wrap (N : Int) = (N : Int)) := ⟨hPN, by rw [IntKind.wrap_i64]; have := HNB.out; omega⟩
      clear f1 f2 f3 f4 f5 f6 f7 f8 hT hLN hLF htn hpt hF eN hPN hN hP hp hsd hs4 HG HJ8
      have hbt := bnew wr (.cells #[.int .i64 2, .int .i64 3, .int .i64 5, .int .i64 7] 2)
      have HPM1 := hide (HPM.out.below hbt)
      have HBW1 := hide (bnext HBW.out (Nat.le_refl _) hbt)
      clear hbt HPM HBW
      go_upto_region 13 with fail
      generalize hwt : wr.alloc (.cells #[.int .i64 2, .int .i64 3, .int .i64 5, .int .i64 7] 2) = wt at *
      clear hwt htab ets ews hn4 hs6 hs5
      go_wp2_with fail
      refine (HPI.out wt HPM1.out).mono ?_
      rintro e w6 ⟨a10, c10, b10, rfl, ho, -, hb⟩
      have hb7 := bnew w6 (.cells #[.int .i64 P, .int .i64 P, .slice a10 N c10] 32)
      have hbb := hb.trans (hb7.mono hb.size)
      have HX10 : Hid (Bx w6.heap.size [.int .i64 P, .int .i64 P, .slice a10 N c10] (w6.alloc (.cells #[.int .i64 P, .int .i64 P, .slice a10 N c10] 32))) := Bx.new [.int .i64 P, .int .i64 P, .slice a10 N c10] _ _
      have HP10 := hide ((Ow.px ho).below hb7)
      have HPM7 := hide (HPM1.out.below hbb)
      have HBW7 := hide (bnext HBW1.out (Nat.le_refl _) hbb)
      clear hb7 hbb hb ho HPM1 HBW1
      go_upto_region 14 with fail
      generalize hw7 : w6.alloc (.cells #[.int .i64 P, .int .i64 P, .slice a10 N c10] 32) = w7 at *
      clear hw7
      generalize w6.heap.size = Q10 at *
      obtain ⟨G, hG⟩ : ∃ G : Nat → Value → Prop, G = (fun jj v => match jj with | 0 => v = im P P a10 N c10 | 1 => v = .slice ao j co | 2 => v = .int .i64 P | 3 => v = .int .i64 P | 5 => v = .bool true | 6 => v = .bool false | _ => True) := ⟨_, rfl⟩
      have G0 : Hid (∀ v, G 0 v ↔ v = im P P a10 N c10) := fun v => by rw [hG]; exact Iff.rfl
      have G1 : Hid (∀ v, G 1 v ↔ v = .slice ao j co) := fun v => by rw [hG]; exact Iff.rfl
      have G2 : Hid (∀ v, G 2 v ↔ v = .int .i64 P) := fun v => by rw [hG]; exact Iff.rfl
      have G3 : Hid (∀ v, G 3 v ↔ v = .int .i64 P) := fun v => by rw [hG]; exact Iff.rfl
      have G4 : Hid (∀ v, G 4 v) := fun v => by rw [hG]; trivial
      have G5 : Hid (∀ v, G 5 v ↔ v = .bool true) := fun v => by rw [hG]; exact Iff.rfl
      have G6 : Hid (∀ v, G 6 v ↔ v = .bool false) := fun v => by rw [hG]; exact Iff.rfl
      clear hG
      obtain ⟨pv, hpv⟩ : ∃ pv : Nat → Option (Value → World → Prop), pv = (fun jj => match jj with | 4 => some (pixP P P N F) | _ => none) := ⟨_, rfl⟩
      have O0 : Hid (pv 0 = none) := by rw [hpv]; exact rfl
      have O1 : Hid (pv 1 = none) := by rw [hpv]; exact rfl
      have O2 : Hid (pv 2 = none) := by rw [hpv]; exact rfl
      have O3 : Hid (pv 3 = none) := by rw [hpv]; exact rfl
      have O4 : Hid (pv 4 = some (pixP P P N F)) := by rw [hpv]; exact rfl
      have O5 : Hid (pv 5 = none) := by rw [hpv]; exact rfl
      have O6 : Hid (pv 6 = none) := by rw [hpv]; exact rfl
      have HST : Hid (∀ j p, pv j = some p → StabL p) := by
        intro j p hp
        rw [hpv] at hp
        dsimp only at hp
        split at hp <;> cases hp
        · exact pixP_st _ _ _ _
      clear hpv
      refine region_opsV (fun _ w' => Below w7.heap.size w7 w') (hF (lH G pv)) (by kernel_rfl) (by kernel_rfl) (by kernel_rfl) (by kernel_rfl) (Below.refl _ _).drew ?_ ?_
      · refine ⟨?_, ?_, ?_, ?_, ?_, ?_, ?_, trivial⟩
        · intro u w21 au hsl hel hu hF0 hp' K hK
          have t10 : au.tmps[10]?.getD undef = .pointer (some ⟨Q10, 0, none⟩) := (hel.out 10 (by kernel_rfl)).trans (by kernel_rfl)
          obtain ⟨xa, xb, xc⟩ := (HX10.out.below hF0 HX10.out.lt).im3
          refine step_plain rfl ?_
          go_simp
          exact hK.out (im P P a10 N c10) _ hF0 (hF_val 0 ⟨(G0.out _).2 rfl, fun p hp => by rw [O0.out] at hp; cases hp⟩) (fun j hj hf h => hF_up (lH_up HST.out (Below.refl _ _)) 0 _ j hj h)
        · intro u w21 au hsl hel hu hF0 hp' K hK
          have t6 : au.tmps[6]?.getD undef = .slice ao j co := (hel.out 6 (by kernel_rfl)).trans (by kernel_rfl)
          refine step_plain rfl ?_
          go_simp
          exact hK.out (.slice ao j co) _ hF0 (hF_val 1 ⟨(G1.out _).2 rfl, fun p hp => by rw [O1.out] at hp; cases hp⟩) (fun j hj hf h => hF_up (lH_up HST.out (Below.refl _ _)) 1 _ j hj h)
        · intro u w21 au hsl hel hu hF0 hp' K hK
          have t9 : au.tmps[9]?.getD undef = .int .i64 P := (hel.out 9 (by kernel_rfl)).trans (by kernel_rfl)
          refine step_plain rfl ?_
          go_simp
          exact hK.out (.int .i64 P) _ hF0 (hF_val 2 ⟨(G2.out _).2 rfl, fun p hp => by rw [O2.out] at hp; cases hp⟩) (fun j hj hf h => hF_up (lH_up HST.out (Below.refl _ _)) 2 _ j hj h)
        · intro u w21 au hsl hel hu hF0 hp' K hK
          have t9 : au.tmps[9]?.getD undef = .int .i64 P := (hel.out 9 (by kernel_rfl)).trans (by kernel_rfl)
          refine step_plain rfl ?_
          go_simp
          exact hK.out (.int .i64 P) _ hF0 (hF_val 3 ⟨(G3.out _).2 rfl, fun p hp => by rw [O3.out] at hp; cases hp⟩) (fun j hj hf h => hF_up (lH_up HST.out (Below.refl _ _)) 3 _ j hj h)
        · intro u w21 au hsl hel hu hF0 hp' K hK
          have t62 : au.tmps[62]?.getD undef = u 1 := hsl.out 1 62 (by kernel_rfl)
          have h1 : u 1 = .slice ao j co := (G1.out _).1 (PreF.get hp' 1 (by kernel_rfl)).1
          rw [h1] at t62
          have t63 : au.tmps[63]?.getD undef = u 2 := hsl.out 2 63 (by kernel_rfl)
          have h2 : u 2 = .int .i64 P := (G2.out _).1 (PreF.get hp' 2 (by kernel_rfl)).1
          rw [h2] at t63
          have t64 : au.tmps[64]?.getD undef = u 3 := hsl.out 3 64 (by kernel_rfl)
          have h3 : u 3 = .int .i64 P := (G3.out _).1 (PreF.get hp' 3 (by kernel_rfl)).1
          rw [h3] at t64
          have cc := HPS.out w21 (HPM7.out.below hF0)
          refine step_plain rfl ?_
          go_simp
          refine cc.mono ?_
          rintro e w22 ⟨q0, q1, q2, rfl, q3, -, hb⟩
          exact hK.out _ w22 (bnext hF0 (Nat.le_refl _) hb) (hF_val 4 ⟨G4.out _, fun p hp => by rw [O4.out] at hp; cases hp; exact ⟨_, _, rfl, Ow.px q3⟩⟩) (fun j hj hf h => hF_up (lH_up HST.out hb) 4 _ j hj h)
        · intro u w21 au hsl hel hu hF0 hp' K hK
          have t61 : au.tmps[61]?.getD undef = u 0 := hsl.out 0 61 (by kernel_rfl)
          have h0 : u 0 = im P P a10 N c10 := (G0.out _).1 (PreF.get hp' 0 (by kernel_rfl)).1
          rw [h0] at t61
          have t65 : au.tmps[65]?.getD undef = u 4 := hsl.out 4 65 (by kernel_rfl)
          obtain ⟨A4, K4, e4, p4⟩ := (PreF.get hp' 4 (by kernel_rfl)).2 _ O4.out
          rw [e4] at t65
          have cc := HSM.out a10 A4 c10 K4 w21 (HP10.out.below hF0) p4
          refine step_plain rfl ?_
          go_simp
          refine cc.mono ?_
          rintro e w22 ⟨rfl, hb⟩
          exact hK.out (.bool true) w22 (bnext hF0 (Nat.le_refl _) hb) (hF_val 5 ⟨(G5.out _).2 rfl, fun p hp => by rw [O5.out] at hp; cases hp⟩) (fun j hj hf h => hF_up (lH_up HST.out hb) 5 _ j hj h)
        · intro u w21 au hsl hel hu hF0 hp' K hK
          have t66 : au.tmps[66]?.getD undef = u 5 := hsl.out 5 66 (by kernel_rfl)
          have h5 : u 5 = .bool true := (G5.out _).1 (PreF.get hp' 5 (by kernel_rfl)).1
          rw [h5] at t66
          refine step_plain rfl ?_
          go_simp
          exact hK.out (.bool false) _ hF0 (hF_val 6 ⟨(G6.out _).2 rfl, fun p hp => by rw [O6.out] at hp; cases hp⟩) (fun j hj hf h => hF_up (lH_up HST.out (Below.refl _ _)) 6 _ j hj h)
      · intro u w30 hF0 hall
        have h6 : u 6 = .bool false := (G6.out _).1 (hall 6 (by decide)).1
        have hbb := hF0
        have HX108 := hide (HX10.out.below hbb HX10.out.lt)
        have HP108 := hide (HP10.out.below hbb)
        have HBW8 := hide (bnext HBW7.out (Nat.le_refl _) hbb)
        clear hall hF0 hbb HX10 HP10 HBW7 HPM7
        simp only [rgPut, Act.put, h6]
        clear h6
        go_simp
        obtain ⟨i0, i1, i2⟩ := HX108.out.im3
        go_wp2_with fail
        refine (HCY.out a10 c10 w30 HP108.out).mono ?_
        rintro e v1 ⟨a1, k1, b1, rfl, ho, -, hb⟩
        have HX1 := hide (HX108.out.below hb HX108.out.lt)
        have HP1 := hide (HP108.out.below hb)
        have HBW1 := hide (bnext HBW8.out (Nat.le_refl _) hb)
        have HPc := hide (Ow.px ho)
        clear hb ho HX108 HP108 HBW8 i0 i1 i2
        go_wp2_with fail
        refine (HLI.out a1 k1 v1 HPc.out).mono ?_
        rintro e v2 ⟨b11, rfl, hr, -, hb⟩
        have HX2 := hide (HX1.out.below hb HX1.out.lt)
        have HP2 := hide (HP1.out.below hb)
        have HBW2 := hide (bnext HBW1.out (Nat.le_refl _) hb)
        have HL2 := hide hr.px
        clear hb hr HX1 HP1 HBW1 HPc
        obtain ⟨tj, hj1, hj2, hj3, hj4⟩ := info2
        have HJ1 := hide hj1
        have HJ2 := hide hj2
        have HJ3 := hide hj3
        have HJ4 := hide hj4
        clear hj1 hj2 hj3 hj4
        have HXD : Hid ((v2.alloc (.cells #[] 2)).ownsRow v2.heap.size 2 1 (.slice (some ⟨v2.heap.size, 0, none⟩) 0 0) 0 (ints []) ∧ Below v2.heap.size v2 (v2.alloc (.cells #[] 2)) ∧ v2.heap.size ≤ (v2.alloc (.cells #[] 2)).heap.size) := ⟨World.ownsRow_lit v2 #[] 0 (Nat.le_refl _) (by unfold maxLen; omega) rfl, bnew _ _, by simp⟩
        have HLx : Hid (Px (some ⟨b11, 0, none⟩) (LN * 1) LF (v2.alloc (.cells #[] 2))) := by
          have := HL2.out.below (bnew v2 (.cells #[] 2))
          rw [← Nat.mul_one LN] at this
          exact this
        go_wp2_with (refine growCG _ rfl _ _ 30 2 1 8 (.int .i64 0) tj Try.underlying30 HJ1.out HJ2.out HJ3.out HJ4.out rfl (by omega) (by omega) rfl v2.heap.size _ 0 [] rfl v2 HXD.out.1 HXD.out.2.1 HXD.out.2.2 (some ⟨b11, 0, none⟩) LN LN LF rfl (fun h => by cases h) HLx.out (by have := HNB.out; omega) ?_)
        intro vD v3 hoD hbD
        obtain ⟨aD, cD, rfl, hcD⟩ := own_isC hoD
        have HPD : Hid (Px aD LN LF v3) := by
          have h := own_pxC hoD
          try simp only [Nat.zero_add] at h
          exact h.congrC fun q hq => by simpa using fl_at LF (LN * 1) q (by omega)
        have hcD' : LN ≤ cD := by omega
        have HX3 := hide (HX2.out.below hbD HX2.out.lt)
        have HP3 := hide (HP2.out.below hbD)
        have HBW3 := hide (bnext HBW2.out (Nat.le_refl _) hbD)
        have HL3 := hide (HL2.out.below hbD)
        have eLN : 0 + LN = LN := Nat.zero_add _
        have cc := HFL.out aD cD v3 hcD' HPD.out
        clear hoD hbD hcD hcD' HXD HLx HX2 HP2 HBW2 HL2 HPD
        try rw [eLN]
        go_wp2_with fail
        refine cc.mono ?_
        rintro e v4 ⟨a12, c12, b12, rfl, ho, -, hb⟩
        have HPX : Hid (Px a12 N F v4) := (Ow.px ho).congrC HFX.out
        have hb7 := bnew v4 (.cells #[.int .i64 P, .int .i64 P, .slice a12 N c12] 32)
        have hbb := hb.trans (hb7.mono hb.size)
        have HX12 : Hid (Bx v4.heap.size [.int .i64 P, .int .i64 P, .slice a12 N c12] (v4.alloc (.cells #[.int .i64 P, .int .i64 P, .slice a12 N c12] 32))) := Bx.new [.int .i64 P, .int .i64 P, .slice a12 N c12] _ _
        have HP12 := hide (HPX.out.below hb7)
        have HX5 := hide (HX3.out.below hbb HX3.out.lt)
        have HP5 := hide (HP3.out.below hbb)
        have HBW5 := hide (bnext HBW3.out (Nat.le_refl _) hbb)
        have HL5 := hide (HL3.out.below hbb)
        clear cc hb7 hbb hb ho HPX HX3 HP3 HBW3 HL3 eLN
        go_upto_region 18 with fail
        generalize hv5 : v4.alloc (.cells #[.int .i64 P, .int .i64 P, .slice a12 N c12] 32) = v5 at *
        clear hv5
        generalize v4.heap.size = Q12 at *
        have hpp := HPP.out.1
        have hpw := HPP.out.2
        have hmk := make_px N (by have := HNB.out; omega) v5
        go_upto_region 19 with fail
        have hb6 := bnew v5 (.cells (madeCells #[.int .i64 0] N) 2)
        have hb7 := bnew (v5.alloc (.cells (madeCells #[.int .i64 0] N) 2)) (.cells #[.int .i64 P, .int .i64 P, .slice (some ⟨v5.heap.size, 0, none⟩) N N] 32)
        have hbb := hb6.trans (hb7.mono hb6.size)
        have hz6 : (v5.alloc (.cells (madeCells #[.int .i64 0] N) 2)).heap.size = v5.heap.size + 1 := by simp
        have HX14 : Hid (Bx (v5.heap.size + 1) [.int .i64 P, .int .i64 P, .slice (some ⟨v5.heap.size, 0, none⟩) N N] ((v5.alloc (.cells (madeCells #[.int .i64 0] N) 2)).alloc (.cells #[.int .i64 P, .int .i64 P, .slice (some ⟨v5.heap.size, 0, none⟩) N N] 32))) := by
          have := Bx.new [.int .i64 P, .int .i64 P, .slice (some ⟨v5.heap.size, 0, none⟩) N N] 32 (v5.alloc (.cells (madeCells #[.int .i64 0] N) 2))
          rw [hz6] at this
          exact this
        have HP14 := hide ((made_zero N v5).below hb7)
        have HX6 := hide (HX5.out.below hbb HX5.out.lt)
        have HP6 := hide (HP5.out.below hbb)
        have HX126 := hide (HX12.out.below hbb HX12.out.lt)
        have HP126 := hide (HP12.out.below hbb)
        have HBW6 := hide (bnext HBW5.out (Nat.le_refl _) hbb)
        have HL6 := hide (HL5.out.below hbb)
        clear hb6 hb7 hbb hz6 hmk hpp hpw HX5 HP5 HX12 HP12 HBW5 HL5
        generalize hv6 : ((v5.alloc (.cells (madeCells #[.int .i64 0] N) 2)).alloc (.cells #[.int .i64 P, .int .i64 P, .slice (some ⟨v5.heap.size, 0, none⟩) N N] 32)) = v6 at *
        clear hv6
        generalize v5.heap.size = S14 at *
        obtain ⟨Q14, hQ14⟩ : ∃ Q, S14 + 1 = Q := ⟨_, rfl⟩
        rw [hQ14] at HX14 ⊢
        clear hQ14
        obtain ⟨i0, i1, i2⟩ := HX14.out.im3
        go_wp2_with fail
        refine (HDE.out _ _ _ _ v6 HP14.out HL6.out).mono ?_
        rintro e v7 ⟨a15, c15, b15, a16, c16, b16, rfl, ho, -, ho2, -, -, hb⟩
        obtain ⟨rfl, hr16⟩ := ho2.resolve_left (by omega)
        have hb7 := bnew v7 (.cells #[.int .i64 P, .int .i64 P, .slice a15 N c15] 32)
        have hbb := hb.trans (hb7.mono hb.size)
        have HX108 := hide (HX6.out.below hbb HX6.out.lt)
        have HP108 := hide (HP6.out.below hbb)
        have HX128 := hide (HX126.out.below hbb HX126.out.lt)
        have HP128 := hide (HP126.out.below hbb)
        have HX148 := hide (HX14.out.below hbb HX14.out.lt)
        have HP148 := hide (HP14.out.below hbb)
        have HBW8 := hide (bnext HBW6.out (Nat.le_refl _) hbb)
        have HT16 := hide ((Row.px hr16).below hb7)
        clear hb7 hbb hb ho ho2 hr16 HX6 HP6 HX126 HP126 HX14 HP14 HBW6 HL6 i0 i1 i2
        go_upto_region 20 with fail
        generalize hv8 : v7.alloc (.cells #[.int .i64 P, .int .i64 P, .slice a15 N c15] 32) = v8 at *
        clear hv8
        generalize v7.heap.size = Q15 at *
        obtain ⟨T0, hT0⟩ : ∃ x, T 0 = x := ⟨_, rfl⟩
        obtain ⟨T1, hT1⟩ : ∃ x, T 1 = x := ⟨_, rfl⟩
        obtain ⟨T2, hT2⟩ : ∃ x, T 2 = x := ⟨_, rfl⟩
        obtain ⟨T3, hT3⟩ : ∃ x, T 3 = x := ⟨_, rfl⟩
        have l1 := HTL.out 0
        have l2 := HTL.out 1
        have l3 := HTL.out 2
        simp only [Nat.zero_add, Nat.reduceAdd, hT0, hT1, hT2, hT3] at l1 l2 l3
        have d1 : decide (T1 ≤ T0) = true := decide_eq_true l1
        have d2 : decide (T2 ≤ T1) = true := decide_eq_true l2
        have d3 : decide (T3 ≤ T2) = true := decide_eq_true l3
        have HTC : Hid (∀ wz, Below v8.heap.size v8 wz → wz.cell? ⟨b16, 0, none⟩ = some (.int .i64 T0) ∧ wz.cell? ⟨b16, 1, none⟩ = some (.int .i64 T1) ∧ wz.cell? ⟨b16, 2, none⟩ = some (.int .i64 T2) ∧ wz.cell? ⟨b16, 3, none⟩ = some (.int .i64 T3)) := fun wz hz => by
          have hp := HT16.out.below hz
          have g : ∀ k, k < 4 → wz.cell? ⟨b16, k, none⟩ = some (.int .i64 (T k)) := fun k hk => by
            obtain ⟨b, o, e, hc⟩ := hp.at hk
            cases e
            simpa using hc
          rw [← hT0, ← hT1, ← hT2, ← hT3]
          exact ⟨g 0 (by omega), g 1 (by omega), g 2 (by omega), g 3 (by omega)⟩
        rw [hT0] at HMI
        clear hT0 hT1 hT2 hT3 HT16 HTL
        obtain ⟨G, hG⟩ : ∃ G : Nat → Value → Prop, G = (fun jj v => match jj with | 0 => v = .bool true | 1 => v = .bool true | 2 => v = im P P a12 N c12 | 3 => v = im P P a10 N c10 | 4 => v = .bool true | 5 => v = .bool true | 6 => v = .bool true | 7 => v = .slice (some ⟨b16, 0, none⟩) 4 c16 | 8 => v = .int .i64 4 | 9 => v = .bool true | 10 => v = .bool true | 11 => v = .bool true | 12 => v = .slice (some ⟨b16, 0, none⟩) 4 c16 | 13 => v = .pointer (some ⟨b16, 1, none⟩) | 14 => v = .int .i64 T1 | 15 => v = .slice (some ⟨b16, 0, none⟩) 4 c16 | 16 => v = .pointer (some ⟨b16, 0, none⟩) | 17 => v = .int .i64 T0 | 18 => v = .bool true | 19 => v = .bool true | 20 => v = .bool true | 21 => v = .slice (some ⟨b16, 0, none⟩) 4 c16 | 22 => v = .pointer (some ⟨b16, 2, none⟩) | 23 => v = .int .i64 T2 | 24 => v = .slice (some ⟨b16, 0, none⟩) 4 c16 | 25 => v = .pointer (some ⟨b16, 1, none⟩) | 26 => v = .int .i64 T1 | 27 => v = .bool true | 28 => v = .bool true | 29 => v = .bool true | 30 => v = .slice (some ⟨b16, 0, none⟩) 4 c16 | 31 => v = .pointer (some ⟨b16, 3, none⟩) | 32 => v = .int .i64 T3 | 33 => v = .slice (some ⟨b16, 0, none⟩) 4 c16 | 34 => v = .pointer (some ⟨b16, 2, none⟩) | 35 => v = .int .i64 T2 | 36 => v = .bool true | 37 => v = .bool true | 38 => v = .bool true | 39 => v = .slice (some ⟨b16, 0, none⟩) 4 c16 | 40 => v = .pointer (some ⟨b16, 0, none⟩) | 41 => v = .int .i64 T0 | 42 => v = im P P (some ⟨S14, 0, none⟩) N N | 43 => v = im P P a10 N c10 | 45 => v = .int .i64 T0 | 46 => v = .bool true | 47 => v = .bool true | 48 => v = .bool true | _ => True) := ⟨_, rfl⟩
        have G0 : Hid (∀ v, G 0 v ↔ v = .bool true) := fun v => by rw [hG]; exact Iff.rfl
        have G1 : Hid (∀ v, G 1 v ↔ v = .bool true) := fun v => by rw [hG]; exact Iff.rfl
        have G2 : Hid (∀ v, G 2 v ↔ v = im P P a12 N c12) := fun v => by rw [hG]; exact Iff.rfl
        have G3 : Hid (∀ v, G 3 v ↔ v = im P P a10 N c10) := fun v => by rw [hG]; exact Iff.rfl
        have G4 : Hid (∀ v, G 4 v ↔ v = .bool true) := fun v => by rw [hG]; exact Iff.rfl
        have G5 : Hid (∀ v, G 5 v ↔ v = .bool true) := fun v => by rw [hG]; exact Iff.rfl
        have G6 : Hid (∀ v, G 6 v ↔ v = .bool true) := fun v => by rw [hG]; exact Iff.rfl
        have G7 : Hid (∀ v, G 7 v ↔ v = .slice (some ⟨b16, 0, none⟩) 4 c16) := fun v => by rw [hG]; exact Iff.rfl
        have G8 : Hid (∀ v, G 8 v ↔ v = .int .i64 4) := fun v => by rw [hG]; exact Iff.rfl
        have G9 : Hid (∀ v, G 9 v ↔ v = .bool true) := fun v => by rw [hG]; exact Iff.rfl
        have G10 : Hid (∀ v, G 10 v ↔ v = .bool true) := fun v => by rw [hG]; exact Iff.rfl
        have G11 : Hid (∀ v, G 11 v ↔ v = .bool true) := fun v => by rw [hG]; exact Iff.rfl
        have G12 : Hid (∀ v, G 12 v ↔ v = .slice (some ⟨b16, 0, none⟩) 4 c16) := fun v => by rw [hG]; exact Iff.rfl
        have G13 : Hid (∀ v, G 13 v ↔ v = .pointer (some ⟨b16, 1, none⟩)) := fun v => by rw [hG]; exact Iff.rfl
        have G14 : Hid (∀ v, G 14 v ↔ v = .int .i64 T1) := fun v => by rw [hG]; exact Iff.rfl
        have G15 : Hid (∀ v, G 15 v ↔ v = .slice (some ⟨b16, 0, none⟩) 4 c16) := fun v => by rw [hG]; exact Iff.rfl
        have G16 : Hid (∀ v, G 16 v ↔ v = .pointer (some ⟨b16, 0, none⟩)) := fun v => by rw [hG]; exact Iff.rfl
        have G17 : Hid (∀ v, G 17 v ↔ v = .int .i64 T0) := fun v => by rw [hG]; exact Iff.rfl
        have G18 : Hid (∀ v, G 18 v ↔ v = .bool true) := fun v => by rw [hG]; exact Iff.rfl
        have G19 : Hid (∀ v, G 19 v ↔ v = .bool true) := fun v => by rw [hG]; exact Iff.rfl
        have G20 : Hid (∀ v, G 20 v ↔ v = .bool true) := fun v => by rw [hG]; exact Iff.rfl
        have G21 : Hid (∀ v, G 21 v ↔ v = .slice (some ⟨b16, 0, none⟩) 4 c16) := fun v => by rw [hG]; exact Iff.rfl
        have G22 : Hid (∀ v, G 22 v ↔ v = .pointer (some ⟨b16, 2, none⟩)) := fun v => by rw [hG]; exact Iff.rfl
        have G23 : Hid (∀ v, G 23 v ↔ v = .int .i64 T2) := fun v => by rw [hG]; exact Iff.rfl
        have G24 : Hid (∀ v, G 24 v ↔ v = .slice (some ⟨b16, 0, none⟩) 4 c16) := fun v => by rw [hG]; exact Iff.rfl
        have G25 : Hid (∀ v, G 25 v ↔ v = .pointer (some ⟨b16, 1, none⟩)) := fun v => by rw [hG]; exact Iff.rfl
        have G26 : Hid (∀ v, G 26 v ↔ v = .int .i64 T1) := fun v => by rw [hG]; exact Iff.rfl
        have G27 : Hid (∀ v, G 27 v ↔ v = .bool true) := fun v => by rw [hG]; exact Iff.rfl
        have G28 : Hid (∀ v, G 28 v ↔ v = .bool true) := fun v => by rw [hG]; exact Iff.rfl
        have G29 : Hid (∀ v, G 29 v ↔ v = .bool true) := fun v => by rw [hG]; exact Iff.rfl
        have G30 : Hid (∀ v, G 30 v ↔ v = .slice (some ⟨b16, 0, none⟩) 4 c16) := fun v => by rw [hG]; exact Iff.rfl
        have G31 : Hid (∀ v, G 31 v ↔ v = .pointer (some ⟨b16, 3, none⟩)) := fun v => by rw [hG]; exact Iff.rfl
        have G32 : Hid (∀ v, G 32 v ↔ v = .int .i64 T3) := fun v => by rw [hG]; exact Iff.rfl
        have G33 : Hid (∀ v, G 33 v ↔ v = .slice (some ⟨b16, 0, none⟩) 4 c16) := fun v => by rw [hG]; exact Iff.rfl
        have G34 : Hid (∀ v, G 34 v ↔ v = .pointer (some ⟨b16, 2, none⟩)) := fun v => by rw [hG]; exact Iff.rfl
        have G35 : Hid (∀ v, G 35 v ↔ v = .int .i64 T2) := fun v => by rw [hG]; exact Iff.rfl
        have G36 : Hid (∀ v, G 36 v ↔ v = .bool true) := fun v => by rw [hG]; exact Iff.rfl
        have G37 : Hid (∀ v, G 37 v ↔ v = .bool true) := fun v => by rw [hG]; exact Iff.rfl
        have G38 : Hid (∀ v, G 38 v ↔ v = .bool true) := fun v => by rw [hG]; exact Iff.rfl
        have G39 : Hid (∀ v, G 39 v ↔ v = .slice (some ⟨b16, 0, none⟩) 4 c16) := fun v => by rw [hG]; exact Iff.rfl
        have G40 : Hid (∀ v, G 40 v ↔ v = .pointer (some ⟨b16, 0, none⟩)) := fun v => by rw [hG]; exact Iff.rfl
        have G41 : Hid (∀ v, G 41 v ↔ v = .int .i64 T0) := fun v => by rw [hG]; exact Iff.rfl
        have G42 : Hid (∀ v, G 42 v ↔ v = im P P (some ⟨S14, 0, none⟩) N N) := fun v => by rw [hG]; exact Iff.rfl
        have G43 : Hid (∀ v, G 43 v ↔ v = im P P a10 N c10) := fun v => by rw [hG]; exact Iff.rfl
        have G44 : Hid (∀ v, G 44 v) := fun v => by rw [hG]; trivial
        have G45 : Hid (∀ v, G 45 v ↔ v = .int .i64 T0) := fun v => by rw [hG]; exact Iff.rfl
        have G46 : Hid (∀ v, G 46 v ↔ v = .bool true) := fun v => by rw [hG]; exact Iff.rfl
        have G47 : Hid (∀ v, G 47 v ↔ v = .bool true) := fun v => by rw [hG]; exact Iff.rfl
        have G48 : Hid (∀ v, G 48 v ↔ v = .bool true) := fun v => by rw [hG]; exact Iff.rfl
        clear hG
        obtain ⟨pv, hpv⟩ : ∃ pv : Nat → Option (Value → World → Prop), pv = (fun jj => match jj with | 44 => some (lstP LN LF) | _ => none) := ⟨_, rfl⟩
        have O0 : Hid (pv 0 = none) := by rw [hpv]; exact rfl
        have O1 : Hid (pv 1 = none) := by rw [hpv]; exact rfl
        have O2 : Hid (pv 2 = none) := by rw [hpv]; exact rfl
        have O3 : Hid (pv 3 = none) := by rw [hpv]; exact rfl
        have O4 : Hid (pv 4 = none) := by rw [hpv]; exact rfl
        have O5 : Hid (pv 5 = none) := by rw [hpv]; exact rfl
        have O6 : Hid (pv 6 = none) := by rw [hpv]; exact rfl
        have O7 : Hid (pv 7 = none) := by rw [hpv]; exact rfl
        have O8 : Hid (pv 8 = none) := by rw [hpv]; exact rfl
        have O9 : Hid (pv 9 = none) := by rw [hpv]; exact rfl
        have O10 : Hid (pv 10 = none) := by rw [hpv]; exact rfl
        have O11 : Hid (pv 11 = none) := by rw [hpv]; exact rfl
        have O12 : Hid (pv 12 = none) := by rw [hpv]; exact rfl
        have O13 : Hid (pv 13 = none) := by rw [hpv]; exact rfl
        have O14 : Hid (pv 14 = none) := by rw [hpv]; exact rfl
        have O15 : Hid (pv 15 = none) := by rw [hpv]; exact rfl
        have O16 : Hid (pv 16 = none) := by rw [hpv]; exact rfl
        have O17 : Hid (pv 17 = none) := by rw [hpv]; exact rfl
        have O18 : Hid (pv 18 = none) := by rw [hpv]; exact rfl
        have O19 : Hid (pv 19 = none) := by rw [hpv]; exact rfl
        have O20 : Hid (pv 20 = none) := by rw [hpv]; exact rfl
        have O21 : Hid (pv 21 = none) := by rw [hpv]; exact rfl
        have O22 : Hid (pv 22 = none) := by rw [hpv]; exact rfl
        have O23 : Hid (pv 23 = none) := by rw [hpv]; exact rfl
        have O24 : Hid (pv 24 = none) := by rw [hpv]; exact rfl
        have O25 : Hid (pv 25 = none) := by rw [hpv]; exact rfl
        have O26 : Hid (pv 26 = none) := by rw [hpv]; exact rfl
        have O27 : Hid (pv 27 = none) := by rw [hpv]; exact rfl
        have O28 : Hid (pv 28 = none) := by rw [hpv]; exact rfl
        have O29 : Hid (pv 29 = none) := by rw [hpv]; exact rfl
        have O30 : Hid (pv 30 = none) := by rw [hpv]; exact rfl
        have O31 : Hid (pv 31 = none) := by rw [hpv]; exact rfl
        have O32 : Hid (pv 32 = none) := by rw [hpv]; exact rfl
        have O33 : Hid (pv 33 = none) := by rw [hpv]; exact rfl
        have O34 : Hid (pv 34 = none) := by rw [hpv]; exact rfl
        have O35 : Hid (pv 35 = none) := by rw [hpv]; exact rfl
        have O36 : Hid (pv 36 = none) := by rw [hpv]; exact rfl
        have O37 : Hid (pv 37 = none) := by rw [hpv]; exact rfl
        have O38 : Hid (pv 38 = none) := by rw [hpv]; exact rfl
        have O39 : Hid (pv 39 = none) := by rw [hpv]; exact rfl
        have O40 : Hid (pv 40 = none) := by rw [hpv]; exact rfl
        have O41 : Hid (pv 41 = none) := by rw [hpv]; exact rfl
        have O42 : Hid (pv 42 = none) := by rw [hpv]; exact rfl
        have O43 : Hid (pv 43 = none) := by rw [hpv]; exact rfl
        have O44 : Hid (pv 44 = some (lstP LN LF)) := by rw [hpv]; exact rfl
        have O45 : Hid (pv 45 = none) := by rw [hpv]; exact rfl
        have O46 : Hid (pv 46 = none) := by rw [hpv]; exact rfl
        have O47 : Hid (pv 47 = none) := by rw [hpv]; exact rfl
        have O48 : Hid (pv 48 = none) := by rw [hpv]; exact rfl
        have HST : Hid (∀ j p, pv j = some p → StabL p) := by
          intro j p hp
          rw [hpv] at hp
          dsimp only at hp
          split at hp <;> cases hp
          · exact lstP_st _ _
        clear hpv
        refine region_opsV (fun _ w' => Below v8.heap.size v8 w') (hF (lH G pv)) (by kernel_rfl) (by kernel_rfl) (by kernel_rfl) (by kernel_rfl) (Below.refl _ _).drew ?_ ?_
        · refine ⟨?_, ?_, ?_, ?_, ?_, ?_, ?_, ?_, ?_, ?_, ?_, ?_, ?_, ?_, ?_, ?_, ?_, ?_, ?_, ?_, ?_, ?_, ?_, ?_, ?_, ?_, ?_, ?_, ?_, ?_, ?_, ?_, ?_, ?_, ?_, ?_, ?_, ?_, ?_, ?_, ?_, ?_, ?_, ?_, ?_, ?_, ?_, ?_, ?_, trivial⟩
          · intro u w21 au hsl hel hu hF0 hp' K hK
            have t13 : au.tmps[13]?.getD undef = .bool true := (hel.out 13 (by kernel_rfl)).trans (by kernel_rfl)
            refine step_plain rfl ?_
            go_simp
            exact hK.out (.bool true) _ hF0 (hF_val 0 ⟨(G0.out _).2 rfl, fun p hp => by rw [O0.out] at hp; cases hp⟩) (fun j hj hf h => hF_up (lH_up HST.out (Below.refl _ _)) 0 _ j hj h)
          · intro u w21 au hsl hel hu hF0 hp' K hK
            have t91 : au.tmps[91]?.getD undef = u 0 := hsl.out 0 91 (by kernel_rfl)
            have h0 : u 0 = .bool true := (G0.out _).1 (PreF.get hp' 0 (by kernel_rfl)).1
            rw [h0] at t91
            refine step_plain rfl ?_
            go_simp
            exact hK.out (.bool true) _ hF0 (hF_val 1 ⟨(G1.out _).2 rfl, fun p hp => by rw [O1.out] at hp; cases hp⟩) (fun j hj hf h => hF_up (lH_up HST.out (Below.refl _ _)) 1 _ j hj h)
          · intro u w21 au hsl hel hu hF0 hp' K hK
            have t92 : au.tmps[92]?.getD undef = u 1 := hsl.out 1 92 (by kernel_rfl)
            have h1 : u 1 = .bool true := (G1.out _).1 (PreF.get hp' 1 (by kernel_rfl)).1
            rw [h1] at t92
            have t12 : au.tmps[12]?.getD undef = .pointer (some ⟨Q12, 0, none⟩) := (hel.out 12 (by kernel_rfl)).trans (by kernel_rfl)
            obtain ⟨xa, xb, xc⟩ := (HX128.out.below hF0 HX128.out.lt).im3
            refine step_guardV rfl rfl rfl t92 ?_
            go_simp
            exact hK.out (im P P a12 N c12) _ hF0 (hF_val 2 ⟨(G2.out _).2 rfl, fun p hp => by rw [O2.out] at hp; cases hp⟩) (fun j hj hf h => hF_up (lH_up HST.out (Below.refl _ _)) 2 _ j hj h)
          · intro u w21 au hsl hel hu hF0 hp' K hK
            have t92 : au.tmps[92]?.getD undef = u 1 := hsl.out 1 92 (by kernel_rfl)
            have h1 : u 1 = .bool true := (G1.out _).1 (PreF.get hp' 1 (by kernel_rfl)).1
            rw [h1] at t92
            have t10 : au.tmps[10]?.getD undef = .pointer (some ⟨Q10, 0, none⟩) := (hel.out 10 (by kernel_rfl)).trans (by kernel_rfl)
            obtain ⟨xa, xb, xc⟩ := (HX108.out.below hF0 HX108.out.lt).im3
            refine step_guardV rfl rfl rfl t92 ?_
            go_simp
            exact hK.out (im P P a10 N c10) _ hF0 (hF_val 3 ⟨(G3.out _).2 rfl, fun p hp => by rw [O3.out] at hp; cases hp⟩) (fun j hj hf h => hF_up (lH_up HST.out (Below.refl _ _)) 3 _ j hj h)
          · intro u w21 au hsl hel hu hF0 hp' K hK
            have t92 : au.tmps[92]?.getD undef = u 1 := hsl.out 1 92 (by kernel_rfl)
            have h1 : u 1 = .bool true := (G1.out _).1 (PreF.get hp' 1 (by kernel_rfl)).1
            rw [h1] at t92
            have t93 : au.tmps[93]?.getD undef = u 2 := hsl.out 2 93 (by kernel_rfl)
            have h2 : u 2 = im P P a12 N c12 := (G2.out _).1 (PreF.get hp' 2 (by kernel_rfl)).1
            rw [h2] at t93
            have t94 : au.tmps[94]?.getD undef = u 3 := hsl.out 3 94 (by kernel_rfl)
            have h3 : u 3 = im P P a10 N c10 := (G3.out _).1 (PreF.get hp' 3 (by kernel_rfl)).1
            rw [h3] at t94
            have cc := HSM.out a12 a10 c12 c10 w21 (HP128.out.below hF0) (HP108.out.below hF0)
            refine step_guardV rfl rfl rfl t92 ?_
            go_simp
            refine cc.mono ?_
            rintro e w22 ⟨rfl, hb⟩
            exact hK.out (.bool true) w22 (bnext hF0 (Nat.le_refl _) hb) (hF_val 4 ⟨(G4.out _).2 rfl, fun p hp => by rw [O4.out] at hp; cases hp⟩) (fun j hj hf h => hF_up (lH_up HST.out hb) 4 _ j hj h)
          · intro u w21 au hsl hel hu hF0 hp' K hK
            have t92 : au.tmps[92]?.getD undef = u 1 := hsl.out 1 92 (by kernel_rfl)
            have h1 : u 1 = .bool true := (G1.out _).1 (PreF.get hp' 1 (by kernel_rfl)).1
            rw [h1] at t92
            have t95 : au.tmps[95]?.getD undef = u 4 := hsl.out 4 95 (by kernel_rfl)
            have h4 : u 4 = .bool true := (G4.out _).1 (PreF.get hp' 4 (by kernel_rfl)).1
            rw [h4] at t95
            refine step_plain rfl ?_
            go_simp
            exact hK.out (.bool true) _ hF0 (hF_val 5 ⟨(G5.out _).2 rfl, fun p hp => by rw [O5.out] at hp; cases hp⟩) (fun j hj hf h => hF_up (lH_up HST.out (Below.refl _ _)) 5 _ j hj h)
          · intro u w21 au hsl hel hu hF0 hp' K hK
            have t96 : au.tmps[96]?.getD undef = u 5 := hsl.out 5 96 (by kernel_rfl)
            have h5 : u 5 = .bool true := (G5.out _).1 (PreF.get hp' 5 (by kernel_rfl)).1
            rw [h5] at t96
            refine step_plain rfl ?_
            go_simp
            exact hK.out (.bool true) _ hF0 (hF_val 6 ⟨(G6.out _).2 rfl, fun p hp => by rw [O6.out] at hp; cases hp⟩) (fun j hj hf h => hF_up (lH_up HST.out (Below.refl _ _)) 6 _ j hj h)
          · intro u w21 au hsl hel hu hF0 hp' K hK
            have t97 : au.tmps[97]?.getD undef = u 6 := hsl.out 6 97 (by kernel_rfl)
            have h6 : u 6 = .bool true := (G6.out _).1 (PreF.get hp' 6 (by kernel_rfl)).1
            rw [h6] at t97
            have t16 : au.tmps[16]?.getD undef = .slice (some ⟨b16, 0, none⟩) 4 c16 := (hel.out 16 (by kernel_rfl)).trans (by kernel_rfl)
            refine step_guardV rfl rfl rfl t97 ?_
            go_simp
            exact hK.out (.slice (some ⟨b16, 0, none⟩) 4 c16) _ hF0 (hF_val 7 ⟨(G7.out _).2 rfl, fun p hp => by rw [O7.out] at hp; cases hp⟩) (fun j hj hf h => hF_up (lH_up HST.out (Below.refl _ _)) 7 _ j hj h)
          · intro u w21 au hsl hel hu hF0 hp' K hK
            have t97 : au.tmps[97]?.getD undef = u 6 := hsl.out 6 97 (by kernel_rfl)
            have h6 : u 6 = .bool true := (G6.out _).1 (PreF.get hp' 6 (by kernel_rfl)).1
            rw [h6] at t97
            have t98 : au.tmps[98]?.getD undef = u 7 := hsl.out 7 98 (by kernel_rfl)
            have h7 : u 7 = .slice (some ⟨b16, 0, none⟩) 4 c16 := (G7.out _).1 (PreF.get hp' 7 (by kernel_rfl)).1
            rw [h7] at t98
            refine step_guardV rfl rfl rfl t97 ?_
            go_simp
            exact hK.out (.int .i64 4) _ hF0 (hF_val 8 ⟨(G8.out _).2 rfl, fun p hp => by rw [O8.out] at hp; cases hp⟩) (fun j hj hf h => hF_up (lH_up HST.out (Below.refl _ _)) 8 _ j hj h)
          · intro u w21 au hsl hel hu hF0 hp' K hK
            have t97 : au.tmps[97]?.getD undef = u 6 := hsl.out 6 97 (by kernel_rfl)
            have h6 : u 6 = .bool true := (G6.out _).1 (PreF.get hp' 6 (by kernel_rfl)).1
            rw [h6] at t97
            have t99 : au.tmps[99]?.getD undef = u 8 := hsl.out 8 99 (by kernel_rfl)
            have h8 : u 8 = .int .i64 4 := (G8.out _).1 (PreF.get hp' 8 (by kernel_rfl)).1
            rw [h8] at t99
            refine step_guardV rfl rfl rfl t97 ?_
            go_simp
            exact hK.out (.bool true) _ hF0 (hF_val 9 ⟨(G9.out _).2 rfl, fun p hp => by rw [O9.out] at hp; cases hp⟩) (fun j hj hf h => hF_up (lH_up HST.out (Below.refl _ _)) 9 _ j hj h)
          · intro u w21 au hsl hel hu hF0 hp' K hK
            have t97 : au.tmps[97]?.getD undef = u 6 := hsl.out 6 97 (by kernel_rfl)
            have h6 : u 6 = .bool true := (G6.out _).1 (PreF.get hp' 6 (by kernel_rfl)).1
            rw [h6] at t97
            have t100 : au.tmps[100]?.getD undef = u 9 := hsl.out 9 100 (by kernel_rfl)
            have h9 : u 9 = .bool true := (G9.out _).1 (PreF.get hp' 9 (by kernel_rfl)).1
            rw [h9] at t100
            refine step_plain rfl ?_
            go_simp
            exact hK.out (.bool true) _ hF0 (hF_val 10 ⟨(G10.out _).2 rfl, fun p hp => by rw [O10.out] at hp; cases hp⟩) (fun j hj hf h => hF_up (lH_up HST.out (Below.refl _ _)) 10 _ j hj h)
          · intro u w21 au hsl hel hu hF0 hp' K hK
            have t101 : au.tmps[101]?.getD undef = u 10 := hsl.out 10 101 (by kernel_rfl)
            have h10 : u 10 = .bool true := (G10.out _).1 (PreF.get hp' 10 (by kernel_rfl)).1
            rw [h10] at t101
            refine step_plain rfl ?_
            go_simp
            exact hK.out (.bool true) _ hF0 (hF_val 11 ⟨(G11.out _).2 rfl, fun p hp => by rw [O11.out] at hp; cases hp⟩) (fun j hj hf h => hF_up (lH_up HST.out (Below.refl _ _)) 11 _ j hj h)
          · intro u w21 au hsl hel hu hF0 hp' K hK
            have t102 : au.tmps[102]?.getD undef = u 11 := hsl.out 11 102 (by kernel_rfl)
            have h11 : u 11 = .bool true := (G11.out _).1 (PreF.get hp' 11 (by kernel_rfl)).1
            rw [h11] at t102
            have t16 : au.tmps[16]?.getD undef = .slice (some ⟨b16, 0, none⟩) 4 c16 := (hel.out 16 (by kernel_rfl)).trans (by kernel_rfl)
            refine step_guardV rfl rfl rfl t102 ?_
            go_simp
            exact hK.out (.slice (some ⟨b16, 0, none⟩) 4 c16) _ hF0 (hF_val 12 ⟨(G12.out _).2 rfl, fun p hp => by rw [O12.out] at hp; cases hp⟩) (fun j hj hf h => hF_up (lH_up HST.out (Below.refl _ _)) 12 _ j hj h)
          · intro u w21 au hsl hel hu hF0 hp' K hK
            have t102 : au.tmps[102]?.getD undef = u 11 := hsl.out 11 102 (by kernel_rfl)
            have h11 : u 11 = .bool true := (G11.out _).1 (PreF.get hp' 11 (by kernel_rfl)).1
            rw [h11] at t102
            have t103 : au.tmps[103]?.getD undef = u 12 := hsl.out 12 103 (by kernel_rfl)
            have h12 : u 12 = .slice (some ⟨b16, 0, none⟩) 4 c16 := (G12.out _).1 (PreF.get hp' 12 (by kernel_rfl)).1
            rw [h12] at t103
            refine step_guardV rfl rfl rfl t102 ?_
            go_simp
            exact hK.out (.pointer (some ⟨b16, 1, none⟩)) _ hF0 (hF_val 13 ⟨(G13.out _).2 rfl, fun p hp => by rw [O13.out] at hp; cases hp⟩) (fun j hj hf h => hF_up (lH_up HST.out (Below.refl _ _)) 13 _ j hj h)
          · intro u w21 au hsl hel hu hF0 hp' K hK
            have t102 : au.tmps[102]?.getD undef = u 11 := hsl.out 11 102 (by kernel_rfl)
            have h11 : u 11 = .bool true := (G11.out _).1 (PreF.get hp' 11 (by kernel_rfl)).1
            rw [h11] at t102
            have t104 : au.tmps[104]?.getD undef = u 13 := hsl.out 13 104 (by kernel_rfl)
            have h13 : u 13 = .pointer (some ⟨b16, 1, none⟩) := (G13.out _).1 (PreF.get hp' 13 (by kernel_rfl)).1
            rw [h13] at t104
            obtain ⟨z0, z1, z2, z3⟩ := HTC.out w21 hF0
            refine step_guardV rfl rfl rfl t102 ?_
            go_simp
            exact hK.out (.int .i64 T1) _ hF0 (hF_val 14 ⟨(G14.out _).2 rfl, fun p hp => by rw [O14.out] at hp; cases hp⟩) (fun j hj hf h => hF_up (lH_up HST.out (Below.refl _ _)) 14 _ j hj h)
          · intro u w21 au hsl hel hu hF0 hp' K hK
            have t102 : au.tmps[102]?.getD undef = u 11 := hsl.out 11 102 (by kernel_rfl)
            have h11 : u 11 = .bool true := (G11.out _).1 (PreF.get hp' 11 (by kernel_rfl)).1
            rw [h11] at t102
            have t16 : au.tmps[16]?.getD undef = .slice (some ⟨b16, 0, none⟩) 4 c16 := (hel.out 16 (by kernel_rfl)).trans (by kernel_rfl)
            refine step_guardV rfl rfl rfl t102 ?_
            go_simp
            exact hK.out (.slice (some ⟨b16, 0, none⟩) 4 c16) _ hF0 (hF_val 15 ⟨(G15.out _).2 rfl, fun p hp => by rw [O15.out] at hp; cases hp⟩) (fun j hj hf h => hF_up (lH_up HST.out (Below.refl _ _)) 15 _ j hj h)
          · intro u w21 au hsl hel hu hF0 hp' K hK
            have t102 : au.tmps[102]?.getD undef = u 11 := hsl.out 11 102 (by kernel_rfl)
            have h11 : u 11 = .bool true := (G11.out _).1 (PreF.get hp' 11 (by kernel_rfl)).1
            rw [h11] at t102
            have t106 : au.tmps[106]?.getD undef = u 15 := hsl.out 15 106 (by kernel_rfl)
            have h15 : u 15 = .slice (some ⟨b16, 0, none⟩) 4 c16 := (G15.out _).1 (PreF.get hp' 15 (by kernel_rfl)).1
            rw [h15] at t106
            refine step_guardV rfl rfl rfl t102 ?_
            go_simp
            exact hK.out (.pointer (some ⟨b16, 0, none⟩)) _ hF0 (hF_val 16 ⟨(G16.out _).2 rfl, fun p hp => by rw [O16.out] at hp; cases hp⟩) (fun j hj hf h => hF_up (lH_up HST.out (Below.refl _ _)) 16 _ j hj h)
          · intro u w21 au hsl hel hu hF0 hp' K hK
            have t102 : au.tmps[102]?.getD undef = u 11 := hsl.out 11 102 (by kernel_rfl)
            have h11 : u 11 = .bool true := (G11.out _).1 (PreF.get hp' 11 (by kernel_rfl)).1
            rw [h11] at t102
            have t107 : au.tmps[107]?.getD undef = u 16 := hsl.out 16 107 (by kernel_rfl)
            have h16 : u 16 = .pointer (some ⟨b16, 0, none⟩) := (G16.out _).1 (PreF.get hp' 16 (by kernel_rfl)).1
            rw [h16] at t107
            obtain ⟨z0, z1, z2, z3⟩ := HTC.out w21 hF0
            refine step_guardV rfl rfl rfl t102 ?_
            go_simp
            exact hK.out (.int .i64 T0) _ hF0 (hF_val 17 ⟨(G17.out _).2 rfl, fun p hp => by rw [O17.out] at hp; cases hp⟩) (fun j hj hf h => hF_up (lH_up HST.out (Below.refl _ _)) 17 _ j hj h)
          · intro u w21 au hsl hel hu hF0 hp' K hK
            have t102 : au.tmps[102]?.getD undef = u 11 := hsl.out 11 102 (by kernel_rfl)
            have h11 : u 11 = .bool true := (G11.out _).1 (PreF.get hp' 11 (by kernel_rfl)).1
            rw [h11] at t102
            have t105 : au.tmps[105]?.getD undef = u 14 := hsl.out 14 105 (by kernel_rfl)
            have h14 : u 14 = .int .i64 T1 := (G14.out _).1 (PreF.get hp' 14 (by kernel_rfl)).1
            rw [h14] at t105
            have t108 : au.tmps[108]?.getD undef = u 17 := hsl.out 17 108 (by kernel_rfl)
            have h17 : u 17 = .int .i64 T0 := (G17.out _).1 (PreF.get hp' 17 (by kernel_rfl)).1
            rw [h17] at t108
            refine step_guardV rfl rfl rfl t102 ?_
            go_simp
            exact hK.out (.bool true) _ hF0 (hF_val 18 ⟨(G18.out _).2 rfl, fun p hp => by rw [O18.out] at hp; cases hp⟩) (fun j hj hf h => hF_up (lH_up HST.out (Below.refl _ _)) 18 _ j hj h)
          · intro u w21 au hsl hel hu hF0 hp' K hK
            have t102 : au.tmps[102]?.getD undef = u 11 := hsl.out 11 102 (by kernel_rfl)
            have h11 : u 11 = .bool true := (G11.out _).1 (PreF.get hp' 11 (by kernel_rfl)).1
            rw [h11] at t102
            have t109 : au.tmps[109]?.getD undef = u 18 := hsl.out 18 109 (by kernel_rfl)
            have h18 : u 18 = .bool true := (G18.out _).1 (PreF.get hp' 18 (by kernel_rfl)).1
            rw [h18] at t109
            refine step_plain rfl ?_
            go_simp
            exact hK.out (.bool true) _ hF0 (hF_val 19 ⟨(G19.out _).2 rfl, fun p hp => by rw [O19.out] at hp; cases hp⟩) (fun j hj hf h => hF_up (lH_up HST.out (Below.refl _ _)) 19 _ j hj h)
          · intro u w21 au hsl hel hu hF0 hp' K hK
            have t110 : au.tmps[110]?.getD undef = u 19 := hsl.out 19 110 (by kernel_rfl)
            have h19 : u 19 = .bool true := (G19.out _).1 (PreF.get hp' 19 (by kernel_rfl)).1
            rw [h19] at t110
            refine step_plain rfl ?_
            go_simp
            exact hK.out (.bool true) _ hF0 (hF_val 20 ⟨(G20.out _).2 rfl, fun p hp => by rw [O20.out] at hp; cases hp⟩) (fun j hj hf h => hF_up (lH_up HST.out (Below.refl _ _)) 20 _ j hj h)
          · intro u w21 au hsl hel hu hF0 hp' K hK
            have t111 : au.tmps[111]?.getD undef = u 20 := hsl.out 20 111 (by kernel_rfl)
            have h20 : u 20 = .bool true := (G20.out _).1 (PreF.get hp' 20 (by kernel_rfl)).1
            rw [h20] at t111
            have t16 : au.tmps[16]?.getD undef = .slice (some ⟨b16, 0, none⟩) 4 c16 := (hel.out 16 (by kernel_rfl)).trans (by kernel_rfl)
            refine step_guardV rfl rfl rfl t111 ?_
            go_simp
            exact hK.out (.slice (some ⟨b16, 0, none⟩) 4 c16) _ hF0 (hF_val 21 ⟨(G21.out _).2 rfl, fun p hp => by rw [O21.out] at hp; cases hp⟩) (fun j hj hf h => hF_up (lH_up HST.out (Below.refl _ _)) 21 _ j hj h)
          · intro u w21 au hsl hel hu hF0 hp' K hK
            have t111 : au.tmps[111]?.getD undef = u 20 := hsl.out 20 111 (by kernel_rfl)
            have h20 : u 20 = .bool true := (G20.out _).1 (PreF.get hp' 20 (by kernel_rfl)).1
            rw [h20] at t111
            have t112 : au.tmps[112]?.getD undef = u 21 := hsl.out 21 112 (by kernel_rfl)
            have h21 : u 21 = .slice (some ⟨b16, 0, none⟩) 4 c16 := (G21.out _).1 (PreF.get hp' 21 (by kernel_rfl)).1
            rw [h21] at t112
            refine step_guardV rfl rfl rfl t111 ?_
            go_simp
            exact hK.out (.pointer (some ⟨b16, 2, none⟩)) _ hF0 (hF_val 22 ⟨(G22.out _).2 rfl, fun p hp => by rw [O22.out] at hp; cases hp⟩) (fun j hj hf h => hF_up (lH_up HST.out (Below.refl _ _)) 22 _ j hj h)
          · intro u w21 au hsl hel hu hF0 hp' K hK
            have t111 : au.tmps[111]?.getD undef = u 20 := hsl.out 20 111 (by kernel_rfl)
            have h20 : u 20 = .bool true := (G20.out _).1 (PreF.get hp' 20 (by kernel_rfl)).1
            rw [h20] at t111
            have t113 : au.tmps[113]?.getD undef = u 22 := hsl.out 22 113 (by kernel_rfl)
            have h22 : u 22 = .pointer (some ⟨b16, 2, none⟩) := (G22.out _).1 (PreF.get hp' 22 (by kernel_rfl)).1
            rw [h22] at t113
            obtain ⟨z0, z1, z2, z3⟩ := HTC.out w21 hF0
            refine step_guardV rfl rfl rfl t111 ?_
            go_simp
            exact hK.out (.int .i64 T2) _ hF0 (hF_val 23 ⟨(G23.out _).2 rfl, fun p hp => by rw [O23.out] at hp; cases hp⟩) (fun j hj hf h => hF_up (lH_up HST.out (Below.refl _ _)) 23 _ j hj h)
          · intro u w21 au hsl hel hu hF0 hp' K hK
            have t111 : au.tmps[111]?.getD undef = u 20 := hsl.out 20 111 (by kernel_rfl)
            have h20 : u 20 = .bool true := (G20.out _).1 (PreF.get hp' 20 (by kernel_rfl)).1
            rw [h20] at t111
            have t16 : au.tmps[16]?.getD undef = .slice (some ⟨b16, 0, none⟩) 4 c16 := (hel.out 16 (by kernel_rfl)).trans (by kernel_rfl)
            refine step_guardV rfl rfl rfl t111 ?_
            go_simp
            exact hK.out (.slice (some ⟨b16, 0, none⟩) 4 c16) _ hF0 (hF_val 24 ⟨(G24.out _).2 rfl, fun p hp => by rw [O24.out] at hp; cases hp⟩) (fun j hj hf h => hF_up (lH_up HST.out (Below.refl _ _)) 24 _ j hj h)
          · intro u w21 au hsl hel hu hF0 hp' K hK
            have t111 : au.tmps[111]?.getD undef = u 20 := hsl.out 20 111 (by kernel_rfl)
            have h20 : u 20 = .bool true := (G20.out _).1 (PreF.get hp' 20 (by kernel_rfl)).1
            rw [h20] at t111
            have t115 : au.tmps[115]?.getD undef = u 24 := hsl.out 24 115 (by kernel_rfl)
            have h24 : u 24 = .slice (some ⟨b16, 0, none⟩) 4 c16 := (G24.out _).1 (PreF.get hp' 24 (by kernel_rfl)).1
            rw [h24] at t115
            refine step_guardV rfl rfl rfl t111 ?_
            go_simp
            exact hK.out (.pointer (some ⟨b16, 1, none⟩)) _ hF0 (hF_val 25 ⟨(G25.out _).2 rfl, fun p hp => by rw [O25.out] at hp; cases hp⟩) (fun j hj hf h => hF_up (lH_up HST.out (Below.refl _ _)) 25 _ j hj h)
          · intro u w21 au hsl hel hu hF0 hp' K hK
            have t111 : au.tmps[111]?.getD undef = u 20 := hsl.out 20 111 (by kernel_rfl)
            have h20 : u 20 = .bool true := (G20.out _).1 (PreF.get hp' 20 (by kernel_rfl)).1
            rw [h20] at t111
            have t116 : au.tmps[116]?.getD undef = u 25 := hsl.out 25 116 (by kernel_rfl)
            have h25 : u 25 = .pointer (some ⟨b16, 1, none⟩) := (G25.out _).1 (PreF.get hp' 25 (by kernel_rfl)).1
            rw [h25] at t116
            obtain ⟨z0, z1, z2, z3⟩ := HTC.out w21 hF0
            refine step_guardV rfl rfl rfl t111 ?_
            go_simp
            exact hK.out (.int .i64 T1) _ hF0 (hF_val 26 ⟨(G26.out _).2 rfl, fun p hp => by rw [O26.out] at hp; cases hp⟩) (fun j hj hf h => hF_up (lH_up HST.out (Below.refl _ _)) 26 _ j hj h)
          · intro u w21 au hsl hel hu hF0 hp' K hK
            have t111 : au.tmps[111]?.getD undef = u 20 := hsl.out 20 111 (by kernel_rfl)
            have h20 : u 20 = .bool true := (G20.out _).1 (PreF.get hp' 20 (by kernel_rfl)).1
            rw [h20] at t111
            have t114 : au.tmps[114]?.getD undef = u 23 := hsl.out 23 114 (by kernel_rfl)
            have h23 : u 23 = .int .i64 T2 := (G23.out _).1 (PreF.get hp' 23 (by kernel_rfl)).1
            rw [h23] at t114
            have t117 : au.tmps[117]?.getD undef = u 26 := hsl.out 26 117 (by kernel_rfl)
            have h26 : u 26 = .int .i64 T1 := (G26.out _).1 (PreF.get hp' 26 (by kernel_rfl)).1
            rw [h26] at t117
            refine step_guardV rfl rfl rfl t111 ?_
            go_simp
            exact hK.out (.bool true) _ hF0 (hF_val 27 ⟨(G27.out _).2 rfl, fun p hp => by rw [O27.out] at hp; cases hp⟩) (fun j hj hf h => hF_up (lH_up HST.out (Below.refl _ _)) 27 _ j hj h)
          · intro u w21 au hsl hel hu hF0 hp' K hK
            have t111 : au.tmps[111]?.getD undef = u 20 := hsl.out 20 111 (by kernel_rfl)
            have h20 : u 20 = .bool true := (G20.out _).1 (PreF.get hp' 20 (by kernel_rfl)).1
            rw [h20] at t111
            have t118 : au.tmps[118]?.getD undef = u 27 := hsl.out 27 118 (by kernel_rfl)
            have h27 : u 27 = .bool true := (G27.out _).1 (PreF.get hp' 27 (by kernel_rfl)).1
            rw [h27] at t118
            refine step_plain rfl ?_
            go_simp
            exact hK.out (.bool true) _ hF0 (hF_val 28 ⟨(G28.out _).2 rfl, fun p hp => by rw [O28.out] at hp; cases hp⟩) (fun j hj hf h => hF_up (lH_up HST.out (Below.refl _ _)) 28 _ j hj h)
          · intro u w21 au hsl hel hu hF0 hp' K hK
            have t119 : au.tmps[119]?.getD undef = u 28 := hsl.out 28 119 (by kernel_rfl)
            have h28 : u 28 = .bool true := (G28.out _).1 (PreF.get hp' 28 (by kernel_rfl)).1
            rw [h28] at t119
            refine step_plain rfl ?_
            go_simp
            exact hK.out (.bool true) _ hF0 (hF_val 29 ⟨(G29.out _).2 rfl, fun p hp => by rw [O29.out] at hp; cases hp⟩) (fun j hj hf h => hF_up (lH_up HST.out (Below.refl _ _)) 29 _ j hj h)
          · intro u w21 au hsl hel hu hF0 hp' K hK
            have t120 : au.tmps[120]?.getD undef = u 29 := hsl.out 29 120 (by kernel_rfl)
            have h29 : u 29 = .bool true := (G29.out _).1 (PreF.get hp' 29 (by kernel_rfl)).1
            rw [h29] at t120
            have t16 : au.tmps[16]?.getD undef = .slice (some ⟨b16, 0, none⟩) 4 c16 := (hel.out 16 (by kernel_rfl)).trans (by kernel_rfl)
            refine step_guardV rfl rfl rfl t120 ?_
            go_simp
            exact hK.out (.slice (some ⟨b16, 0, none⟩) 4 c16) _ hF0 (hF_val 30 ⟨(G30.out _).2 rfl, fun p hp => by rw [O30.out] at hp; cases hp⟩) (fun j hj hf h => hF_up (lH_up HST.out (Below.refl _ _)) 30 _ j hj h)
          · intro u w21 au hsl hel hu hF0 hp' K hK
            have t120 : au.tmps[120]?.getD undef = u 29 := hsl.out 29 120 (by kernel_rfl)
            have h29 : u 29 = .bool true := (G29.out _).1 (PreF.get hp' 29 (by kernel_rfl)).1
            rw [h29] at t120
            have t121 : au.tmps[121]?.getD undef = u 30 := hsl.out 30 121 (by kernel_rfl)
            have h30 : u 30 = .slice (some ⟨b16, 0, none⟩) 4 c16 := (G30.out _).1 (PreF.get hp' 30 (by kernel_rfl)).1
            rw [h30] at t121
            refine step_guardV rfl rfl rfl t120 ?_
            go_simp
            exact hK.out (.pointer (some ⟨b16, 3, none⟩)) _ hF0 (hF_val 31 ⟨(G31.out _).2 rfl, fun p hp => by rw [O31.out] at hp; cases hp⟩) (fun j hj hf h => hF_up (lH_up HST.out (Below.refl _ _)) 31 _ j hj h)
          · intro u w21 au hsl hel hu hF0 hp' K hK
            have t120 : au.tmps[120]?.getD undef = u 29 := hsl.out 29 120 (by kernel_rfl)
            have h29 : u 29 = .bool true := (G29.out _).1 (PreF.get hp' 29 (by kernel_rfl)).1
            rw [h29] at t120
            have t122 : au.tmps[122]?.getD undef = u 31 := hsl.out 31 122 (by kernel_rfl)
            have h31 : u 31 = .pointer (some ⟨b16, 3, none⟩) := (G31.out _).1 (PreF.get hp' 31 (by kernel_rfl)).1
            rw [h31] at t122
            obtain ⟨z0, z1, z2, z3⟩ := HTC.out w21 hF0
            refine step_guardV rfl rfl rfl t120 ?_
            go_simp
            exact hK.out (.int .i64 T3) _ hF0 (hF_val 32 ⟨(G32.out _).2 rfl, fun p hp => by rw [O32.out] at hp; cases hp⟩) (fun j hj hf h => hF_up (lH_up HST.out (Below.refl _ _)) 32 _ j hj h)
          · intro u w21 au hsl hel hu hF0 hp' K hK
            have t120 : au.tmps[120]?.getD undef = u 29 := hsl.out 29 120 (by kernel_rfl)
            have h29 : u 29 = .bool true := (G29.out _).1 (PreF.get hp' 29 (by kernel_rfl)).1
            rw [h29] at t120
            have t16 : au.tmps[16]?.getD undef = .slice (some ⟨b16, 0, none⟩) 4 c16 := (hel.out 16 (by kernel_rfl)).trans (by kernel_rfl)
            refine step_guardV rfl rfl rfl t120 ?_
            go_simp
            exact hK.out (.slice (some ⟨b16, 0, none⟩) 4 c16) _ hF0 (hF_val 33 ⟨(G33.out _).2 rfl, fun p hp => by rw [O33.out] at hp; cases hp⟩) (fun j hj hf h => hF_up (lH_up HST.out (Below.refl _ _)) 33 _ j hj h)
          · intro u w21 au hsl hel hu hF0 hp' K hK
            have t120 : au.tmps[120]?.getD undef = u 29 := hsl.out 29 120 (by kernel_rfl)
            have h29 : u 29 = .bool true := (G29.out _).1 (PreF.get hp' 29 (by kernel_rfl)).1
            rw [h29] at t120
            have t124 : au.tmps[124]?.getD undef = u 33 := hsl.out 33 124 (by kernel_rfl)
            have h33 : u 33 = .slice (some ⟨b16, 0, none⟩) 4 c16 := (G33.out _).1 (PreF.get hp' 33 (by kernel_rfl)).1
            rw [h33] at t124
            refine step_guardV rfl rfl rfl t120 ?_
            go_simp
            exact hK.out (.pointer (some ⟨b16, 2, none⟩)) _ hF0 (hF_val 34 ⟨(G34.out _).2 rfl, fun p hp => by rw [O34.out] at hp; cases hp⟩) (fun j hj hf h => hF_up (lH_up HST.out (Below.refl _ _)) 34 _ j hj h)
          · intro u w21 au hsl hel hu hF0 hp' K hK
            have t120 : au.tmps[120]?.getD undef = u 29 := hsl.out 29 120 (by kernel_rfl)
            have h29 : u 29 = .bool true := (G29.out _).1 (PreF.get hp' 29 (by kernel_rfl)).1
            rw [h29] at t120
            have t125 : au.tmps[125]?.getD undef = u 34 := hsl.out 34 125 (by kernel_rfl)
            have h34 : u 34 = .pointer (some ⟨b16, 2, none⟩) := (G34.out _).1 (PreF.get hp' 34 (by kernel_rfl)).1
            rw [h34] at t125
            obtain ⟨z0, z1, z2, z3⟩ := HTC.out w21 hF0
            refine step_guardV rfl rfl rfl t120 ?_
            go_simp
            exact hK.out (.int .i64 T2) _ hF0 (hF_val 35 ⟨(G35.out _).2 rfl, fun p hp => by rw [O35.out] at hp; cases hp⟩) (fun j hj hf h => hF_up (lH_up HST.out (Below.refl _ _)) 35 _ j hj h)
          · intro u w21 au hsl hel hu hF0 hp' K hK
            have t120 : au.tmps[120]?.getD undef = u 29 := hsl.out 29 120 (by kernel_rfl)
            have h29 : u 29 = .bool true := (G29.out _).1 (PreF.get hp' 29 (by kernel_rfl)).1
            rw [h29] at t120
            have t123 : au.tmps[123]?.getD undef = u 32 := hsl.out 32 123 (by kernel_rfl)
            have h32 : u 32 = .int .i64 T3 := (G32.out _).1 (PreF.get hp' 32 (by kernel_rfl)).1
            rw [h32] at t123
            have t126 : au.tmps[126]?.getD undef = u 35 := hsl.out 35 126 (by kernel_rfl)
            have h35 : u 35 = .int .i64 T2 := (G35.out _).1 (PreF.get hp' 35 (by kernel_rfl)).1
            rw [h35] at t126
            refine step_guardV rfl rfl rfl t120 ?_
            go_simp
            exact hK.out (.bool true) _ hF0 (hF_val 36 ⟨(G36.out _).2 rfl, fun p hp => by rw [O36.out] at hp; cases hp⟩) (fun j hj hf h => hF_up (lH_up HST.out (Below.refl _ _)) 36 _ j hj h)
          · intro u w21 au hsl hel hu hF0 hp' K hK
            have t120 : au.tmps[120]?.getD undef = u 29 := hsl.out 29 120 (by kernel_rfl)
            have h29 : u 29 = .bool true := (G29.out _).1 (PreF.get hp' 29 (by kernel_rfl)).1
            rw [h29] at t120
            have t127 : au.tmps[127]?.getD undef = u 36 := hsl.out 36 127 (by kernel_rfl)
            have h36 : u 36 = .bool true := (G36.out _).1 (PreF.get hp' 36 (by kernel_rfl)).1
            rw [h36] at t127
            refine step_plain rfl ?_
            go_simp
            exact hK.out (.bool true) _ hF0 (hF_val 37 ⟨(G37.out _).2 rfl, fun p hp => by rw [O37.out] at hp; cases hp⟩) (fun j hj hf h => hF_up (lH_up HST.out (Below.refl _ _)) 37 _ j hj h)
          · intro u w21 au hsl hel hu hF0 hp' K hK
            have t128 : au.tmps[128]?.getD undef = u 37 := hsl.out 37 128 (by kernel_rfl)
            have h37 : u 37 = .bool true := (G37.out _).1 (PreF.get hp' 37 (by kernel_rfl)).1
            rw [h37] at t128
            refine step_plain rfl ?_
            go_simp
            exact hK.out (.bool true) _ hF0 (hF_val 38 ⟨(G38.out _).2 rfl, fun p hp => by rw [O38.out] at hp; cases hp⟩) (fun j hj hf h => hF_up (lH_up HST.out (Below.refl _ _)) 38 _ j hj h)
          · intro u w21 au hsl hel hu hF0 hp' K hK
            have t129 : au.tmps[129]?.getD undef = u 38 := hsl.out 38 129 (by kernel_rfl)
            have h38 : u 38 = .bool true := (G38.out _).1 (PreF.get hp' 38 (by kernel_rfl)).1
            rw [h38] at t129
            have t16 : au.tmps[16]?.getD undef = .slice (some ⟨b16, 0, none⟩) 4 c16 := (hel.out 16 (by kernel_rfl)).trans (by kernel_rfl)
            refine step_guardV rfl rfl rfl t129 ?_
            go_simp
            exact hK.out (.slice (some ⟨b16, 0, none⟩) 4 c16) _ hF0 (hF_val 39 ⟨(G39.out _).2 rfl, fun p hp => by rw [O39.out] at hp; cases hp⟩) (fun j hj hf h => hF_up (lH_up HST.out (Below.refl _ _)) 39 _ j hj h)
          · intro u w21 au hsl hel hu hF0 hp' K hK
            have t129 : au.tmps[129]?.getD undef = u 38 := hsl.out 38 129 (by kernel_rfl)
            have h38 : u 38 = .bool true := (G38.out _).1 (PreF.get hp' 38 (by kernel_rfl)).1
            rw [h38] at t129
            have t130 : au.tmps[130]?.getD undef = u 39 := hsl.out 39 130 (by kernel_rfl)
            have h39 : u 39 = .slice (some ⟨b16, 0, none⟩) 4 c16 := (G39.out _).1 (PreF.get hp' 39 (by kernel_rfl)).1
            rw [h39] at t130
            refine step_guardV rfl rfl rfl t129 ?_
            go_simp
            exact hK.out (.pointer (some ⟨b16, 0, none⟩)) _ hF0 (hF_val 40 ⟨(G40.out _).2 rfl, fun p hp => by rw [O40.out] at hp; cases hp⟩) (fun j hj hf h => hF_up (lH_up HST.out (Below.refl _ _)) 40 _ j hj h)
          · intro u w21 au hsl hel hu hF0 hp' K hK
            have t129 : au.tmps[129]?.getD undef = u 38 := hsl.out 38 129 (by kernel_rfl)
            have h38 : u 38 = .bool true := (G38.out _).1 (PreF.get hp' 38 (by kernel_rfl)).1
            rw [h38] at t129
            have t131 : au.tmps[131]?.getD undef = u 40 := hsl.out 40 131 (by kernel_rfl)
            have h40 : u 40 = .pointer (some ⟨b16, 0, none⟩) := (G40.out _).1 (PreF.get hp' 40 (by kernel_rfl)).1
            rw [h40] at t131
            obtain ⟨z0, z1, z2, z3⟩ := HTC.out w21 hF0
            refine step_guardV rfl rfl rfl t129 ?_
            go_simp
            exact hK.out (.int .i64 T0) _ hF0 (hF_val 41 ⟨(G41.out _).2 rfl, fun p hp => by rw [O41.out] at hp; cases hp⟩) (fun j hj hf h => hF_up (lH_up HST.out (Below.refl _ _)) 41 _ j hj h)
          · intro u w21 au hsl hel hu hF0 hp' K hK
            have t129 : au.tmps[129]?.getD undef = u 38 := hsl.out 38 129 (by kernel_rfl)
            have h38 : u 38 = .bool true := (G38.out _).1 (PreF.get hp' 38 (by kernel_rfl)).1
            rw [h38] at t129
            have t14 : au.tmps[14]?.getD undef = .pointer (some ⟨Q14, 0, none⟩) := (hel.out 14 (by kernel_rfl)).trans (by kernel_rfl)
            obtain ⟨xa, xb, xc⟩ := (HX148.out.below hF0 HX148.out.lt).im3
            refine step_guardV rfl rfl rfl t129 ?_
            go_simp
            exact hK.out (im P P (some ⟨S14, 0, none⟩) N N) _ hF0 (hF_val 42 ⟨(G42.out _).2 rfl, fun p hp => by rw [O42.out] at hp; cases hp⟩) (fun j hj hf h => hF_up (lH_up HST.out (Below.refl _ _)) 42 _ j hj h)
          · intro u w21 au hsl hel hu hF0 hp' K hK
            have t129 : au.tmps[129]?.getD undef = u 38 := hsl.out 38 129 (by kernel_rfl)
            have h38 : u 38 = .bool true := (G38.out _).1 (PreF.get hp' 38 (by kernel_rfl)).1
            rw [h38] at t129
            have t10 : au.tmps[10]?.getD undef = .pointer (some ⟨Q10, 0, none⟩) := (hel.out 10 (by kernel_rfl)).trans (by kernel_rfl)
            obtain ⟨xa, xb, xc⟩ := (HX108.out.below hF0 HX108.out.lt).im3
            refine step_guardV rfl rfl rfl t129 ?_
            go_simp
            exact hK.out (im P P a10 N c10) _ hF0 (hF_val 43 ⟨(G43.out _).2 rfl, fun p hp => by rw [O43.out] at hp; cases hp⟩) (fun j hj hf h => hF_up (lH_up HST.out (Below.refl _ _)) 43 _ j hj h)
          · intro u w21 au hsl hel hu hF0 hp' K hK
            have t129 : au.tmps[129]?.getD undef = u 38 := hsl.out 38 129 (by kernel_rfl)
            have h38 : u 38 = .bool true := (G38.out _).1 (PreF.get hp' 38 (by kernel_rfl)).1
            rw [h38] at t129
            have t134 : au.tmps[134]?.getD undef = u 43 := hsl.out 43 134 (by kernel_rfl)
            have h43 : u 43 = im P P a10 N c10 := (G43.out _).1 (PreF.get hp' 43 (by kernel_rfl)).1
            rw [h43] at t134
            have cc := HLS.out a10 c10 w21 (HP108.out.below hF0)
            refine step_guardV rfl rfl rfl t129 ?_
            go_simp
            refine cc.mono ?_
            rintro e w22 ⟨q0, q1, q2, rfl, q3, -, hb⟩
            exact hK.out _ w22 (bnext hF0 (Nat.le_refl _) hb) (hF_val 44 ⟨G44.out _, fun p hp => by rw [O44.out] at hp; cases hp; exact ⟨_, _, rfl, Ow.px q3⟩⟩) (fun j hj hf h => hF_up (lH_up HST.out hb) 44 _ j hj h)
          · intro u w21 au hsl hel hu hF0 hp' K hK
            have t129 : au.tmps[129]?.getD undef = u 38 := hsl.out 38 129 (by kernel_rfl)
            have h38 : u 38 = .bool true := (G38.out _).1 (PreF.get hp' 38 (by kernel_rfl)).1
            rw [h38] at t129
            have t133 : au.tmps[133]?.getD undef = u 42 := hsl.out 42 133 (by kernel_rfl)
            have h42 : u 42 = im P P (some ⟨S14, 0, none⟩) N N := (G42.out _).1 (PreF.get hp' 42 (by kernel_rfl)).1
            rw [h42] at t133
            have t135 : au.tmps[135]?.getD undef = u 44 := hsl.out 44 135 (by kernel_rfl)
            obtain ⟨A44, K44, e44, p44⟩ := (PreF.get hp' 44 (by kernel_rfl)).2 _ O44.out
            rw [e44] at t135
            have cc := HMI.out (some ⟨S14, 0, none⟩) N A44 K44 w21 (HP148.out.below hF0) p44
            refine step_guardV rfl rfl rfl t129 ?_
            go_simp
            refine cc.mono ?_
            rintro e w22 ⟨rfl, hb⟩
            exact hK.out (.int .i64 T0) w22 (bnext hF0 (Nat.le_refl _) hb) (hF_val 45 ⟨(G45.out _).2 rfl, fun p hp => by rw [O45.out] at hp; cases hp⟩) (fun j hj hf h => hF_up (lH_up HST.out hb) 45 _ j hj h)
          · intro u w21 au hsl hel hu hF0 hp' K hK
            have t129 : au.tmps[129]?.getD undef = u 38 := hsl.out 38 129 (by kernel_rfl)
            have h38 : u 38 = .bool true := (G38.out _).1 (PreF.get hp' 38 (by kernel_rfl)).1
            rw [h38] at t129
            have t132 : au.tmps[132]?.getD undef = u 41 := hsl.out 41 132 (by kernel_rfl)
            have h41 : u 41 = .int .i64 T0 := (G41.out _).1 (PreF.get hp' 41 (by kernel_rfl)).1
            rw [h41] at t132
            have t136 : au.tmps[136]?.getD undef = u 45 := hsl.out 45 136 (by kernel_rfl)
            have h45 : u 45 = .int .i64 T0 := (G45.out _).1 (PreF.get hp' 45 (by kernel_rfl)).1
            rw [h45] at t136
            refine step_guardV rfl rfl rfl t129 ?_
            go_simp
            exact hK.out (.bool true) _ hF0 (hF_val 46 ⟨(G46.out _).2 rfl, fun p hp => by rw [O46.out] at hp; cases hp⟩) (fun j hj hf h => hF_up (lH_up HST.out (Below.refl _ _)) 46 _ j hj h)
          · intro u w21 au hsl hel hu hF0 hp' K hK
            have t129 : au.tmps[129]?.getD undef = u 38 := hsl.out 38 129 (by kernel_rfl)
            have h38 : u 38 = .bool true := (G38.out _).1 (PreF.get hp' 38 (by kernel_rfl)).1
            rw [h38] at t129
            have t137 : au.tmps[137]?.getD undef = u 46 := hsl.out 46 137 (by kernel_rfl)
            have h46 : u 46 = .bool true := (G46.out _).1 (PreF.get hp' 46 (by kernel_rfl)).1
            rw [h46] at t137
            refine step_plain rfl ?_
            go_simp
            exact hK.out (.bool true) _ hF0 (hF_val 47 ⟨(G47.out _).2 rfl, fun p hp => by rw [O47.out] at hp; cases hp⟩) (fun j hj hf h => hF_up (lH_up HST.out (Below.refl _ _)) 47 _ j hj h)
          · intro u w21 au hsl hel hu hF0 hp' K hK
            have t138 : au.tmps[138]?.getD undef = u 47 := hsl.out 47 138 (by kernel_rfl)
            have h47 : u 47 = .bool true := (G47.out _).1 (PreF.get hp' 47 (by kernel_rfl)).1
            rw [h47] at t138
            refine step_plain rfl ?_
            go_simp
            exact hK.out (.bool true) _ hF0 (hF_val 48 ⟨(G48.out _).2 rfl, fun p hp => by rw [O48.out] at hp; cases hp⟩) (fun j hj hf h => hF_up (lH_up HST.out (Below.refl _ _)) 48 _ j hj h)
        · intro u w30 hF0 hall
          have hl : u 48 = .bool true := (G48.out _).1 (hall 48 (by decide)).1
          have HF := hide (bnext HBW8.out (Nat.le_refl _) hF0)
          clear hall hF0
          simp only [rgPut, Act.put, hl]
          clear hl
          go_simp
          go_wp2_with fail
          go_ret
          exact ⟨rfl, HF.out⟩

end Go.Proofs.Ytedjnemijeaeoaa

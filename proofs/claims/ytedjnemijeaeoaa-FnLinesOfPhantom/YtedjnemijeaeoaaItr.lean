/- The sum over an iterator; the values of a list. -/
import Derived.Test.YtedjnemijeaeoaaRfl
namespace Go.Proofs.Ytedjnemijeaeoaa
open Go.RowKit Go.Shelf

attribute [local go_sem] Oper.semAt_some

theorem fl_prefix (f : Nat → Int) {n : Nat} : ∀ {k : Nat}, k ≤ n → fl f k <+: fl f n := by
  induction n with
  | zero => intro k hk; obtain rfl : k = 0 := (by omega); exact List.prefix_refl _
  | succ n ih =>
    intro k hk
    by_cases e : k = n + 1
    · subst e; exact List.prefix_refl _
    · exact (ih (by omega)).trans ⟨[f n], rfl⟩
theorem fl_of_prefix {f : Nat → Int} {n : Nat} {pre : List Int} {x : Int} (h : (pre ++ [x]) <+: fl f n) : pre.length < n ∧ x = f pre.length ∧ pre = fl f pre.length := by
  have hl := h.length_le
  rw [fl_len] at hl
  simp at hl
  have h2 := fl_prefix f (show pre.length + 1 ≤ n by omega)
  have h3 := List.prefix_of_prefix_length_le h h2 (by rw [fl_len]; simp)
  have h4 := h3.eq_of_length (by rw [fl_len]; simp)
  have h5 : pre ++ [x] = fl f pre.length ++ [f pre.length] := h4
  obtain ⟨h6, h7⟩ := List.append_inj' h5 rfl
  exact ⟨by omega, by simpa using h7, h6⟩

/-- the sum of numbers, as the machine adds -/
def sumW : List Int → Int := List.foldl (fun s v => wrap64 (s + v)) 0
theorem sumW_snoc (pre : List Int) (x : Int) : sumW (pre ++ [x]) = wrap64 (sumW pre + x) := by simp [sumW]

set_option maxRecDepth 100000 in
set_option maxHeartbeats 2000000 in
theorem total_any (gf : Nat) (lb : Array Value) (xs : List Int) (S : Nat → Prop) (w : World) (hseq : Gv Try.prog gf lb xs S w) (eg : ∀ args w, (callFunc gf args).run Try.prog w = .ok (.enter gf args) w) (hS : ∀ k, S k → k < w.heap.size) :
    Calls Try.prog 30 #[.func (.func gf) #[] lb] w fun e w' => e = .returned (.int .i64 (sumW xs)) ∧ Below w.heap.size w w' := by
  refine (callsIn_wide (n := 3)).1 ?_
  refine callsIn_of_wp_marks Try.func30 rfl trivial ?_ rfl
  simp only [Try.ntmps30, List.size_toArray, List.length_cons, List.length_nil, Nat.reduceAdd, Nat.reduceSub, Array.replicate_succ, Array.replicate_zero, List.push_toArray, List.append_toArray, List.nil_append, List.cons_append]
  gi_wp2
  have bS := Boxed.new w 2 (.int .i64 0)
  have hB0 : Below w.heap.size w (w.alloc (.cells #[.int .i64 0] 2)) := (Below.refl _ w).alloc (Nat.le_refl _) _
  refine wpIn_gives (gf := gf) (lb := lb) rfl eg hseq (fun k hk => by have := hS k hk; simp; omega) hB0 rfl
    (fun pre W => (W.cell? ⟨w.heap.size, 0, none⟩ = some (.int .i64 (sumW pre)) ∧ W.frozen? ⟨w.heap.size, 0, none⟩ = false) ∧ Below w.heap.size w W)
    (OwnFrom.and (Own.from (fun s A B row hs hg hr => ⟨cell_kept hs.1 hg hr, (frozen_kept hs.1 hg hr).trans hs.2⟩) _) (ownFrom_below (Nat.le_refl _) (by simp)))
    ⟨⟨bS.cell, bS.frozen⟩, hB0⟩
    (fun x => { tmps := #[.func (.func gf) #[] lb, undef, .int .i64 0, .pointer (some ⟨w.heap.size, 0, none⟩), .int .i64 x, .int .i64 0, .func (.func gf) #[] lb, .int .i64 x, undef, undef, undef, undef], defers := [] }) ?assign ?body ?done
  case assign =>
    intro l x W K hK
    gi_wp2
    exact hK
  case body =>
    rintro l pre x W ⟨⟨hc, hf⟩, hB⟩ _
    gi_wp2
    refine ⟨KS.setCell _ ?_, ⟨by rw [sumW_snoc]; exact World.cell?_setCell_same' _ _ _ (by rw [hc]; rfl), by rw [World.frozen?_setCell]; exact hf⟩, hB.setCell (p := ⟨w.heap.size, 0, none⟩) (Nat.le_refl _) _⟩
    intro h
    rcases h with h | h
    · have := hS _ h; simp at this
    · simp at h; omega
  case done =>
    rintro D W hD ⟨⟨hc, _⟩, hB⟩ hK
    gi_wp2
    refine ⟨by simp, .inl ⟨_, _, rfl, run_takeDeferred hK, ?_⟩⟩
    exact ⟨_, results_tmp rfl _ _ _, rfl, hB.trans (belowK_b (w := w) (Nat.le_refl _) W D _ _ (by simp at hD; omega) hK rfl rfl)⟩

set_option maxRecDepth 100000 in
theorem values_any (a : Option Addr) (len cap : Nat) (w : World) :
    Calls Try.prog 57 #[.slice a len cap] w fun e w' => e = .returned (.func (.func 69) #[] #[.pointer (some ⟨w.heap.size, 0, none⟩)]) ∧ w' = w.alloc (.cells #[.slice a len cap] 30) := by
  go_enter Try.func57, Try.ntmps57
  go_wp2
  go_ret
  exact ⟨rfl, rfl⟩

set_option maxRecDepth 100000 in
set_option maxHeartbeats 2000000 in
theorem values_gv (a : Option Addr) (len cap Bs : Nat) (f : Nat → Int) (S : Nat → Prop) (w : World) (hl : len ≤ 1048576) (hc : w.cell? ⟨Bs, 0, none⟩ = some (.slice a len cap)) (px : Px a len f w) (hS : ∀ p, a = some p → S p.block) :
    Gv Try.prog 69 #[.pointer (some ⟨Bs, 0, none⟩)] (fl f len) S w := by
  intro l J W hb hJ hY h0
  have hcW := (hb.cell (p := ⟨Bs, 0, none⟩) (World.block_lt_of_cell? w _ hc)).trans hc
  have HP := hide (px.below hb)
  clear hc px hb
  refine (callsIn_wide (n := 3)).1 ?_
  refine callsIn_of_wp Try.func69 rfl trivial ?_ rfl
  simp only [Try.ntmps69, List.size_toArray, List.length_cons, List.length_nil, Nat.reduceAdd, Nat.reduceSub, Array.replicate_succ, Array.replicate_zero, List.push_toArray, List.append_toArray, List.nil_append, List.cons_append]
  gi_wp2
  gi_loopw [7] (fun i wr => ∃ k : Nat, k ≤ len ∧ i = .int .i64 k ∧ J (fl f k) wr ∧ KS (fun k => S k ∨ W.heap.size ≤ k) W wr) (fun i _ => len - (intOf i).toNat)
  case atStart => exact ⟨0, Nat.zero_le _, rfl, h0, KS.refl _ _⟩
  case round =>
    obtain ⟨k, hk, rfl, hJs, hnx⟩ := hrel
    by_cases hlt : k < len
    · obtain ⟨b, off, rfl, hz⟩ := (hnx.px (fun p e => .inl (hS p e)) HP.out).at hlt
      obtain ⟨fn, tmps, assign, body, hy, hR⟩ := YieldAt.any (3 - 1) (hY _ (f k) wr hJs (fl_prefix f (show k + 1 ≤ len by omega)))
      clear hY HP hcW
      gi_wp2
      refine hR.mono ?_
      rintro e W3 ⟨rfl, hJ3, hk3⟩
      gi_wp2
      go_roundw
      case rel => exact ⟨k + 1, by omega, by simp, hJ3, hnx.trans hk3⟩
      case measure => simp [intOf]; omega
    · obtain rfl : k = len := by omega
      gi_wp2
      go_end0
      exact ⟨⟨_, rfl⟩, hJs⟩

end Go.Proofs.Ytedjnemijeaeoaa

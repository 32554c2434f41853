/- The sum of the numbers at places, and of the numbers on lines: what total answers. -/
import Derived.Test.YtcdklkebedpmnaaItr
import Derived.Test.YtcdklkebedpmnaaIpg
import Derived.Test.YtcdklkebedpmnaaIlg
namespace Go.Proofs.Ytcdklkebedpmnaa
open Go.RowKit Go.Shelf

attribute [local go_sem] Oper.semAt_some

set_option maxRecDepth 100000 in
theorem squares_any (a : Option Addr) (len cap : Nat) (w : World) :
    Calls Try.prog 34 #[.slice a len cap] w fun e w' => e = .returned (.func (.func 54) #[] #[.pointer (some ⟨w.heap.size, 0, none⟩)]) ∧ w' = w.alloc (.cells #[.slice a len cap] 24) := by
  go_enter Try.func34, Try.ntmps34
  go_wp2
  go_ret
  exact ⟨rfl, rfl⟩

set_option maxRecDepth 100000 in
set_option maxHeartbeats 2000000 in
theorem squares_gv (a : Option Addr) (len cap Bs : Nat) (f : Nat → Int) (S : Nat → Prop) (w : World) (hl : len ≤ 1048576) (hc : w.cell? ⟨Bs, 0, none⟩ = some (.slice a len cap)) (px : Px a len f w) (hS : ∀ p, a = some p → S p.block) :
    Gv Try.prog 54 #[.pointer (some ⟨Bs, 0, none⟩)] (fl (fun k => IntKind.i64.wrap (f k * f k)) len) S w := by
  intro l J W hb hJ hY h0
  have hcW := (hb.cell (p := ⟨Bs, 0, none⟩) (World.block_lt_of_cell? w _ hc)).trans hc
  have HP := hide (px.below hb)
  clear hc px hb
  refine (callsIn_wide (n := 3)).1 ?_
  refine callsIn_of_wp Try.func54 rfl trivial ?_ rfl
  simp only [Try.ntmps54, List.size_toArray, List.length_cons, List.length_nil, Nat.reduceAdd, Nat.reduceSub, Array.replicate_succ, Array.replicate_zero, List.push_toArray, List.append_toArray, List.nil_append, List.cons_append]
  gi_wp2
  gi_loopw [4, 7] (fun _ i wr => ∃ k : Nat, k ≤ len ∧ i = .int .i64 k ∧ J (fl (fun k => IntKind.i64.wrap (f k * f k)) k) wr ∧ KS (fun k => S k ∨ W.heap.size ≤ k) W wr) (fun _ i _ => len - (intOf i).toNat)
  case atStart => exact ⟨0, Nat.zero_le _, rfl, h0, KS.refl _ _⟩
  case round =>
    obtain ⟨k, hk, rfl, hJs, hnx⟩ := hrel
    by_cases hlt : k < len
    · obtain ⟨b, off, rfl, hz⟩ := (hnx.px (fun p e => .inl (hS p e)) HP.out).at hlt
      obtain ⟨fn, tmps, assign, body, hy, hR⟩ := YieldAt.any (3 - 1) (hY _ (IntKind.i64.wrap (f k * f k)) wr hJs (fl_prefix (fun k => IntKind.i64.wrap (f k * f k)) (show k + 1 ≤ len by omega)))
      have HF : Hid (∀ W', J (fl (fun k => IntKind.i64.wrap (f k * f k)) k ++ [IntKind.i64.wrap (f k * f k)]) W' → J (fl (fun k => IntKind.i64.wrap (f k * f k)) (k + 1)) W') := fun _ h => h
      obtain ⟨z, hzz⟩ : ∃ z, IntKind.i64.wrap (f k * f k) = z := ⟨_, rfl⟩
      rw [hzz] at hy hR HF
      have HK := hide hnx
      clear hY HP hcW hnx hJs
      gi_wp2
      refine hR.mono ?_
      rintro e W3 ⟨rfl, hJ3, hk3⟩
      gi_wp2
      go_roundw
      case rel => exact ⟨k + 1, by omega, by simp, HF.out _ hJ3, HK.out.trans hk3⟩
      case measure => simp [intOf]; omega
    · obtain rfl : k = len := by omega
      gi_wp2
      go_end0
      exact ⟨⟨_, rfl⟩, hJs⟩

end Go.Proofs.Ytcdklkebedpmnaa

namespace Go.Proofs.Ytcdklkebedpmnaa
open Go.RowKit Go.Shelf

theorem fl_map (f : Nat → Int) (g : Nat → Nat) : ∀ n, (fl (fun j => ((g j : Nat) : Int)) n).map (fun x => f x.toNat) = fl (fun j => f (g j)) n
  | 0 => rfl
  | n + 1 => by simp only [fl, List.map_append, fl_map f g n]; simp
theorem sumW_sm {f : Nat → Int} {M : Int} (hM : M ≤ 1000000000000) : ∀ {n : Nat}, n ≤ 1048576 → (∀ k, k < n → -M ≤ f k ∧ f k ≤ M) → sumW (fl f n) = Lnm.sm f n
  | 0, _, _ => rfl
  | n + 1, hn, h => by
    have ih := sumW_sm hM (n := n) (by omega) (fun k hk => h k (by omega))
    have h1 := h n (by omega)
    have h2 := Lnm.sm_bound (f := f) (M := M) (n := n) (fun k hk => h k (by omega))
    have h0 : 0 ≤ M := by omega
    have h3 : M * (n : Int) ≤ 1000000000000 * 1048576 := Int.mul_le_mul hM (by omega) (by omega) (by omega)
    show sumW (fl f n ++ [f n]) = Lnm.sm f n + f n
    rw [sumW_snoc, ih]
    unfold wrap64
    omega
theorem fl_mem {f : Nat → Int} {x : Int} : ∀ {n : Nat}, x ∈ fl f n → ∃ j, j < n ∧ x = f j
  | n + 1, h => by
    rcases List.mem_append.1 h with h | h
    · obtain ⟨j, hj, e⟩ := fl_mem h
      exact ⟨j, by omega, e⟩
    · exact ⟨n, by omega, by simpa using h⟩
theorem plc_lt {p l j : Nat} (hp : 0 < p) (hj : j < p) : Lnm.plc p l j < p * p := by
  have ht := Nat.mod_lt l hp
  have hq := Nat.mod_lt (l / p * j + l % p) hp
  unfold Lnm.plc
  split
  · have : j * p + p ≤ p * p := by rw [← Nat.succ_mul]; exact Nat.mul_le_mul_right _ (by omega)
    omega
  · generalize (l / p * j + l % p) % p = q at *
    have : q * p + p ≤ p * p := by rw [← Nat.succ_mul]; exact Nat.mul_le_mul_right _ (by omega)
    omega

set_option maxRecDepth 100000 in
/-- the sum along a line -/
theorem total_places (l p : Nat) (hp : 1 ≤ p) (hp2 : p ≤ 31) (hl : l < (p + 1) * p) (a : Option Addr) (cap : Nat) (f : Nat → Int) (hf : ∀ k, k < p * p → -1000000000 ≤ f k ∧ f k ≤ 1000000000) (w : World) (b1 b2 b3 Bp Bl : Nat) (hB : Bx3 b1 b2 b3 p (l / p : Nat) (l % p : Nat) w)
    (hcp : w.cell? ⟨Bp, 0, none⟩ = some (.func (.func 64) #[] #[.pointer (some ⟨b1, 0, none⟩), .pointer (some ⟨b2, 0, none⟩), .pointer (some ⟨b3, 0, none⟩)])) (hcl : w.cell? ⟨Bl, 0, none⟩ = some (.slice a (p * p : Nat) cap)) (px : Px a (p * p) f w) :
    Calls Try.prog 33 #[.func (.func 63) #[] #[.pointer (some ⟨Bp, 0, none⟩), .pointer (some ⟨Bl, 0, none⟩)]] w fun e w' => e = .returned (.int .i64 (Lnm.lin p f l)) ∧ Below w.heap.size w w' := by
  have hblk : ∀ q : Addr, a = some q → q.block < w.heap.size := by
    intro q hq
    obtain ⟨b, off, ha, hlt⟩ := px.lt (Nat.mul_pos hp hp)
    rw [hq] at ha
    cases ha
    exact hlt
  have h1 := placesOn_gv l p hp (by omega) hl b1 b2 b3 (· < w.heap.size) w hB hB.lt.1 hB.lt.2.1 hB.lt.2.2
  have h2 := numbersAt_gv a (p * p) cap f 64 _ _ (· < w.heap.size) w Bp Bl (enters_of Try.func64 (by kernel_rfl) rfl) hcp hcl px h1
    (fun x hx => by obtain ⟨j, hj, e⟩ := fl_mem hx; exact ⟨_, e, plc_lt hp hj⟩) hblk (World.block_lt_of_cell? w _ hcl) (fun _ h => h)
  rw [fl_map] at h2
  have h3 := total_any 63 _ _ (· < w.heap.size) w h2 (enters_of Try.func63 (by kernel_rfl) rfl) (fun _ h => h)
  rw [sumW_sm (M := 1000000000) (by omega) (by omega) (fun k hk => hf _ (plc_lt hp hk))] at h3
  exact h3

set_option maxRecDepth 100000 in
/-- the sum of the lines through a place -/
theorem total_lines (x y p : Nat) (hp : 1 ≤ p) (hp2 : p ≤ 31) (hx : x < p) (hy : y < p) (a : Option Addr) (cap : Nat) (f : Nat → Int) (hf : ∀ k, k < (p + 1) * p → -1000000000 ≤ f k ∧ f k ≤ 1000000000) (w : World) (b1 b2 b3 Bp Bl : Nat) (hB : Bx3 b1 b2 b3 p (y : Nat) (x : Nat) w)
    (hcp : w.cell? ⟨Bp, 0, none⟩ = some (.func (.func 66) #[] #[.pointer (some ⟨b1, 0, none⟩), .pointer (some ⟨b2, 0, none⟩), .pointer (some ⟨b3, 0, none⟩)])) (hcl : w.cell? ⟨Bl, 0, none⟩ = some (.slice a ((p + 1) * p : Nat) cap)) (px : Px a ((p + 1) * p) f w) :
    Calls Try.prog 33 #[.func (.func 63) #[] #[.pointer (some ⟨Bp, 0, none⟩), .pointer (some ⟨Bl, 0, none⟩)]] w fun e w' => e = .returned (.int .i64 (Lnm.sm (fun m => f (Lnm.thr p x y m)) (p + 1))) ∧ Below w.heap.size w w' := by
  have hblk : ∀ q : Addr, a = some q → q.block < w.heap.size := by
    intro q hq
    obtain ⟨b, off, ha, hlt⟩ := px.lt (Nat.mul_pos (by omega) hp)
    rw [hq] at ha
    cases ha
    exact hlt
  have h1 := linesThrough_gv x y p hp (by omega) hx hy b1 b2 b3 (· < w.heap.size) w hB hB.lt.1 hB.lt.2.1 hB.lt.2.2
  have h2 := numbersAt_gv a ((p + 1) * p) cap f 66 _ _ (· < w.heap.size) w Bp Bl (enters_of Try.func66 (by kernel_rfl) rfl) hcp hcl px h1
    (fun x' hx' => by obtain ⟨j, hj, e⟩ := fl_mem hx'; exact ⟨_, e, Lnm.thr_lt hx (by omega)⟩) hblk (World.block_lt_of_cell? w _ hcl) (fun _ h => h)
  rw [fl_map] at h2
  have h3 := total_any 63 _ _ (· < w.heap.size) w h2 (enters_of Try.func63 (by kernel_rfl) rfl) (fun _ h => h)
  rw [sumW_sm (M := 1000000000) (by omega) (by omega) (fun k hk => hf _ (Lnm.thr_lt hx (by omega)))] at h3
  exact h3

end Go.Proofs.Ytcdklkebedpmnaa

/- The sum of the numbers at places, and of the numbers on lines: what total answers. -/
import Derived.Test.YtedjnemijeaeoaaIlg
import Derived.Test.YtedjnemijeaeoaaIsq
namespace Go.Proofs.Ytedjnemijeaeoaa
open Go.RowKit Go.Shelf

theorem fl_map (f : Nat → Int) (g : Nat → Nat) : ∀ n, (fl (fun j => ((g j : Nat) : Int)) n).map (fun x => f x.toNat) = fl (fun j => f (g j)) n
  | 0 => rfl
  | n + 1 => by simp only [fl, List.map_append, fl_map f g n]; simp
theorem sumW_sm {f : Nat → Int} {M : Int} (hM : M ≤ 1000000000000) : ∀ {n : Nat}, n ≤ 1048576 → (∀ k, k < n → -M ≤ f k ∧ f k ≤ M) → sumW (fl f n) = Lnm.sm f n
  | 0, _, _ => rfl
  | n + 1, hn, h => by
    have ih := sumW_sm hM (n := n) (by omega) (fun k hk => h k (by omega))
    have h1 := h n (by omega)
    have h2 := Lnm.sm_bound (f := f) (M := M) (n := n) (fun k hk => h k (by omega))
    have h0 : 0 ≤ M := by omega
    have h3 : M * (n : Int) ≤ 1000000000000 * 1048576 := Int.mul_le_mul hM (by omega) (by omega) (by omega)
    show sumW (fl f n ++ [f n]) = Lnm.sm f n + f n
    rw [sumW_snoc, ih]
    unfold wrap64
    omega
theorem fl_mem {f : Nat → Int} {x : Int} : ∀ {n : Nat}, x ∈ fl f n → ∃ j, j < n ∧ x = f j
  | n + 1, h => by
    rcases List.mem_append.1 h with h | h
    · obtain ⟨j, hj, e⟩ := fl_mem h
      exact ⟨j, by omega, e⟩
    · exact ⟨n, by omega, by simpa using h⟩
theorem plc_lt {p l j : Nat} (hp : 0 < p) (hj : j < p) : Lnm.plc p l j < p * p := by
  have ht := Nat.mod_lt l hp
  have hq := Nat.mod_lt (l / p * j + l % p) hp
  unfold Lnm.plc
  split
  · have : j * p + p ≤ p * p := by rw [← Nat.succ_mul]; exact Nat.mul_le_mul_right _ (by omega)
    omega
  · generalize (l / p * j + l % p) % p = q at *
    have : q * p + p ≤ p * p := by rw [← Nat.succ_mul]; exact Nat.mul_le_mul_right _ (by omega)
    omega

set_option maxRecDepth 100000 in
/-- the sum along a line -/
theorem total_places (l p : Nat) (hp : 1 ≤ p) (hp2 : p ≤ 31) (hl : l < (p + 1) * p) (a : Option Addr) (cap : Nat) (f : Nat → Int) (hf : ∀ k, k < p * p → -1000000000 ≤ f k ∧ f k ≤ 1000000000) (w : World) (b1 b2 b3 Bp Bl : Nat) (hB : Bx3 b1 b2 b3 p (l / p : Nat) (l % p : Nat) w)
    (hcp : w.cell? ⟨Bp, 0, none⟩ = some (.func (.func 55) #[] #[.pointer (some ⟨b1, 0, none⟩), .pointer (some ⟨b2, 0, none⟩), .pointer (some ⟨b3, 0, none⟩)])) (hcl : w.cell? ⟨Bl, 0, none⟩ = some (.slice a (p * p : Nat) cap)) (px : Px a (p * p) f w) :
    Calls Try.prog 30 #[.func (.func 54) #[] #[.pointer (some ⟨Bp, 0, none⟩), .pointer (some ⟨Bl, 0, none⟩)]] w fun e w' => e = .returned (.int .i64 (Lnm.lin p f l)) ∧ Below w.heap.size w w' := by
  have hblk : ∀ q : Addr, a = some q → q.block < w.heap.size := by
    intro q hq
    obtain ⟨b, off, ha, hlt⟩ := px.lt (Nat.mul_pos hp hp)
    rw [hq] at ha
    cases ha
    exact hlt
  have h1 := placesOn_gv l p hp (by omega) hl b1 b2 b3 (· < w.heap.size) w hB hB.lt.1 hB.lt.2.1 hB.lt.2.2
  have h2 := numbersAt_gv a (p * p) cap f 55 _ _ (· < w.heap.size) w Bp Bl (enters_of Try.func55 (by kernel_rfl) rfl) hcp hcl px h1
    (fun x hx => by obtain ⟨j, hj, e⟩ := fl_mem hx; exact ⟨_, e, plc_lt hp hj⟩) hblk (World.block_lt_of_cell? w _ hcl) (fun _ h => h)
  rw [fl_map] at h2
  have h3 := total_any 54 _ _ (· < w.heap.size) w h2 (enters_of Try.func54 (by kernel_rfl) rfl) (fun _ h => h)
  rw [sumW_sm (M := 1000000000) (by omega) (by omega) (fun k hk => hf _ (plc_lt hp hk))] at h3
  exact h3

set_option maxRecDepth 100000 in
/-- the sum of the lines through a place -/
theorem total_lines (x y p : Nat) (hp : 1 ≤ p) (hp2 : p ≤ 31) (hx : x < p) (hy : y < p) (a : Option Addr) (cap : Nat) (f : Nat → Int) (hf : ∀ k, k < (p + 1) * p → -1000000000 ≤ f k ∧ f k ≤ 1000000000) (w : World) (b1 b2 b3 Bp Bl : Nat) (hB : Bx3 b1 b2 b3 p (y : Nat) (x : Nat) w)
    (hcp : w.cell? ⟨Bp, 0, none⟩ = some (.func (.func 70) #[] #[.pointer (some ⟨b1, 0, none⟩), .pointer (some ⟨b2, 0, none⟩), .pointer (some ⟨b3, 0, none⟩)])) (hcl : w.cell? ⟨Bl, 0, none⟩ = some (.slice a ((p + 1) * p : Nat) cap)) (px : Px a ((p + 1) * p) f w) :
    Calls Try.prog 30 #[.func (.func 54) #[] #[.pointer (some ⟨Bp, 0, none⟩), .pointer (some ⟨Bl, 0, none⟩)]] w fun e w' => e = .returned (.int .i64 (Lnm.sm (fun m => f (Lnm.thr p x y m)) (p + 1))) ∧ Below w.heap.size w w' := by
  have hblk : ∀ q : Addr, a = some q → q.block < w.heap.size := by
    intro q hq
    obtain ⟨b, off, ha, hlt⟩ := px.lt (Nat.mul_pos (by omega) hp)
    rw [hq] at ha
    cases ha
    exact hlt
  have h1 := linesThrough_gv x y p hp (by omega) hx hy b1 b2 b3 (· < w.heap.size) w hB hB.lt.1 hB.lt.2.1 hB.lt.2.2
  have h2 := numbersAt_gv a ((p + 1) * p) cap f 70 _ _ (· < w.heap.size) w Bp Bl (enters_of Try.func70 (by kernel_rfl) rfl) hcp hcl px h1
    (fun x' hx' => by obtain ⟨j, hj, e⟩ := fl_mem hx'; exact ⟨_, e, Lnm.thr_lt hx (by omega)⟩) hblk (World.block_lt_of_cell? w _ hcl) (fun _ h => h)
  rw [fl_map] at h2
  have h3 := total_any 54 _ _ (· < w.heap.size) w h2 (enters_of Try.func54 (by kernel_rfl) rfl) (fun _ h => h)
  rw [sumW_sm (M := 1000000000) (by omega) (by omega) (fun k hk => hf _ (Lnm.thr_lt hx (by omega)))] at h3
  exact h3

end Go.Proofs.Ytedjnemijeaeoaa

/- Median, the program: one pixel, and the whole. -/
import Derived.Test.YtlpfgmkkbplddaaMvi
namespace Go.Proofs.Ytlpfgmkkbplddaa
open Go.RowKit

theorem KpS.both {c : Nat} {a b d : World} (h : KpS (· = c) a b) (k : KpS (fun x => x = c ∨ a.heap.size ≤ x) b d) : KpS (· = c) a d :=
  ⟨k.os.trans h.os, k.tape.trans h.tape, k.output.trans h.output, Nat.le_trans h.size k.size, fun j hj hs => (k.block j (Nat.lt_of_lt_of_le hj h.size) (fun e => e.elim hs (fun e => by omega))).trans (h.block j hj hs)⟩
theorem place_spotM {W H : Int} {n k : Nat} (hW : 1 ≤ W) (hn : (n : Int) = W * H) (hk : k < n) : hasB W H ((k : Int) % W) ((k : Int) / W) = true ∧ (k : Int) / W * W + (k : Int) % W = k := by
  have h0 : 0 ≤ (k : Int) % W := Int.emod_nonneg _ (by omega)
  have h1 : (k : Int) % W < W := Int.emod_lt_of_pos _ (by omega)
  have h2 : 0 ≤ (k : Int) / W := Int.ediv_nonneg (by omega) (by omega)
  have h3 : (k : Int) / W < H := Int.ediv_lt_of_lt_mul (by omega) (by rw [Int.mul_comm, ← hn]; omega)
  refine ⟨hasB_iff.2 ⟨⟨h0, h1⟩, h2, h3⟩, ?_⟩
  have := Int.mul_ediv_add_emod (k : Int) W
  rw [Int.mul_comm] at this
  exact this
theorem visL_some {W H : Int} {n j r : Nat} {f : Nat → Int} (hW : 1 ≤ W) (hn : (n : Int) = W * H) (hj : j < n) : 0 < (visL W H j (offF r r) f ((2 * r + 1) * (2 * r + 1))).length := by
  have h1 := offF_x r r r r (by omega)
  have h2 := offF_y r r r r (by omega)
  have hlt : r * (2 * r + 1) + r < (2 * r + 1) * (2 * r + 1) := by
    have := Nat.mul_le_mul_right (2 * r + 1) (show r + 1 ≤ 2 * r + 1 by omega)
    rw [Nat.succ_mul] at this
    omega
  refine visL_pos (k := r * (2 * r + 1) + r) hlt ?_
  rw [h1, h2, show (r : Int) - r = 0 by omega, Int.add_zero, Int.add_zero]
  exact (place_spotM hW hn hj).1

set_option maxRecDepth 100000 in
set_option maxHeartbeats 2000000 in
theorem medPix_any (W H : Int) (j r : Nat) (a : Option Addr) (n cap : Nat) (f : Nat → Int) (hn : (n : Int) = W * H) (hW : 1 ≤ W) (hW' : W ≤ 64) (hH : 1 ≤ H) (hH' : H ≤ 64) (hj : j < n) (hj' : j < 4096) (hr : r ≤ 3)
    (a2 : Option Addr) (cap2 : Nat) (bp bq : Nat) (w : World)
    (hb : Bx bp [.int .i64 W, .int .i64 H, .slice a n cap] w) (hq : Bx bq [.slice a2 ((2 * r + 1) * (2 * r + 1)) cap2] w) (hx : Px a n f w) (hy : Px a2 ((2 * r + 1) * (2 * r + 1) * 2) (offF r r) w) :
    Calls Try.prog 89 #[.int .i64 j, .pointer (some ⟨bp, 0, none⟩), .pointer (some ⟨bq, 0, none⟩)] w fun e w' => e = .returned (.int .i64 (medS W H f r j)) ∧ Below w.heap.size w w' := by
  have hbp : bp < w.heap.size := World.block_lt_of_cell? w ⟨bp, 0, none⟩ (hb 0 _ rfl).1
  have hbq : bq < w.heap.size := World.block_lt_of_cell? w ⟨bq, 0, none⟩ (hq 0 _ rfl).1
  have hm49 : (2 * r + 1) * (2 * r + 1) ≤ 49 := Nat.le_trans (Nat.mul_le_mul (n₂ := 7) (m₂ := 7) (by omega) (by omega)) (by omega)
  have hpos := visL_some (H := H) (r := r) (f := f) hW hn hj
  have hlen := visL_len W H j (offF r r) f ((2 * r + 1) * (2 * r + 1))
  have hob := offF_bd r r (by omega) (by omega)
  have hm1 : 1 ≤ (2 * r + 1) * (2 * r + 1) := Nat.mul_le_mul (n₁ := 1) (m₁ := 1) (by omega) (by omega)
  unfold medS medOf
  generalize (2 * r + 1) * (2 * r + 1) = m at *
  have hw1 := bnew w (.cells #[.slice none 0 0] 24)
  have hc1 : w.heap.size < (w.alloc (.cells #[.slice none 0 0] 24)).heap.size := by simp
  have hsz1 : (w.alloc (.cells #[.slice none 0 0] 24)).heap.size = w.heap.size + 1 := by simp
  have h1 : ∀ wE wr, Below (w.alloc (.cells #[.slice none 0 0] 24)).heap.size (w.alloc (.cells #[.slice none 0 0] 24)) wE → KpS (· = w.heap.size) wE wr → Bx bp [.int .i64 W, .int .i64 H, .slice a n cap] wr ∧ Px a n f wr ∧ Px a2 (m * 2) (offF r r) wr := by
    intro wE wr hE hk
    have hkk := KpS.after hE hk
    refine ⟨hkk.bx (by show bp ≠ _; omega) (by omega) (hb.below hw1 hbp), hkk.px (fun b off e => hx.block_ne (Nat.le_refl _) (by omega) b off e) (hx.below hw1), hkk.px (fun b off e => hy.block_ne (Nat.le_refl _) (by omega) b off e) (hy.below hw1)⟩
  obtain ⟨ba, oa, hae, hal⟩ := hx.lt (by omega)
  have cV := visitAround_any W H j a2 m cap2 (offF r r) (by omega) hW hW' hH hH' (by omega) (by omega) hob _ medVis_fn #[.pointer (some ⟨w.heap.size, 0, none⟩), .pointer (some ⟨bp, 0, none⟩)] (· = w.heap.size) (w.alloc (.cells #[.slice none 0 0] 24))
    (fun b h => by subst h; exact hc1)
    (fun wE k wr => KpS (· = w.heap.size) wE wr ∧ Below (w.alloc (.cells #[.slice none 0 0] 24)).heap.size (w.alloc (.cells #[.slice none 0 0] 24)) wE ∧ ∃ v, Bx w.heap.size [v] wr ∧ wr.ownsRow wE.heap.size 2 1 v (visL W H j (offF r r) f k).length (ints (visL W H j (offF r r) f k)))
    (fun wE hE => ⟨KpS.refl _ _, hE, _, (Bx.new [.slice none 0 0] 24 w).below hE hc1, World.ownsRow_nil _ _ _ _⟩)
    (fun _ _ _ h => h.1) (fun wE k wr hE h => (h1 wE wr hE h.1).2.2)
    (fun wE k wr w' h hb' => by
      obtain ⟨g1, g2, v, g3, g4⟩ := h
      exact ⟨g1.next hb', g2, v, g3.below hb' (by have := g1.size; have := g2.size; omega), ownsRow_below' g4 hb'⟩)
    (fun wE k wr hk hq h => by
      obtain ⟨g1, g2, v, g3, g4⟩ := h
      refine ⟨g1, g2, v, g3, ?_⟩
      rw [visL, hq]
      exact g4)
    (fun wE k wr hk hq hE h => by
      obtain ⟨g1, g2, v, g3, g4⟩ := h
      obtain ⟨q0, q1⟩ := place_lt hq hn
      have s1 := g1.size
      have s2 := g2.size
      have hk1 := visL_len W H j (offF r r) f k
      refine (medVis_any W H a n cap f k _ q0 q1 w.heap.size bp wE.heap.size _ v (visL W H j (offF r r) f k) wr (by omega) (by omega) (by omega) (fun b off e => by rw [hae] at e; cases e; omega) s1 g3 (h1 wE wr g2 g1).1 (h1 wE wr g2 g1).2.1 g4).mono ?_
      rintro e w' ⟨rfl, k1, v', k2, k3⟩
      refine ⟨rfl, g1.both k1, g2, v', k2, ?_⟩
      rw [visL, hq]
      simp only [if_true, List.length_append, List.length_singleton]
      exact k3)
  obtain ⟨p0, p1, p2⟩ : w.cell? ⟨bp, 0, none⟩ = some (.int .i64 W) ∧ w.cell? ⟨bp, 1, none⟩ = some (.int .i64 H) ∧ w.cell? ⟨bp, 2, none⟩ = some (.slice a n cap) := ⟨(hb 0 _ rfl).1, (hb 1 _ rfl).1, (hb 2 _ rfl).1⟩
  have q0 := (hq 0 _ rfl).1
  clear hb hq hx hy h1 hob hn hae hal
  generalize visL W H j (offF r r) f m = L at *
  go_enter Try.func89, Try.ntmps89
  go_wp2_with fail
  refine cV.mono ?_
  rintro e w2 ⟨rfl, wE, hE, hk, hE2, v, hbx, hown⟩
  clear cV hE2
  obtain ⟨b2, cp2, rfl, hB2, _⟩ := own_partsL hown hpos
  have cS := sort_any b2 cp2 wE.heap.size L w2 hown (by omega)
  have r0 := (hbx 0 _ rfl).1
  have hEs := hE.size
  have hks := hk.size
  have hB : Below w.heap.size w w2 := hw1.trans ((KpS.after hE hk).below (fun b h => by subst h; exact Nat.le_refl _) (by omega))
  have HB := hide hB
  clear hown
  go_wp2_with fail
  refine cS.mono ?_
  rintro e w3 ⟨rfl, hown3, hk3⟩
  obtain ⟨b3, cp3, heq, hB3, hcell⟩ := own_partsL hown3 hpos
  cases heq
  obtain ⟨R, hR⟩ : ∃ R, (srt L).getD ((L.length - 1) / 2) 0 = R := ⟨_, rfl⟩
  have HR := hide hR
  have z3 := (hcell ((L.length - 1) / 2) (by omega)).1
  rw [hR] at z3
  have r3 := (((hk3.bx (by show w.heap.size ≠ b2; omega) (by omega) hbx)) 0 _ rfl).1
  have HB3 : Hid (Below w.heap.size w w3) := HB.out.trans (hk3.below (fun b h => by subst h; omega) (by have := HB.out.size; omega))
  obtain ⟨M, hM⟩ : ∃ M, L.length = M := ⟨_, rfl⟩
  rw [hM] at hpos hlen z3 r3 ⊢
  obtain ⟨i, hi⟩ : ∃ i, (M - 1) / 2 = i := ⟨_, rfl⟩
  rw [hi] at z3
  have hiM : (i : Int) < (M : Int) := by omega
  have hii : ((M : Int) - 1) / 2 = (i : Int) := by omega
  have hM1 : (1 : Int) ≤ (M : Int) := by omega
  clear cS hbx hown3 hk3 hcell hk hE HB hB r0 p0 p1 p2 q0 hR hi hM
  go_wp2_with fail
  go_ret
  exact ⟨by rw [HR.out]; simp, HB3.out⟩

end Go.Proofs.Ytlpfgmkkbplddaa

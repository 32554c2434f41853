/- Watershed, the program: a place's neighbours are met, as a method. -/
import Derived.Test.YtekoioggamhlaaaWma
import Derived.Test.YtekoioggamhlaaaOff
namespace Go.Proofs.Ytekoioggamhlaaa
open Go.RowKit

theorem off_far' {a : Option Addr} {b n : Nat} {f : Nat → Int} {w w' : World} (h : Ow a b (n + 1) f w') (hb : n + 1 = 0 ∨ w.drew.heap.size ≤ b) : ∀ z off, a = some ⟨z, off, none⟩ → w.heap.size ≤ z := fun z off hz => by
  rcases h with h | ⟨h, -⟩
  · omega
  · rw [h] at hz
    cases hz
    rcases hb with h2 | h2
    · omega
    · exact h2
/-- what the region reads -/
abbrev Smw (W H : Int) (p bf q : Nat) (w' : World) : Prop := w'.cell? ⟨q, 0, none⟩ = some (.pointer (some ⟨bf, 0, none⟩)) ∧ w'.cell? ⟨q + 1, 0, none⟩ = some (.int .i64 p) ∧ w'.cell? ⟨bf, 0, none⟩ = some (.int .i64 W) ∧ w'.cell? ⟨bf, 1, none⟩ = some (.int .i64 H)
theorem Smw.below {W H : Int} {p bf q : Nat} {w w' : World} (h : Smw W H p bf q w) (hb : Below w.heap.size w w') : Smw W H p bf q w' :=
  ⟨(hb.cell (World.block_lt_of_cell? w _ h.1)).trans h.1, (hb.cell (World.block_lt_of_cell? w _ h.2.1)).trans h.2.1, (hb.cell (World.block_lt_of_cell? w _ h.2.2.1)).trans h.2.2.1, (hb.cell (World.block_lt_of_cell? w _ h.2.2.2)).trans h.2.2.2⟩
theorem Fld.cells {im : Nat → Int} {W H : Int} {ap : Option Addr} {n capp bo capo bf G : Nat} {s : Ws} {w : World} (h : Fld im W H ap n capp bo capo bf G s w) : w.cell? ⟨bf, 0, none⟩ = some (.int .i64 W) ∧ w.cell? ⟨bf, 1, none⟩ = some (.int .i64 H) := by
  obtain ⟨v, L, h1, -⟩ := h
  exact ⟨(h1 0 _ rfl).1, (h1 1 _ rfl).1⟩

theorem sk8_of {im : Nat → Int} {W H : Int} {ap : Option Addr} {n capp bo capo bf G p q : Nat} {s : Ws} {v : Value} {w7 w8 : World} (h : Smw W H p bf q w7) (k : KpS (fun y => y = bf ∨ y = bo ∨ v.ownBlock = some y) w7 w8) (f : Fld im W H ap n capp bo capo bf G s w8) (hv : ∀ b, v.ownBlock = some b → b < q) (hb : bf < q ∧ bo < q) : Smw W H p bf q w8 :=
  ⟨keep_cell k h.1 (fun h => by rcases h with h | h | h; (simp at h; omega); (simp at h; omega); (have := hv _ h; simp at this)), keep_cell k h.2.1 (fun h => by rcases h with h | h | h; (simp at h; omega); (simp at h; omega); (have := hv _ h; simp at this; omega)), f.cells.1, f.cells.2⟩

set_option maxRecDepth 100000 in
set_option maxHeartbeats 4000000 in
theorem meetAround_any (im : Nat → Int) (W H : Int) (ap : Option Addr) (n capp bo capo bf G : Nat) (s : Ws) (p : Nat) (hp : p < n) (hop : s.o p ≠ 0) (hi : WsI n s) (hcn : s.c + fr0 n s.o ≤ n) (hn : (n : Int) = W * H) (hW : 1 ≤ W) (hW' : W ≤ 64) (hH : 1 ≤ H) (hH' : H ≤ 64) (hn4 : n ≤ 4096)
    (hG1 : bf < G) (hG2 : bo < G) (hG3 : ∀ z off, ap = some ⟨z, off, none⟩ → z < G ∧ z ≠ bo ∧ z ≠ bf) (n1 : bo ≠ bf) (w : World) (h : Fld im W H ap n capp bo capo bf G s w) (hx : Px ap n im w) (hG : G ≤ w.heap.size) :
    Calls Try.prog 26 #[.pointer (some ⟨bf, 0, none⟩), .int .i64 p] w fun e w' => e = .returned (.tuple #[]) ∧
      KpS (fun y => y = bf ∨ y = bo ∨ G ≤ y) w w' ∧ Fld im W H ap n capp bo capo bf G (msL p s (besL W H p)) w' := by
  obtain ⟨v, L, hb, hr, ho, hHp, hPm⟩ := h
  have hvG := owns_ge ho
  have hvL := owns_lt ho
  obtain ⟨wa, hwa⟩ : ∃ wa, (w.alloc (.cells #[.pointer (some ⟨bf, 0, none⟩)] 70)).alloc (.cells #[.int .i64 p] 2) = wa := ⟨_, rfl⟩
  have hba : Below w.heap.size w wa := by rw [← hwa]; exact (bnew _ _).alloc (by simp) _
  have hza : wa.heap.size = w.heap.size + 2 := by rw [← hwa]; simp
  have hQ : Bx w.heap.size [.pointer (some ⟨bf, 0, none⟩)] wa := by
    rw [← hwa]; exact (Bx.new [.pointer (some ⟨bf, 0, none⟩)] 70 w).below (bnew _ _) (by simp)
  have hP : Bx (w.heap.size + 1) [.int .i64 p] wa := by
    rw [← hwa]
    have h := Bx.new [.int .i64 p] 2 (w.alloc (.cells #[.pointer (some ⟨bf, 0, none⟩)] 70))
    rw [show (w.alloc (.cells #[.pointer (some ⟨bf, 0, none⟩)] 70)).heap.size = w.heap.size + 1 by simp] at h
    exact h
  have hbf : bf < w.heap.size := by omega
  have hXa := hb.below hba hbf
  have hRa := hr.sameH (hba.block bo (by omega))
  have hOa := ownsRow_below' ho hba
  have hxa := hx.below hba
  have SKa : Hid (Smw W H p bf w.heap.size wa.drew) := ⟨(hQ 0 _ rfl).1, (hP 0 _ rfl).1, (hXa 0 _ rfl).1, (hXa 1 _ rfl).1⟩
  have hpo := fun w' => offsetsBeside_any w'
  unfold SpR at hpo
  have eb : vqs W H p 4 = besL W H p := nbs_bes hn hW hp
  have cV : ∀ a2 cap2 w7, Below wa.heap.size wa w7 → Px a2 (4 * 2) besF w7 → (∀ z off, a2 = some ⟨z, off, none⟩ → wa.heap.size ≤ z) → _ :=
    fun a2 cap2 w7 (hb7 : Below wa.heap.size wa w7) hf hf2 => meetVisits_any im W H ap n capp bo capo bf G s p hp hop hi hcn hn hW hW' hH hH' hn4 v L hHp hPm a2 cap2 w.heap.size (w.heap.size + 1) w7
      (hXa.below hb7 (by omega)) (hQ.below hb7 (by omega)) (hP.below hb7 (by omega)) (hRa.sameH (hb7.block bo (by omega))) (hxa.below hb7) (ownsRow_below' hOa hb7) hf
      (fun z off e => by
        have h1 := hf2 z off e
        exact ⟨by omega, by omega, fun h => by have := hvL z h; omega⟩)
      n1 (by omega) (by omega) (by omega) (by omega)
      (fun x hx => by have h1 := hvG x hx; have h2 := hvL x hx; exact ⟨by omega, by omega, by omega, by omega⟩)
      (fun z off e => by obtain ⟨h1, h2, h3⟩ := hG3 z off e; exact ⟨h2, h3, fun h => by have := hvG z h; omega⟩)
      (by have := hb7.size; omega)
  rw [eb] at cV
  have HCV := hide cV
  have HBA := hide hba
  have HVG := hide hvG
  have HVL := hide hvL
  have HGO : Hid (bf < w.heap.size ∧ bo < w.heap.size) := ⟨hbf, by omega⟩
  have HG := hide hG
  have HZA := hide hza
  have HBf := hide hbf
  have HG1 := hide (And.intro hG1 hG2)
  clear hb hr ho hHp hPm hvG hvL hQ hP hXa hRa hOa hxa cV eb hx hi hcn hop hG3 hG hza hbf hG1 hG2 hba n1
  go_enter Try.func26, Try.ntmps26
  go_upto_region 1 with fail
  clear hwa
  go_region_held (fun (w' : World) => w'.cell? ⟨w.heap.size, 0, none⟩ = some (.pointer (some ⟨bf, 0, none⟩)) ∧ w'.cell? ⟨w.heap.size + 1, 0, none⟩ = some (.int .i64 p) ∧ w'.cell? ⟨bf, 0, none⟩ = some (.int .i64 W) ∧ w'.cell? ⟨bf, 1, none⟩ = some (.int .i64 H))
    (first | with_reducible exact SKa.out | with_reducible exact SK7.out | with_reducible exact SK8.out)
    (first
      | (go_at_call 41; (with_reducible refine (hpo _).mono ?_); rintro e w7 ⟨a2, cap2, b2, rfl, how, hb2, hbe⟩; have HX7 := hide how.px; have HZ7 := hide (off_far' how hb2); have HBE := hide ((Below.refl wa.heap.size wa).drew.trans hbe); have SK7 := hide (SKa.out.below hbe); clear how hb2 hbe)
      | (go_at_call 40; (with_reducible refine (HCV.out a2 cap2 w7 HBE.out HX7.out HZ7.out).mono ?_); rintro e w8 ⟨rfl, k1, hfl⟩; have HK8 := hide k1; have HF8 := hide hfl; have SK8 := hide (sk8_of SK7.out k1 hfl HVL.out HGO.out); clear k1 hfl))
  all_goals
    have HKf : Hid (KpS (fun y => y = bf ∨ y = bo ∨ G ≤ y) w w8) := (KpS.of_below (HBA.out.trans (HBE.out.mono HBA.out.size))).thenS HK8.out (fun x _ h => by
      rcases h with h | h | h
      · exact .inl h
      · exact .inr (.inl h)
      · exact .inr (.inr (HVG.out x h)))
    clear SKa SK7 SK8 hpo HCV
    go_wp2_with fail
    go_end0
    exact ⟨rfl, HKf.out, HF8.out⟩

end Go.Proofs.Ytekoioggamhlaaa

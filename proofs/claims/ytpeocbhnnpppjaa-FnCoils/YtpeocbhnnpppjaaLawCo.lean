/- What two coils saw folded: the law, walked. -/
import Derived.Test.YtpeocbhnnpppjaaDfo
import Derived.Test.YtpeocbhnnpppjaaCot
import Derived.Test.YtpeocbhnnpppjaaFoA
import Derived.Test.YtpeocbhnnpppjaaRsd
import Derived.Test.YtpeocbhnnpppjaaCpy
import Derived.Test.YtpeocbhnnpppjaaQup
import Derived.Test.YtpeocbhnnpppjaaGrl
import Derived.Test.YtpeocbhnnpppjaaBxi
import Derived.Test.YtpeocbhnnpppjaaGap
import Derived.Test.YtpeocbhnnpppjaaRgv
import Derived.Test.YtpeocbhnnpppjaaRwb
import Derived.BigRegion
namespace Go.Proofs.Ytpeocbhnnpppjaa
open Go.RowKit

theorem own_pxC {w : World} {B n : Nat} {a : Option Addr} {c : Nat} {L : List Int} (h : w.ownsRow B 2 1 (.slice a n c) n (ints L)) : Px a n (fun k => L.getD k 0) w := by
  by_cases h0 : 0 < n
  · obtain ⟨b, c', hv, -, hc⟩ := own_partsL h h0
    cases hv
    exact .inr ⟨b, 0, rfl, fun k hk => by rw [Nat.zero_add]; exact (hc k hk).1⟩
  · exact .inl (by omega)
theorem Px.congrC {a : Option Addr} {n : Nat} {f g : Nat → Int} {w : World} (h : Px a n f w) (e : ∀ k, k < n → f k = g k) : Px a n g w := by
  rcases h with h | ⟨b, off, ha, hc⟩
  · exact .inl h
  · exact .inr ⟨b, off, ha, fun k hk => by rw [← e k hk]; exact hc k hk⟩
theorem px_ltC {a : Option Addr} {n : Nat} {f : Nat → Int} {w : World} (h : Px a n f w) {B : Nat} (hB : w.heap.size ≤ B) : n = 0 ∨ ∀ b off, a = some ⟨b, off, none⟩ → b ≠ B := by
  by_cases h0 : n = 0
  · exact .inl h0
  · obtain ⟨b, off, ha, hb⟩ := h.lt (by omega)
    refine .inr fun b' off' e => ?_
    rw [ha] at e
    cases e
    omega
theorem Px.keptC {a : Option Addr} {n p : Nat} {f : Nat → Int} {w w' : World} (h : Px a n f w) (hk : Kept p w w') (hp : n = 0 ∨ ∀ b off, a = some ⟨b, off, none⟩ → b ≠ p) : Px a n f w' := by
  rcases hp with h0 | hp
  · exact .inl h0
  · exact h.kept hk hp
/-- what the law keeps in hand: three images in their boxes -/
structure CK (W H : Int) (n : Nat) (f g h : Nat → Int) (x x2 x3 : Option Addr) (c c2 c3 : Nat) (R3 R4 R5 : Nat) (w wr : World) : Prop where
  below : Below w.heap.size w wr
  b3 : Bx R3 [.int .i64 W, .int .i64 H, .slice x n c] wr
  b4 : Bx R4 [.int .i64 W, .int .i64 H, .slice x2 n c2] wr
  b5 : Bx R5 [.int .i64 W, .int .i64 H, .slice x3 n c3] wr
  p3 : Px x n f wr
  p4 : Px x2 n g wr
  p5 : Px x3 n h wr
theorem CK.next {W H : Int} {n : Nat} {f g h : Nat → Int} {x x2 x3 : Option Addr} {c c2 c3 R3 R4 R5 : Nat} {w wr w' : World} (k : CK W H n f g h x x2 x3 c c2 c3 R3 R4 R5 w wr) (hb : Below wr.heap.size wr w') : CK W H n f g h x x2 x3 c c2 c3 R3 R4 R5 w w' :=
  ⟨k.below.trans (hb.mono k.below.size), k.b3.below hb k.b3.lt, k.b4.below hb k.b4.lt, k.b5.below hb k.b5.lt, k.p3.below hb, k.p4.below hb, k.p5.below hb⟩
/-- an image and a number are told -/
def TupC (W H : Int) (n : Nat) (C : Int) (v : Value) : Prop := ∃ a c, v = .tuple #[im W H a n c, .int .i64 C]
theorem Bx.im3 {M : Nat} {a b c : Value} {w : World} (h : Bx M [a, b, c] w) : w.cell? ⟨M, 0, none⟩ = some a ∧ w.cell? ⟨M, 1, none⟩ = some b ∧ w.cell? ⟨M, 2, none⟩ = some c := ⟨(h 0 _ rfl).1, (h 1 _ rfl).1, (h 2 _ rfl).1⟩

set_option maxRecDepth 100000 in
set_option maxHeartbeats 16000000 in
theorem fnCoils_walk (c0 : Option Addr) (n0 k0 : Nat) (w : World) (hy0 : Bytes c0 n0 w) :
    Calls Try.prog 3 #[.slice c0 n0 k0] w fun e w' => e = .returned (.bool true) ∧ Below w.heap.size w w' := by
  have g1 := big_any c0 n0 k0
  have HB1 := hide hy0
  clear hy0
  go_enter Try.func3, Try.ntmps3
  go_wp2_with fail
  refine (g1 _).mono ?_
  rintro e w1 ⟨rfl, rfl⟩
  cases hd1 : decide (1048576 < n0)
  case true =>
    clear hd1
    go_wp2_with fail
    go_ret
    exact ⟨rfl, Below.refl _ _⟩
  clear hd1 g1
  have cP := drawFold_any c0 n0 k0 w1 HB1.out
  go_wp2_with fail
  refine cP.mono ?_
  rintro e w3 ⟨W, H, x, n, c, f, W2, H2, x2, m, c2, g, rfl, hn, hm, hpx, hpg, hb⟩
  have HW3 := hide hb
  have HPX := hide hpx
  have HPG := hide hpg
  have HM : Hid (n ≤ 64 ∧ m ≤ 65) := ⟨hn, hm⟩
  clear cP hpx hpg hn hm hb HB1
  go_upto_region 4 with fail
  have hb4 := bnew w3 (.cells #[.int .i64 W, .int .i64 H, .slice x n c] 26)
  have hb5 := bnew (w3.alloc (.cells #[.int .i64 W, .int .i64 H, .slice x n c] 26)) (.cells #[.int .i64 W2, .int .i64 H2, .slice x2 m c2] 26)
  have hz4 : (w3.alloc (.cells #[.int .i64 W, .int .i64 H, .slice x n c] 26)).heap.size = w3.heap.size + 1 := by simp
  have HX3 := hide ((Bx.new [.int .i64 W, .int .i64 H, .slice x n c] 26 w3).below hb5 (by simp))
  have HX4 : Hid (Bx (w3.heap.size + 1) [.int .i64 W2, .int .i64 H2, .slice x2 m c2] ((w3.alloc (.cells #[.int .i64 W, .int .i64 H, .slice x n c] 26)).alloc (.cells #[.int .i64 W2, .int .i64 H2, .slice x2 m c2] 26))) := by
    have := Bx.new [.int .i64 W2, .int .i64 H2, .slice x2 m c2] 26 (w3.alloc (.cells #[.int .i64 W, .int .i64 H, .slice x n c] 26))
    rw [hz4] at this
    exact this
  have HPX5 := hide ((HPX.out.below hb4).below hb5)
  have HPG5 := hide ((HPG.out.below hb4).below hb5)
  have HW5 : Hid (Below w1.heap.size w1 ((w3.alloc (.cells #[.int .i64 W, .int .i64 H, .slice x n c] 26)).alloc (.cells #[.int .i64 W2, .int .i64 H2, .slice x2 m c2] 26))) := bnext (bnext HW3.out (Nat.le_refl _) hb4) (Nat.le_refl _) hb5
  have HZ5 : Hid (((w3.alloc (.cells #[.int .i64 W, .int .i64 H, .slice x n c] 26)).alloc (.cells #[.int .i64 W2, .int .i64 H2, .slice x2 m c2] 26)).heap.size = w3.heap.size + 2) := by show _ = _; simp
  clear hb4 hb5 hz4 HPX HPG HW3
  generalize hw5 : ((w3.alloc (.cells #[.int .i64 W, .int .i64 H, .slice x n c] 26)).alloc (.cells #[.int .i64 W2, .int .i64 H2, .slice x2 m c2] 26)) = w5 at *
  clear hw5
  generalize w3.heap.size = R3 at *
  obtain ⟨R4, hR4⟩ : ∃ R, R = R3 + 1 := ⟨_, rfl⟩
  rw [← hR4] at HX4 ⊢
  have HR : Hid (R4 = R3 + 1 ∧ w5.heap.size = R3 + 2) := ⟨hR4, HZ5.out⟩
  clear hR4 HZ5
  have cF := specFold_any W H x n c f (by have := HM.out; omega) W2 H2 x2 m c2 g (by have := HM.out; omega) w5 HPX5.out HPG5.out
  obtain ⟨i0, -⟩ := HX3.out 0 _ rfl
  obtain ⟨i1, -⟩ := HX3.out 1 _ rfl
  obtain ⟨i2, -⟩ := HX3.out 2 _ rfl
  obtain ⟨j0, -⟩ := HX4.out 0 _ rfl
  obtain ⟨j1, -⟩ := HX4.out 1 _ rfl
  obtain ⟨j2, -⟩ := HX4.out 2 _ rfl
  cases hq : foldB W H n f W2 H2 m g
  · rw [hq] at cF
    have f0 : foldW false W = 0 := rfl
    have f1 : foldN false n = 0 := rfl
    rw [f0, f1] at cF
    go_wp2_with fail
    refine cF.mono ?_
    rintro e w7 ⟨a7, c7, b7, rfl, -, -, hb⟩
    have HF := hide (bnext HW5.out (Nat.le_refl _) hb)
    have ff : ∀ q, (Instr.field 26 (im 0 q a7 0 c7) 0).run Try.prog w7 = .ok (.int .i64 0) w7 := fun _ => rfl
    clear cF hb i0 i1 i2 j0 j1 j2
    go_wp2_with fail
    go_ret
    exact ⟨rfl, HF.out⟩
  obtain ⟨e1, e2, e3⟩ : W2 = W ∧ H2 = H ∧ m = n := by
    obtain ⟨q1, q2, q3, q4, -⟩ := fold_yes hq
    obtain ⟨-, -, r1⟩ := okB_len q1
    obtain ⟨-, -, r2⟩ := okB_len q2
    rw [← q3, ← q4, r1] at r2
    exact ⟨q3.symm, q4.symm, by omega⟩
  subst e1 e2 e3
  have HQ := hide (coils_ok hq)
  have HQ0 := hide hq
  rw [hq] at cF
  have f0 : foldW true W2 = W2 := rfl
  have HN : Hid (1 ≤ m ∧ m ≤ 64 ∧ 1 ≤ W2 ∧ W2 ≤ 64) := ⟨by have := HQ.out.2.2.2.1; omega, HM.out.1, HQ.out.2.2.2.2⟩
  have tW0 : (W2 == 0) = false := by have := HN.out; simp; omega
  have tW0' : decide (W2 = 0) = false := decide_eq_false (by have := HN.out; omega)
  rw [f0] at cF
  clear hq f0
  go_wp2_with fail
  refine cF.mono ?_
  rintro e w7 ⟨a7, c7, b7, rfl, -, -, hb⟩
  have ff : ∀ q t, (Instr.field 26 (im W2 q a7 t c7) 0).run Try.prog w7 = .ok (.int .i64 W2) w7 := fun _ _ => rfl
  have HX37 := hide (HX3.out.below hb HX3.out.lt)
  have HX47 := hide (HX4.out.below hb HX4.out.lt)
  have HPX7 := hide (HPX5.out.below hb)
  have HPG7 := hide (HPG5.out.below hb)
  have HW7 : Hid (Below w1.heap.size w1 w7) := bnext HW5.out (Nat.le_refl _) hb
  have HR7 : Hid (R4 = R3 + 1 ∧ R4 < w7.heap.size) := ⟨HR.out.1, by have := HR.out; have := hb.size; omega⟩
  clear cF hb i0 i1 i2 j0 j1 j2 HX3 HX4 HPX5 HPG5 HW5 HR
  obtain ⟨j0, -⟩ := HX47.out 0 _ rfl
  obtain ⟨j1, -⟩ := HX47.out 1 _ rfl
  go_upto_region 7 with fail
  have hb8 := bnew w7 (.cells #[.int .i64 W2, .int .i64 H2, .slice none 0 0] 26)
  have HX8 := hide (Bx.new [.int .i64 W2, .int .i64 H2, .slice none 0 0] 26 w7)
  have HX38 := hide (HX37.out.below hb8 HX37.out.lt)
  have HX48 := hide (HX47.out.below hb8 HX47.out.lt)
  have HPX8 := hide (HPX7.out.below hb8)
  have HPG8 := hide (HPG7.out.below hb8)
  have HL8 : Hid ((m = 0 ∨ ∀ b off, x = some ⟨b, off, none⟩ → b ≠ w7.heap.size) ∧ (m = 0 ∨ ∀ b off, x2 = some ⟨b, off, none⟩ → b ≠ w7.heap.size)) := ⟨px_ltC HPX7.out (Nat.le_refl _), px_ltC HPG7.out (Nat.le_refl _)⟩
  have HW8 : Hid (Below w1.heap.size w1 (w7.alloc (.cells #[.int .i64 W2, .int .i64 H2, .slice none 0 0] 26))) := bnext HW7.out (Nat.le_refl _) hb8
  have HR8 : Hid (R4 = R3 + 1 ∧ R4 < w7.heap.size ∧ w1.heap.size ≤ w7.heap.size ∧ (w7.alloc (.cells #[.int .i64 W2, .int .i64 H2, .slice none 0 0] 26)).heap.size = w7.heap.size + 1) := ⟨HR7.out.1, HR7.out.2, HW7.out.size, by simp⟩
  clear hb8 HX37 HX47 HPX7 HPG7 HW7 HR7 ff j0 j1 tW0 tW0'
  generalize hw8 : w7.alloc (.cells #[.int .i64 W2, .int .i64 H2, .slice none 0 0] 26) = w8 at *
  clear hw8
  generalize w7.heap.size = R5 at *
  obtain ⟨ti, hi1, hi2, hi3, hi4⟩ := info2
  have HI1 := hide hi1
  clear hi1
  go_wp2_with fail
  go_loopw [6, 53] (fun i gg wr => ∃ (k : Nat) (L : List Int) (af : Option Addr) (cf : Nat), i = .int .i64 k ∧ ¬ Grw L gg ∧ L.length = k ∧ k ≤ m ∧ (∀ j, j < k → L.getD j 0 = coil2 g j) ∧ Kept R5 w8 wr ∧ Bx R5 [.int .i64 W2, .int .i64 H2, .slice af L.length cf] wr ∧ wr.ownsRow w8.heap.size 2 1 (.slice af L.length cf) L.length (ints L)) (fun i _ _ => m - (intOf i).toNat)
  case atStart => exact ⟨0, [], none, 0, rfl, (fun ⟨_, _, h⟩ => by simp [undef] at h), rfl, by omega, fun j hj => by omega, Kept.refl _ _, HX8.out, ⟨rfl, .inl ⟨rfl, rfl⟩⟩⟩
  case round =>
    obtain ⟨k, L, af, cf, rfl, hg, hLk, hkn, hLd, hk, hb5, ho⟩ := hrel
    have HLk := hide hLk
    have HKR := hide hk
    have HB5 := hide hb5
    have HOW := hide ho
    have HG := hide hg
    have HLD := hide hLd
    clear hLk hk hb5 ho hg hLd
    have HX4r := hide (HX48.out.kept HKR.out (by have := HR8.out; omega))
    obtain ⟨j2, -⟩ := HX4r.out 2 _ rfl
    by_cases hlt : k < m
    · have hki : (k : Int) < (m : Int) := by omega
      have hjw : IntKind.i64.wrap ((k : Int) + 1) = (k : Int) + 1 := by have := HN.out; rw [IntKind.wrap_i64]; omega
      have HMe : Hid (m - (k + 1) < m - k) := by show _ < _; omega
      have HJ1 : Hid (k + 1 ≤ m) := by show _ ≤ _; omega
      have HkB : Hid (k ≤ 64) := by have := HN.out; show _ ≤ _; omega
      go_upto_region 10 with fail
      clear j2
      have e3 : IntKind.i64.wrap (3 * (k : Int)) = 3 * (k : Int) := by have := HkB.out; rw [IntKind.wrap_i64]; omega
      have h1 := Int.tmod_lt_of_pos (3 * (k : Int)) (show (0 : Int) < 7 by omega)
      have h2 := Int.lt_tmod_of_pos (3 * (k : Int)) (show (0 : Int) < 7 by omega)
      have h3 := Int.tmod_lt_of_pos (g k) (show (0 : Int) < 5 by omega)
      have h4 := Int.lt_tmod_of_pos (g k) (show (0 : Int) < 5 by omega)
      obtain ⟨z, hz⟩ : ∃ z, z = (3 * (k : Int)).tmod 7 + (g k).tmod 5 := ⟨_, rfl⟩
      have HZZ : Hid (coil2 g k = z) := hz.symm
      obtain ⟨r7, h7⟩ : ∃ r, (3 * (k : Int)).tmod 7 = r := ⟨_, rfl⟩
      obtain ⟨r5, h5⟩ : ∃ r, (g k).tmod 5 = r := ⟨_, rfl⟩
      rw [h7] at h1 h2 hz
      rw [h5] at h3 h4 hz
      have ew7 : IntKind.i64.wrap r7 = r7 := by rw [IntKind.wrap_i64]; omega
      have ew5 : IntKind.i64.wrap r5 = r5 := by rw [IntKind.wrap_i64]; omega
      have ez : IntKind.i64.wrap (r7 + r5) = z := by rw [IntKind.wrap_i64]; omega
      have hn7 : ¬ ((7 : Int) = 0) := by omega
      have hn5 : ¬ ((5 : Int) = 0) := by omega
      clear h1 h2 h3 h4 hz
      obtain ⟨p3, hp3⟩ : ∃ p, 3 * (k : Int) = p := ⟨_, rfl⟩
      rw [hp3] at h7 e3
      obtain ⟨b2, o2, hx2, hcr⟩ := (HPG8.out.keptC HKR.out HL8.out.2).at hlt
      subst hx2
      have HCR0 := hide hcr
      have HCR : Hid (wr.cell? ⟨b2, o2 + k, none⟩ = some (.int .i64 (g k)) ∧ b2 < w8.heap.size) := ⟨hcr, by
        obtain ⟨_, _, e, hz⟩ := HPG8.out.at hlt
        cases e
        exact World.block_lt_of_cell? _ _ hz⟩
      clear hcr HCR0
      have HZ9 : Hid (w8.heap.size ≤ wr.heap.size) := HKR.out.size
      have HQZ : Hid (R5 < w8.heap.size ∧ R4 < w8.heap.size) := by have := HR8.out; exact ⟨by omega, by omega⟩
      obtain ⟨gk, hgk⟩ : ∃ y, g k = y := ⟨_, rfl⟩
      rw [hgk] at h5 HCR
      clear hgk
      obtain ⟨G, hG⟩ : ∃ G : Nat → Value → Prop, G = (fun j v => match j with | 0 => v = .pointer (some ⟨R5, 2, none⟩) | 1 => v = .slice af L.length cf | 2 => v = .int .i64 (k : Int) | 3 => v = .int .i64 p3 | 4 => v = .int .i64 r7 | 5 => v = .pointer (some ⟨R4, 2, none⟩) | 6 => v = .slice (some ⟨b2, o2, none⟩) m c2 | 7 => v = .int .i64 (k : Int) | 8 => v = .pointer (some ⟨b2, o2 + k, none⟩) | 9 => v = .int .i64 gk | 10 => v = .int .i64 r5 | 11 => v = .int .i64 z | 14 => v = .pointer (some ⟨R5, 2, none⟩) | _ => True) := ⟨_, rfl⟩
      have G0 : Hid (∀ v, G 0 v ↔ v = .pointer (some ⟨R5, 2, none⟩)) := fun v => by rw [hG]; exact Iff.rfl
      have G1 : Hid (∀ v, G 1 v ↔ v = .slice af L.length cf) := fun v => by rw [hG]; exact Iff.rfl
      have G2 : Hid (∀ v, G 2 v ↔ v = .int .i64 (k : Int)) := fun v => by rw [hG]; exact Iff.rfl
      have G3 : Hid (∀ v, G 3 v ↔ v = .int .i64 p3) := fun v => by rw [hG]; exact Iff.rfl
      have G4 : Hid (∀ v, G 4 v ↔ v = .int .i64 r7) := fun v => by rw [hG]; exact Iff.rfl
      have G5 : Hid (∀ v, G 5 v ↔ v = .pointer (some ⟨R4, 2, none⟩)) := fun v => by rw [hG]; exact Iff.rfl
      have G6 : Hid (∀ v, G 6 v ↔ v = .slice (some ⟨b2, o2, none⟩) m c2) := fun v => by rw [hG]; exact Iff.rfl
      have G7 : Hid (∀ v, G 7 v ↔ v = .int .i64 (k : Int)) := fun v => by rw [hG]; exact Iff.rfl
      have G8 : Hid (∀ v, G 8 v ↔ v = .pointer (some ⟨b2, o2 + k, none⟩)) := fun v => by rw [hG]; exact Iff.rfl
      have G9 : Hid (∀ v, G 9 v ↔ v = .int .i64 gk) := fun v => by rw [hG]; exact Iff.rfl
      have G10 : Hid (∀ v, G 10 v ↔ v = .int .i64 r5) := fun v => by rw [hG]; exact Iff.rfl
      have G11 : Hid (∀ v, G 11 v ↔ v = .int .i64 z) := fun v => by rw [hG]; exact Iff.rfl
      have G12 : Hid (∀ v, G 12 v) := fun v => by rw [hG]; trivial
      have G13 : Hid (∀ v, G 13 v) := fun v => by rw [hG]; trivial
      have G14 : Hid (∀ v, G 14 v ↔ v = .pointer (some ⟨R5, 2, none⟩)) := fun v => by rw [hG]; exact Iff.rfl
      have G15 : Hid (∀ v, G 15 v) := fun v => by rw [hG]; trivial
      clear hG
      refine region_opsV (gR 13 15 w8.heap.size wr L af cf) (gF 12 13 15 w8.heap.size wr L R5 2 z G) (by kernel_rfl) (by kernel_rfl) (by kernel_rfl) (by kernel_rfl) ?_ ?_ ?_
      · exact fun _ => ⟨(Below.refl _ _).drew, .inl HOW.out⟩
      · refine ⟨?_, ?_, ?_, ?_, ?_, ?_, ?_, ?_, ?_, ?_, ?_, ?_, ?_, ?_, ?_, ?_, trivial⟩
        · intro u w21 au hsl hel hu hF hp' K hK
          have hS : u 15 = undef := (hu.out 15 (by decide) (.inr (by kernel_rfl))).trans (by kernel_rfl)
          have hB := (hF hS).1
          have hZ : w8.heap.size ≤ w21.heap.size := Nat.le_trans HZ9.out hB.size
          have t5 : au.tmps[5]?.getD undef = .pointer (some ⟨R5, 0, none⟩) := (hel.out 5 (by kernel_rfl)).trans (by kernel_rfl)
          refine step_plain rfl ?_
          go_simp
          exact hK.out (.pointer (some ⟨R5, 2, none⟩)) _ (gR_up hZ hF (Below.refl _ _) 0 (by omega) (by omega) _) ⟨by rw [upU_same]; exact (G0.out _).2 rfl, fun e => by omega, fun e => by omega, fun e => by omega⟩ (fun j hj hf h => gF_up (Below.refl _ _) 0 (by omega) (by omega) _ j hj (fun e => by subst e; exact absurd (Eq.trans (Eq.symm (by kernel_rfl)) hf) Bool.false_ne_true) h)
        · intro u w21 au hsl hel hu hF hp' K hK
          have hS : u 15 = undef := (hu.out 15 (by decide) (.inr (by kernel_rfl))).trans (by kernel_rfl)
          have hB := (hF hS).1
          have hZ : w8.heap.size ≤ w21.heap.size := Nat.le_trans HZ9.out hB.size
          have h0 : u 0 = .pointer (some ⟨R5, 2, none⟩) := (G0.out _).1 (PreF.get hp' 0 (by kernel_rfl)).1
          have t40 : au.tmps[40]?.getD undef = u 0 := hsl.out 0 40 (by kernel_rfl)
          rw [h0] at t40
          obtain ⟨x3, -⟩ := (HB5.out.below hB HQZ.out.1) 2 _ rfl
          refine step_plain rfl ?_
          go_simp
          exact hK.out (.slice af L.length cf) _ (gR_up hZ hF (Below.refl _ _) 1 (by omega) (by omega) _) ⟨by rw [upU_same]; exact (G1.out _).2 rfl, fun e => by omega, fun e => by omega, fun e => by omega⟩ (fun j hj hf h => gF_up (Below.refl _ _) 1 (by omega) (by omega) _ j hj (fun e => by subst e; exact absurd (Eq.trans (Eq.symm (by kernel_rfl)) hf) Bool.false_ne_true) h)
        · intro u w21 au hsl hel hu hF hp' K hK
          have hS : u 15 = undef := (hu.out 15 (by decide) (.inr (by kernel_rfl))).trans (by kernel_rfl)
          have hB := (hF hS).1
          have hZ : w8.heap.size ≤ w21.heap.size := Nat.le_trans HZ9.out hB.size
          have t6 : au.tmps[6]?.getD undef = .int .i64 (k : Int) := (hel.out 6 (by kernel_rfl)).trans (by kernel_rfl)
          refine step_plain rfl ?_
          go_simp
          exact hK.out (.int .i64 (k : Int)) _ (gR_up hZ hF (Below.refl _ _) 2 (by omega) (by omega) _) ⟨by rw [upU_same]; exact (G2.out _).2 rfl, fun e => by omega, fun e => by omega, fun e => by omega⟩ (fun j hj hf h => gF_up (Below.refl _ _) 2 (by omega) (by omega) _ j hj (fun e => by subst e; exact absurd (Eq.trans (Eq.symm (by kernel_rfl)) hf) Bool.false_ne_true) h)
        · intro u w21 au hsl hel hu hF hp' K hK
          have hS : u 15 = undef := (hu.out 15 (by decide) (.inr (by kernel_rfl))).trans (by kernel_rfl)
          have hB := (hF hS).1
          have hZ : w8.heap.size ≤ w21.heap.size := Nat.le_trans HZ9.out hB.size
          have h2 : u 2 = .int .i64 (k : Int) := (G2.out _).1 (PreF.get hp' 2 (by kernel_rfl)).1
          have t42 : au.tmps[42]?.getD undef = u 2 := hsl.out 2 42 (by kernel_rfl)
          rw [h2] at t42
          have e3' := hp3
          refine step_plain rfl ?_
          go_simp
          try simp only [e3', e3]
          exact hK.out (.int .i64 p3) _ (gR_up hZ hF (Below.refl _ _) 3 (by omega) (by omega) _) ⟨by rw [upU_same]; exact (G3.out _).2 rfl, fun e => by omega, fun e => by omega, fun e => by omega⟩ (fun j hj hf h => gF_up (Below.refl _ _) 3 (by omega) (by omega) _ j hj (fun e => by subst e; exact absurd (Eq.trans (Eq.symm (by kernel_rfl)) hf) Bool.false_ne_true) h)
        · intro u w21 au hsl hel hu hF hp' K hK
          have hS : u 15 = undef := (hu.out 15 (by decide) (.inr (by kernel_rfl))).trans (by kernel_rfl)
          have hB := (hF hS).1
          have hZ : w8.heap.size ≤ w21.heap.size := Nat.le_trans HZ9.out hB.size
          have h3 : u 3 = .int .i64 p3 := (G3.out _).1 (PreF.get hp' 3 (by kernel_rfl)).1
          have t43 : au.tmps[43]?.getD undef = u 3 := hsl.out 3 43 (by kernel_rfl)
          rw [h3] at t43
          refine step_plain rfl ?_
          go_simp
          exact hK.out (.int .i64 r7) _ (gR_up hZ hF (Below.refl _ _) 4 (by omega) (by omega) _) ⟨by rw [upU_same]; exact (G4.out _).2 rfl, fun e => by omega, fun e => by omega, fun e => by omega⟩ (fun j hj hf h => gF_up (Below.refl _ _) 4 (by omega) (by omega) _ j hj (fun e => by subst e; exact absurd (Eq.trans (Eq.symm (by kernel_rfl)) hf) Bool.false_ne_true) h)
        · intro u w21 au hsl hel hu hF hp' K hK
          have hS : u 15 = undef := (hu.out 15 (by decide) (.inr (by kernel_rfl))).trans (by kernel_rfl)
          have hB := (hF hS).1
          have hZ : w8.heap.size ≤ w21.heap.size := Nat.le_trans HZ9.out hB.size
          have t4 : au.tmps[4]?.getD undef = .pointer (some ⟨R4, 0, none⟩) := (hel.out 4 (by kernel_rfl)).trans (by kernel_rfl)
          refine step_plain rfl ?_
          go_simp
          exact hK.out (.pointer (some ⟨R4, 2, none⟩)) _ (gR_up hZ hF (Below.refl _ _) 5 (by omega) (by omega) _) ⟨by rw [upU_same]; exact (G5.out _).2 rfl, fun e => by omega, fun e => by omega, fun e => by omega⟩ (fun j hj hf h => gF_up (Below.refl _ _) 5 (by omega) (by omega) _ j hj (fun e => by subst e; exact absurd (Eq.trans (Eq.symm (by kernel_rfl)) hf) Bool.false_ne_true) h)
        · intro u w21 au hsl hel hu hF hp' K hK
          have hS : u 15 = undef := (hu.out 15 (by decide) (.inr (by kernel_rfl))).trans (by kernel_rfl)
          have hB := (hF hS).1
          have hZ : w8.heap.size ≤ w21.heap.size := Nat.le_trans HZ9.out hB.size
          have h5 : u 5 = .pointer (some ⟨R4, 2, none⟩) := (G5.out _).1 (PreF.get hp' 5 (by kernel_rfl)).1
          have t45 : au.tmps[45]?.getD undef = u 5 := hsl.out 5 45 (by kernel_rfl)
          rw [h5] at t45
          obtain ⟨x3, -⟩ := (HX4r.out.below hB HQZ.out.2) 2 _ rfl
          refine step_plain rfl ?_
          go_simp
          exact hK.out (.slice (some ⟨b2, o2, none⟩) m c2) _ (gR_up hZ hF (Below.refl _ _) 6 (by omega) (by omega) _) ⟨by rw [upU_same]; exact (G6.out _).2 rfl, fun e => by omega, fun e => by omega, fun e => by omega⟩ (fun j hj hf h => gF_up (Below.refl _ _) 6 (by omega) (by omega) _ j hj (fun e => by subst e; exact absurd (Eq.trans (Eq.symm (by kernel_rfl)) hf) Bool.false_ne_true) h)
        · intro u w21 au hsl hel hu hF hp' K hK
          have hS : u 15 = undef := (hu.out 15 (by decide) (.inr (by kernel_rfl))).trans (by kernel_rfl)
          have hB := (hF hS).1
          have hZ : w8.heap.size ≤ w21.heap.size := Nat.le_trans HZ9.out hB.size
          have t6 : au.tmps[6]?.getD undef = .int .i64 (k : Int) := (hel.out 6 (by kernel_rfl)).trans (by kernel_rfl)
          refine step_plain rfl ?_
          go_simp
          exact hK.out (.int .i64 (k : Int)) _ (gR_up hZ hF (Below.refl _ _) 7 (by omega) (by omega) _) ⟨by rw [upU_same]; exact (G7.out _).2 rfl, fun e => by omega, fun e => by omega, fun e => by omega⟩ (fun j hj hf h => gF_up (Below.refl _ _) 7 (by omega) (by omega) _ j hj (fun e => by subst e; exact absurd (Eq.trans (Eq.symm (by kernel_rfl)) hf) Bool.false_ne_true) h)
        · intro u w21 au hsl hel hu hF hp' K hK
          have hS : u 15 = undef := (hu.out 15 (by decide) (.inr (by kernel_rfl))).trans (by kernel_rfl)
          have hB := (hF hS).1
          have hZ : w8.heap.size ≤ w21.heap.size := Nat.le_trans HZ9.out hB.size
          have h6 : u 6 = .slice (some ⟨b2, o2, none⟩) m c2 := (G6.out _).1 (PreF.get hp' 6 (by kernel_rfl)).1
          have t46 : au.tmps[46]?.getD undef = u 6 := hsl.out 6 46 (by kernel_rfl)
          rw [h6] at t46
          have h7 : u 7 = .int .i64 (k : Int) := (G7.out _).1 (PreF.get hp' 7 (by kernel_rfl)).1
          have t47 : au.tmps[47]?.getD undef = u 7 := hsl.out 7 47 (by kernel_rfl)
          rw [h7] at t47
          refine step_plain rfl ?_
          go_simp
          exact hK.out (.pointer (some ⟨b2, o2 + k, none⟩)) _ (gR_up hZ hF (Below.refl _ _) 8 (by omega) (by omega) _) ⟨by rw [upU_same]; exact (G8.out _).2 rfl, fun e => by omega, fun e => by omega, fun e => by omega⟩ (fun j hj hf h => gF_up (Below.refl _ _) 8 (by omega) (by omega) _ j hj (fun e => by subst e; exact absurd (Eq.trans (Eq.symm (by kernel_rfl)) hf) Bool.false_ne_true) h)
        · intro u w21 au hsl hel hu hF hp' K hK
          have hS : u 15 = undef := (hu.out 15 (by decide) (.inr (by kernel_rfl))).trans (by kernel_rfl)
          have hB := (hF hS).1
          have hZ : w8.heap.size ≤ w21.heap.size := Nat.le_trans HZ9.out hB.size
          have h8 : u 8 = .pointer (some ⟨b2, o2 + k, none⟩) := (G8.out _).1 (PreF.get hp' 8 (by kernel_rfl)).1
          have t48 : au.tmps[48]?.getD undef = u 8 := hsl.out 8 48 (by kernel_rfl)
          rw [h8] at t48
          have xc : w21.cell? ⟨b2, o2 + k, none⟩ = some (.int .i64 gk) := (hB.cell (p := ⟨b2, o2 + k, none⟩) (Nat.lt_of_lt_of_le HCR.out.2 (Nat.le_refl _))).trans HCR.out.1
          refine step_plain rfl ?_
          go_simp
          exact hK.out (.int .i64 gk) _ (gR_up hZ hF (Below.refl _ _) 9 (by omega) (by omega) _) ⟨by rw [upU_same]; exact (G9.out _).2 rfl, fun e => by omega, fun e => by omega, fun e => by omega⟩ (fun j hj hf h => gF_up (Below.refl _ _) 9 (by omega) (by omega) _ j hj (fun e => by subst e; exact absurd (Eq.trans (Eq.symm (by kernel_rfl)) hf) Bool.false_ne_true) h)
        · intro u w21 au hsl hel hu hF hp' K hK
          have hS : u 15 = undef := (hu.out 15 (by decide) (.inr (by kernel_rfl))).trans (by kernel_rfl)
          have hB := (hF hS).1
          have hZ : w8.heap.size ≤ w21.heap.size := Nat.le_trans HZ9.out hB.size
          have h9 : u 9 = .int .i64 gk := (G9.out _).1 (PreF.get hp' 9 (by kernel_rfl)).1
          have t49 : au.tmps[49]?.getD undef = u 9 := hsl.out 9 49 (by kernel_rfl)
          rw [h9] at t49
          refine step_plain rfl ?_
          go_simp
          exact hK.out (.int .i64 r5) _ (gR_up hZ hF (Below.refl _ _) 10 (by omega) (by omega) _) ⟨by rw [upU_same]; exact (G10.out _).2 rfl, fun e => by omega, fun e => by omega, fun e => by omega⟩ (fun j hj hf h => gF_up (Below.refl _ _) 10 (by omega) (by omega) _ j hj (fun e => by subst e; exact absurd (Eq.trans (Eq.symm (by kernel_rfl)) hf) Bool.false_ne_true) h)
        · intro u w21 au hsl hel hu hF hp' K hK
          have hS : u 15 = undef := (hu.out 15 (by decide) (.inr (by kernel_rfl))).trans (by kernel_rfl)
          have hB := (hF hS).1
          have hZ : w8.heap.size ≤ w21.heap.size := Nat.le_trans HZ9.out hB.size
          have h4 : u 4 = .int .i64 r7 := (G4.out _).1 (PreF.get hp' 4 (by kernel_rfl)).1
          have t44 : au.tmps[44]?.getD undef = u 4 := hsl.out 4 44 (by kernel_rfl)
          rw [h4] at t44
          have h10 : u 10 = .int .i64 r5 := (G10.out _).1 (PreF.get hp' 10 (by kernel_rfl)).1
          have t50 : au.tmps[50]?.getD undef = u 10 := hsl.out 10 50 (by kernel_rfl)
          rw [h10] at t50
          refine step_plain rfl ?_
          go_simp
          exact hK.out (.int .i64 z) _ (gR_up hZ hF (Below.refl _ _) 11 (by omega) (by omega) _) ⟨by rw [upU_same]; exact (G11.out _).2 rfl, fun e => by omega, fun e => by omega, fun e => by omega⟩ (fun j hj hf h => gF_up (Below.refl _ _) 11 (by omega) (by omega) _ j hj (fun e => by subst e; exact absurd (Eq.trans (Eq.symm (by kernel_rfl)) hf) Bool.false_ne_true) h)
        · intro u w21 au hsl hel hu hF hp' K hK
          have hS : u 15 = undef := (hu.out 15 (by decide) (.inr (by kernel_rfl))).trans (by kernel_rfl)
          have hB := (hF hS).1
          have hZ : w8.heap.size ≤ w21.heap.size := Nat.le_trans HZ9.out hB.size
          have h11 : u 11 = .int .i64 z := (G11.out _).1 (PreF.get hp' 11 (by kernel_rfl)).1
          have t51 : au.tmps[51]?.getD undef = u 11 := hsl.out 11 51 (by kernel_rfl)
          rw [h11] at t51
          refine step_plain rfl ?_
          go_simp
          have hb9 := bnew w21 (.cells #[.int .i64 z] 2)
          exact hK.out (.slice (some ⟨w21.heap.size, 0, none⟩) 1 1) _ (gR_up hZ hF hb9 12 (by omega) (by omega) _) ⟨G12.out _, fun _ => .inr (.inr ⟨w21.heap.size, upU_same _ _ _, hZ, heap_alloc_new w21 _⟩), fun e => by omega, fun e => by omega⟩ (fun j hj hf h => gF_up hb9 12 (by omega) (by omega) _ j hj (fun e => by subst e; exact absurd (Eq.trans (Eq.symm (by kernel_rfl)) hf) Bool.false_ne_true) h)
        · intro u w21 au hsl hel hu hF hp' K hK
          have hS : u 15 = undef := (hu.out 15 (by decide) (.inr (by kernel_rfl))).trans (by kernel_rfl)
          have hB := (hF hS).1
          have hZ : w8.heap.size ≤ w21.heap.size := Nat.le_trans HZ9.out hB.size
          have hg9 : ¬ Grw L (u 13) := by rw [hu.out 13 (by decide) (.inl rfl)]; exact HG.out
          have hown := (hF hS).2.resolve_right hg9
          have h1 : u 1 = .slice af L.length cf := (G1.out _).1 (PreF.get hp' 1 (by kernel_rfl)).1
          have t41 : au.tmps[41]?.getD undef = u 1 := hsl.out 1 41 (by kernel_rfl)
          rw [h1] at t41
          obtain ⟨b, h8, hBb, hnew⟩ := (((PreF.get hp' 12 (by kernel_rfl)).2.1 rfl).resolve_left (fun h => h hS)).resolve_left hg9
          have t52 : au.tmps[52]?.getD undef = u 12 := hsl.out 12 52 (by kernel_rfl)
          rw [h8] at t52
          have HOWN := hide hown
          have HNEW := hide hnew
          have HBW := hide hB
          clear hown hnew hB
          refine step_append_lies _ (by rfl) _ _ _ (by rfl) w8.heap.size 2 ti _ 1 8 Try.underlying24 HI1.out hi2 hi3 hi4 rfl (by omega) (.slice af L.length cf) L.length (ints L) (by rw [eval_tmp]; exact t41) HOWN.out ⟨b, 0, none⟩ 1 1 [.int .i64 z] (by rw [eval_tmp]; exact t52) (by rfl) (World.news_of_block (cs := #[.int .i64 z]) (t := 2) (fr := (0, 0)) HNEW.out) (by simp [Value.oneCell']) (by omega) (by have := HLk.out; have := HkB.out; unfold maxLen; omega) (by have := HLk.out; have := HkB.out; omega) hZ w21.heap.size rfl ?_
          intro gg cap1 w22 hown1 hgrow hat hlt1
          have hbg : Below w8.heap.size w21 w22 := (Below.refl _ _).grown hgrow hZ (fun q' hq' => (HOWN.out.lt q' hq').1)
          have hgv : Grw L (.slice (some ⟨gg, 0, none⟩) (L.length + 1) cap1) := ⟨_, _, rfl⟩
          exact hK.out (.slice (some ⟨gg, 0, none⟩) (L.length + 1) cap1) _ (fun _ => ⟨HBW.out.trans hbg, .inr (by rw [upU_same]; exact hgv)⟩) ⟨G13.out _, fun e => by omega, fun _ => .inr ⟨some ⟨gg, 0, none⟩, cap1, upU_same _ _ _, by rw [ints_append]; exact hown1⟩, fun e => by omega⟩ (fun j hj hf h => gF_gr hgv j hj (fun e => by subst e; exact absurd (Eq.trans (Eq.symm (by kernel_rfl)) hf) Bool.false_ne_true) h)
        · intro u w21 au hsl hel hu hF hp' K hK
          have hS : u 15 = undef := (hu.out 15 (by decide) (.inr (by kernel_rfl))).trans (by kernel_rfl)
          have hB := (hF hS).1
          have hZ : w8.heap.size ≤ w21.heap.size := Nat.le_trans HZ9.out hB.size
          have t5 : au.tmps[5]?.getD undef = .pointer (some ⟨R5, 0, none⟩) := (hel.out 5 (by kernel_rfl)).trans (by kernel_rfl)
          refine step_plain rfl ?_
          go_simp
          exact hK.out (.pointer (some ⟨R5, 2, none⟩)) _ (gR_up hZ hF (Below.refl _ _) 14 (by omega) (by omega) _) ⟨by rw [upU_same]; exact (G14.out _).2 rfl, fun e => by omega, fun e => by omega, fun e => by omega⟩ (fun j hj hf h => gF_up (Below.refl _ _) 14 (by omega) (by omega) _ j hj (fun e => by subst e; exact absurd (Eq.trans (Eq.symm (by kernel_rfl)) hf) Bool.false_ne_true) h)
        · intro u w21 au hsl hel hu hF hp' K hK
          have hS : u 15 = undef := (hu.out 15 (by decide) (.inl rfl)).trans (by kernel_rfl)
          have hB := (hF hS).1
          have hZ : w8.heap.size ≤ w21.heap.size := Nat.le_trans HZ9.out hB.size
          obtain ⟨a', c', h9, hown⟩ := ((PreF.get hp' 13 (by kernel_rfl)).2.2.1 rfl).resolve_left (fun h => h hS)
          have t53 : au.tmps[53]?.getD undef = u 13 := hsl.out 13 53 (by kernel_rfl)
          rw [h9] at t53
          have h14 : u 14 = .pointer (some ⟨R5, 2, none⟩) := (G14.out _).1 (PreF.get hp' 14 (by kernel_rfl)).1
          have t54 : au.tmps[54]?.getD undef = u 14 := hsl.out 14 54 (by kernel_rfl)
          rw [h14] at t54
          obtain ⟨x3, y3⟩ := (HB5.out.below hB HQZ.out.1) 2 _ rfl
          have HOWN := hide hown
          clear hown
          refine step_plain rfl ?_
          go_simp
          exact hK.out (.bool true) _ (fun h0 => by rw [upU_same] at h0; simp [undef] at h0) ⟨G15.out _, fun e => by omega, fun e => by omega, fun _ => ⟨w21, a', c', rfl, hB, HOWN.out, (upU_other _ _ (by omega)).trans h9⟩⟩ (fun j hj _ h => gF_st (by simp [undef]) j hj h)
      · intro u w30 hF hall
        obtain ⟨w1', a', c', hw30, hbw, hown, h9⟩ := (hall 15 (by decide)).2.2.2 rfl
        have hq := HQZ.out.1
        have HE : Hid (Kept R5 w8 w30 ∧ Bx R5 [.int .i64 W2, .int .i64 H2, .slice a' (L ++ [z]).length c'] w30 ∧ w30.ownsRow w8.heap.size 2 1 (.slice a' (L ++ [z]).length c') (L ++ [z]).length (ints (L ++ [z]))) := by
          have el : (L ++ [z]).length = L.length + 1 := by simp
          rw [hw30, el]
          have hk9 : Kept R5 w8 w1' := ⟨hbw.os.trans HKR.out.os, hbw.tape.trans HKR.out.tape, hbw.output.trans HKR.out.output, Nat.le_trans HKR.out.size hbw.size, fun b hb hbq => (hbw.block b hb).trans (HKR.out.block b hb hbq)⟩
          exact ⟨hk9.setCell rfl _, (HB5.out.below hbw hq).set 2 _, own_farG hown hq _⟩
        have HG9 : Hid (¬ Grw (L ++ [z]) (.slice a' (L.length + 1) c')) := fun ⟨_, _, e⟩ => by simp at e
        have HL9 : Hid ((L ++ [z]).length = k + 1) := by show _ = _; rw [← HLk.out]; simp
        have HD9 : Hid (∀ j, j < k + 1 → (L ++ [z]).getD j 0 = coil2 g j) := fun j hj => by
          have hl := HLk.out
          simp only [List.getD]
          by_cases e : j < k
          · rw [List.getElem?_append_left (by omega)]; exact HLD.out j e
          · obtain rfl : j = k := by omega
            rw [List.getElem?_append_right (by omega), hl, Nat.sub_self]; exact HZZ.out.symm
        clear hF hall hw30 hbw hown hq HKR HB5 HOW HG HLk HLD HCR
        simp only [rgPut, Act.put, h9]
        clear h9
        go_simp
        go_wp2_with fail
        go_roundw
        case rel => exact ⟨k + 1, L ++ [z], a', c', by simp, HG9.out, HL9.out, HJ1.out, HD9.out, HE.out⟩
        case measure => simpa [intOf] using HMe.out
    · obtain rfl : k = m := by omega
      have hki : ¬ (k : Int) < (k : Int) := by omega
      clear hlt hkn
      rw [HLk.out] at HB5 HOW
      have HPB : Hid (Px af k (coil2 g) wr) := (own_pxC HOW.out).congrC (fun j hj => HLD.out j (by have := HLk.out; omega))
      have HCK0 : Hid (CK W2 H2 k f g (coil2 g) x x2 af c c2 cf R3 R4 R5 w1 wr) := ⟨HW8.out.trans (HKR.out.below (by have := HR8.out; omega) HW8.out.size), HX38.out.kept HKR.out (by have := HR8.out; omega), HX4r.out, HB5.out, HPX8.out.keptC HKR.out HL8.out.1, HPG8.out.keptC HKR.out HL8.out.2, HPB.out⟩
      obtain ⟨HH, hHH⟩ : ∃ h, H2 / 2 = h := ⟨_, rfl⟩
      obtain ⟨KK, hKK⟩ : ∃ q, k / 2 = q := ⟨_, rfl⟩
      obtain ⟨F1, hF1⟩ : ∃ F, foldF KK f g = F := ⟨_, rfl⟩
      obtain ⟨F2, hF2⟩ : ∃ F, foldF KK f (coil2 g) = F := ⟨_, rfl⟩
      obtain ⟨U, hU⟩ : ∃ F, curF KK F1 F2 g (coil2 g) KK = F := ⟨_, rfl⟩
      obtain ⟨CT, hCT⟩ : ∃ F, cntF KK F1 F2 g (coil2 g) KK = F := ⟨_, rfl⟩
      have HFO : Hid (∀ A1 C1 A3 C3 wz, Px A1 k f wz → Px A3 k g wz → Calls Try.prog 7 #[im W2 H2 A1 k C1, im W2 H2 A3 k C3] wz (ImR W2 HH KK F1 wz)) := fun A1 C1 A3 C3 wz h1 h3 => by
        have cc := implFold_any W2 H2 A1 k C1 f (by have := HN.out; omega) W2 H2 A3 k C3 g (by have := HN.out; omega) wz h1 h3
        rw [HQ0.out, hHH, hKK, hF1] at cc
        have e : foldN true k = KK := hKK
        rw [e] at cc
        exact cc
      have HFP : Hid (∀ A1 C1 A3 C3 wz, Px A1 k f wz → Px A3 k (coil2 g) wz → Calls Try.prog 7 #[im W2 H2 A1 k C1, im W2 H2 A3 k C3] wz (ImR W2 HH KK F2 wz)) := fun A1 C1 A3 C3 wz h1 h3 => by
        have cc := implFold_any W2 H2 A1 k C1 f (by have := HN.out; omega) W2 H2 A3 k C3 (coil2 g) (by have := HN.out; omega) wz h1 h3
        rw [HQ.out.1, hHH, hKK, hF2] at cc
        have e : foldN true k = KK := hKK
        rw [e] at cc
        exact cc
      have HUN : Hid (∀ A0 C0 A1 C1 A3 C3 A5 C5 wz, Px A0 KK F1 wz → Px A1 KK F2 wz → Px A3 k g wz → Px A5 k (coil2 g) wz → Calls Try.prog 9 #[im W2 HH A0 KK C0, im W2 HH A1 KK C1, im W2 H2 A3 k C3, im W2 H2 A5 k C5] wz (ImRI W2 H2 k U (CT : Int) wz)) := fun A0 C0 A1 C1 A3 C3 A5 C5 wz h0 h1 h3 h5 => by
        have hk2 : KK ≤ 1048576 := by have := HN.out; omega
        have cc := implUnfold_any W2 HH A0 KK C0 F1 hk2 W2 HH A1 KK C1 F2 hk2 W2 H2 A3 k C3 g (by have := HN.out; omega) W2 H2 A5 k C5 (coil2 g) (by have := HN.out; omega) wz h0 h1 h3 h5
        have hq := HQ.out.2.1
        rw [hHH, hKK, hF1, hF2] at hq
        rw [hq, hU, hCT] at cc
        exact cc
      have HCY : Hid (∀ A C F wz, Px A k F wz → Calls Try.prog 8 #[im W2 H2 A k C] wz (ImR W2 H2 k F wz)) := fun A C F wz h => (copyImage_any W2 H2 A k C F (by have := HN.out; omega) (by have := HN.out; omega) wz h).mono fun e w' ⟨b, cc, he, hr, hb, hw⟩ => ⟨_, cc, b, he, .inr ⟨rfl, hr⟩, .inr hb, hw⟩
      have HRS : Hid (∀ A C wz, Px A k f wz → Calls Try.prog 10 #[im W2 H2 A k C] wz (ImR W2 H2 k (resF f) wz)) := fun A C wz h => by
        have cc := specResidues_any W2 H2 A k C f (by have := HN.out; omega) wz h
        rw [HQ.out.2.2.1] at cc
        exact cc
      have HEND : Hid (badL KK g (coil2 g) KK = CT) := (badL_cnt KK F1 F2 g (coil2 g) KK).trans hCT
      have HEQ : Hid (∀ q, q < KK → lwD (g q) (g (q + KK)) (coil2 g q) (coil2 g (q + KK)) ≠ 0 → U q = resF f q ∧ U (q + KK) = resF f (q + KK)) := fun q hq hd => by
        have h := coils_at f g (coil2 g) hq hd
        rw [hF1, hF2, hU] at h
        exact h
      have HKK : Hid (k = KK + KK ∧ 1 ≤ KK ∧ k ≤ 64) := by have := HQ.out.2.2.2.1; have := HN.out; exact ⟨by omega, by omega, by omega⟩
      have HBL := hide (badL_le KK g (coil2 g))
      have HCB : Hid (∀ i, -10 ≤ coil2 g i ∧ coil2 g i ≤ 10) := coil2_bd g
      clear hHH hKK hF1 hF2 hU hCT HPB HLk HKR HB5 HOW HG HLD HX8 HX38 HX48 HPX8 HPG8 HL8 HW8 HR8 hi2 hi3 hi4 HI1 HQ HQ0 HM
      generalize coil2 g = HC at *
      go_upto_region 11 with fail
      clear j2 HX4r
      obtain ⟨wA, hwA⟩ : ∃ wA, wA = wr := ⟨_, rfl⟩
      rw [← hwA] at HCK0 ⊢
      clear hwA
      go_cut [7] (fun s' wc => ∃ Q, s' = .pointer (some ⟨Q, 0, none⟩) ∧ ImB W2 HH KK F1 Q wc ∧ Below wA.heap.size wA wc)
      case first =>
        obtain ⟨G, hG⟩ : ∃ G : Nat → Value → Prop, G = (fun j v => match j with | 0 => v = im W2 H2 x k c | 2 => v = im W2 H2 x2 k c2 | _ => True) := ⟨_, rfl⟩
        have G0 : Hid (∀ v, G 0 v ↔ v = im W2 H2 x k c) := fun v => by rw [hG]; exact Iff.rfl
        have G1 : Hid (∀ v, G 1 v) := fun v => by rw [hG]; trivial
        have G2 : Hid (∀ v, G 2 v ↔ v = im W2 H2 x2 k c2) := fun v => by rw [hG]; exact Iff.rfl
        have G3 : Hid (∀ v, G 3 v) := fun v => by rw [hG]; trivial
        have G4 : Hid (∀ v, G 4 v) := fun v => by rw [hG]; trivial
        have G5 : Hid (∀ v, G 5 v) := fun v => by rw [hG]; trivial
        have G6 : Hid (∀ v, G 6 v) := fun v => by rw [hG]; trivial
        clear hG
        obtain ⟨pv, hpv⟩ : ∃ pv : Nat → Option OwnP, pv = (fun j => match j with | 1 => some (imgP W2 H2 k f) | 3 => some (imgP W2 H2 k g) | 4 => some (imgP W2 HH KK F1) | _ => none) := ⟨_, rfl⟩
        have O0 : Hid (pv 0 = none) := by rw [hpv]; exact rfl
        have O1 : Hid (pv 1 = some (imgP W2 H2 k f)) := by rw [hpv]; exact rfl
        have O2 : Hid (pv 2 = none) := by rw [hpv]; exact rfl
        have O3 : Hid (pv 3 = some (imgP W2 H2 k g)) := by rw [hpv]; exact rfl
        have O4 : Hid (pv 4 = some (imgP W2 HH KK F1)) := by rw [hpv]; exact rfl
        have O5 : Hid (pv 5 = none) := by rw [hpv]; exact rfl
        have O6 : Hid (pv 6 = none) := by rw [hpv]; exact rfl
        have HST : Hid (∀ j p, pv j = some p → Stab p) := by
          intro j p hp
          rw [hpv] at hp
          dsimp only at hp
          split at hp <;> cases hp
          · exact imgP_st _ _ _ _
          · exact imgP_st _ _ _ _
          · exact imgP_st _ _ _ _
        clear hpv
        obtain ⟨PX, hPX⟩ : ∃ P : Nat → World → Prop, P = (ImB W2 HH KK F1) := ⟨_, rfl⟩
        have HPX : Hid (∀ (Q : Nat) (wx wy : World), Below wx.heap.size wx wy → PX Q wx → PX Q wy) := by
          intro Q wx wy hb hp
          rw [hPX] at hp ⊢
          exact hp.below hb
        have HPY : Hid (PX = ImB W2 HH KK F1) := hPX
        clear hPX
        refine region_opsV (bR 5 6 (.int .i64 0) [.int .i64 0, .slice none 0 0] wA) (kF 5 6 wA G pv PX) (by kernel_rfl) (by kernel_rfl) (by kernel_rfl) (by kernel_rfl) ?_ ?_ ?_
        · refine ⟨(Below.refl _ _).drew, fun B hB hBB => ?_⟩
          have h := hB.symm.trans (show _ = undef by kernel_rfl)
          simp [undef] at h
        · refine ⟨?_, ?_, ?_, ?_, ?_, ?_, ?_, trivial⟩
          · intro u w21 au hsl hel hu hF hp' K hK
            have t3 : au.tmps[3]?.getD undef = .pointer (some ⟨R3, 0, none⟩) := (hel.out 3 (by kernel_rfl)).trans (by kernel_rfl)
            obtain ⟨xa, xb, xc⟩ := (HCK0.out.next hF.1).b3.im3
            refine step_plain rfl ?_
            go_simp
            exact hK.out (im W2 H2 x k c) _ (bR_up hF (Below.refl _ _) 0 (by omega) (by omega) _) (kF_val 0 (by omega) (by omega) O0.out ((G0.out _).2 rfl)) (fun j hj hf h => kF_up HST.out (fun M hM => HPX.out M _ _ (Below.refl _ _) hM) (Below.refl _ _) 0 (by omega) (by omega) _ j hj h)
          · intro u w21 au hsl hel hu hF hp' K hK
            have hS : u 6 = undef := (hu.out 6 (by decide) (.inr (by kernel_rfl))).trans (by kernel_rfl)
            have h0 : u 0 = im W2 H2 x k c := (G0.out _).1 (PreF.get hp' 0 (by kernel_rfl)).1
            have t55 : au.tmps[55]?.getD undef = u 0 := hsl.out 0 55 (by kernel_rfl)
            rw [h0] at t55
            have cc := HCY.out x c f w21 (HCK0.out.next hF.1).p3
            refine step_plain rfl ?_
            go_simp
            refine cc.mono ?_
            rintro e w22 ⟨q0, q1, q2, rfl, q3, q4, hb9⟩
            exact hK.out (im W2 H2 q0 k q1) _ (bR_up hF hb9 1 (by omega) (by omega) _) (kF_own 1 (by omega) (by omega) O1.out (G1.out _) (gB.newI hF hS W2 H2 q1 q3 q4)) (fun j hj hf h => kF_up HST.out (fun M hM => HPX.out M _ _ hb9 hM) hb9 1 (by omega) (by omega) _ j hj h)
          · intro u w21 au hsl hel hu hF hp' K hK
            have t4 : au.tmps[4]?.getD undef = .pointer (some ⟨R4, 0, none⟩) := (hel.out 4 (by kernel_rfl)).trans (by kernel_rfl)
            obtain ⟨xa, xb, xc⟩ := (HCK0.out.next hF.1).b4.im3
            refine step_plain rfl ?_
            go_simp
            exact hK.out (im W2 H2 x2 k c2) _ (bR_up hF (Below.refl _ _) 2 (by omega) (by omega) _) (kF_val 2 (by omega) (by omega) O2.out ((G2.out _).2 rfl)) (fun j hj hf h => kF_up HST.out (fun M hM => HPX.out M _ _ (Below.refl _ _) hM) (Below.refl _ _) 2 (by omega) (by omega) _ j hj h)
          · intro u w21 au hsl hel hu hF hp' K hK
            have hS : u 6 = undef := (hu.out 6 (by decide) (.inr (by kernel_rfl))).trans (by kernel_rfl)
            have h2 : u 2 = im W2 H2 x2 k c2 := (G2.out _).1 (PreF.get hp' 2 (by kernel_rfl)).1
            have t57 : au.tmps[57]?.getD undef = u 2 := hsl.out 2 57 (by kernel_rfl)
            rw [h2] at t57
            have cc := HCY.out x2 c2 g w21 (HCK0.out.next hF.1).p4
            refine step_plain rfl ?_
            go_simp
            refine cc.mono ?_
            rintro e w22 ⟨q0, q1, q2, rfl, q3, q4, hb9⟩
            exact hK.out (im W2 H2 q0 k q1) _ (bR_up hF hb9 3 (by omega) (by omega) _) (kF_own 3 (by omega) (by omega) O3.out (G3.out _) (gB.newI hF hS W2 H2 q1 q3 q4)) (fun j hj hf h => kF_up HST.out (fun M hM => HPX.out M _ _ hb9 hM) hb9 3 (by omega) (by omega) _ j hj h)
          · intro u w21 au hsl hel hu hF hp' K hK
            have hS : u 6 = undef := (hu.out 6 (by decide) (.inr (by kernel_rfl))).trans (by kernel_rfl)
            obtain ⟨bs1, hbs1, ⟨A1, C1, B1, e1, o1, m1⟩, hap1⟩ := ((PreF.get hp' 1 (by kernel_rfl)).2.1 _ O1.out).resolve_left (fun hx => hx hS)
            have t56 : au.tmps[56]?.getD undef = u 1 := hsl.out 1 56 (by kernel_rfl)
            rw [e1] at t56
            obtain ⟨bs3, hbs3, ⟨A3, C3, B3, e3, o3, m3⟩, hap3⟩ := ((PreF.get hp' 3 (by kernel_rfl)).2.1 _ O3.out).resolve_left (fun hx => hx hS)
            have t58 : au.tmps[58]?.getD undef = u 3 := hsl.out 3 58 (by kernel_rfl)
            rw [e3] at t58
            have cc := HFO.out A1 C1 A3 C3 w21 (Ow.px o1) (Ow.px o3)
            refine step_plain rfl ?_
            go_simp
            refine cc.mono ?_
            rintro e w22 ⟨q0, q1, q2, rfl, q3, q4, hb9⟩
            exact hK.out (im W2 HH q0 KK q1) _ (bR_up hF hb9 4 (by omega) (by omega) _) (kF_own 4 (by omega) (by omega) O4.out (G4.out _) (gB.newI hF hS W2 HH q1 q3 q4)) (fun j hj hf h => kF_up HST.out (fun M hM => HPX.out M _ _ hb9 hM) hb9 4 (by omega) (by omega) _ j hj h)
          · intro u w21 au hsl hel hu hF hp' K hK
            refine step_plain rfl ?_
            go_simp
            exact hK.out (.pointer (some ⟨w21.heap.size, 0, none⟩)) _ (bR_al hF (Bx.new [.int .i64 0, .int .i64 0, .slice none 0 0] 26 w21)) (kF_ptr (by omega) (G5.out) O5.out hF.1.size) (fun j hj hf h => kF_al HST.out (by omega) _ j hj (fun e => by subst e; exact absurd (Eq.trans (Eq.symm (by kernel_rfl)) hf) Bool.false_ne_true) h)
          · intro u w21 au hsl hel hu hF hp' K hK
            have hS : u 6 = undef := (hu.out 6 (by decide) (.inl rfl)).trans (by kernel_rfl)
            obtain ⟨bs4, hbs4, ⟨A4, C4, B4, e4, o4, m4⟩, hap4⟩ := ((PreF.get hp' 4 (by kernel_rfl)).2.1 _ O4.out).resolve_left (fun hx => hx hS)
            have t59 : au.tmps[59]?.getD undef = u 4 := hsl.out 4 59 (by kernel_rfl)
            rw [e4] at t59
            obtain ⟨Q, hQ, hQB⟩ := (PreF.get hp' 5 (by kernel_rfl)).2.2.1 rfl
            have t7 : au.tmps[7]?.getD undef = .pointer (some ⟨Q, 0, none⟩) := (hsl.out 5 7 (by kernel_rfl)).trans hQ
            have hx := (hF.2 Q hQ hQB).resolve_left (fun hx => hx hS)
            obtain ⟨y0, z0⟩ := hx 0 _ rfl
            obtain ⟨y1, z1⟩ := hx 1 _ rfl
            obtain ⟨y2, z2⟩ := hx 2 _ rfl
            refine step_plain rfl ?_
            go_simp
            exact hK.out (.bool true) _ (bR_st (below_set3g hF.1 hQB _ _ _) (by simp [undef])) (kF_done (by omega) (G6.out) O6.out hQ hQB (by rw [HPY.out]; exact ImB.stored (A := 5) (u := u) o4 m4 hap4 hQ hx)) (fun j hj hf h => kF_st (by omega) (by simp [undef]) j hj h)
        · intro u w30 hF hall
          obtain ⟨Q, hQ, hQB, hP⟩ := (hall 6 (by decide)).2.2.2 rfl
          rw [HPY.out] at hP
          have HE := hide (And.intro hP hF.1)
          clear hF hall hP
          simp only [rgPut, Act.put, hQ]
          clear hQ hQB
          go_simp
          go_wp2_with fail
          go_meet
          exact ⟨Q, rfl, HE.out.1, HE.out.2⟩
      case rest =>
      obtain ⟨Q7, rfl, hI7, hbB⟩ := hcut
      obtain ⟨a7, c7, hx7, hp7⟩ := hI7
      have HX70 := hide hx7
      have HP70 := hide hp7
      have HCK1 := hide (HCK0.out.next hbB)
      clear hbB hx7 hp7 HCK0
      obtain ⟨wB, hwB⟩ : ∃ wB, wB = wc := ⟨_, rfl⟩
      rw [← hwB] at HCK1 HX70 HP70 ⊢
      clear hwB
      go_upto_region 12 with fail
      go_cut [8] (fun s' wc => ∃ Q, s' = .pointer (some ⟨Q, 0, none⟩) ∧ ImB W2 HH KK F2 Q wc ∧ Below wB.heap.size wB wc)
      case first =>
        obtain ⟨G, hG⟩ : ∃ G : Nat → Value → Prop, G = (fun j v => match j with | 0 => v = im W2 H2 x k c | 2 => v = im W2 H2 af k cf | _ => True) := ⟨_, rfl⟩
        have G0 : Hid (∀ v, G 0 v ↔ v = im W2 H2 x k c) := fun v => by rw [hG]; exact Iff.rfl
        have G1 : Hid (∀ v, G 1 v) := fun v => by rw [hG]; trivial
        have G2 : Hid (∀ v, G 2 v ↔ v = im W2 H2 af k cf) := fun v => by rw [hG]; exact Iff.rfl
        have G3 : Hid (∀ v, G 3 v) := fun v => by rw [hG]; trivial
        have G4 : Hid (∀ v, G 4 v) := fun v => by rw [hG]; trivial
        have G5 : Hid (∀ v, G 5 v) := fun v => by rw [hG]; trivial
        have G6 : Hid (∀ v, G 6 v) := fun v => by rw [hG]; trivial
        clear hG
        obtain ⟨pv, hpv⟩ : ∃ pv : Nat → Option OwnP, pv = (fun j => match j with | 1 => some (imgP W2 H2 k f) | 3 => some (imgP W2 H2 k HC) | 4 => some (imgP W2 HH KK F2) | _ => none) := ⟨_, rfl⟩
        have O0 : Hid (pv 0 = none) := by rw [hpv]; exact rfl
        have O1 : Hid (pv 1 = some (imgP W2 H2 k f)) := by rw [hpv]; exact rfl
        have O2 : Hid (pv 2 = none) := by rw [hpv]; exact rfl
        have O3 : Hid (pv 3 = some (imgP W2 H2 k HC)) := by rw [hpv]; exact rfl
        have O4 : Hid (pv 4 = some (imgP W2 HH KK F2)) := by rw [hpv]; exact rfl
        have O5 : Hid (pv 5 = none) := by rw [hpv]; exact rfl
        have O6 : Hid (pv 6 = none) := by rw [hpv]; exact rfl
        have HST : Hid (∀ j p, pv j = some p → Stab p) := by
          intro j p hp
          rw [hpv] at hp
          dsimp only at hp
          split at hp <;> cases hp
          · exact imgP_st _ _ _ _
          · exact imgP_st _ _ _ _
          · exact imgP_st _ _ _ _
        clear hpv
        obtain ⟨PX, hPX⟩ : ∃ P : Nat → World → Prop, P = (ImB W2 HH KK F2) := ⟨_, rfl⟩
        have HPX : Hid (∀ (Q : Nat) (wx wy : World), Below wx.heap.size wx wy → PX Q wx → PX Q wy) := by
          intro Q wx wy hb hp
          rw [hPX] at hp ⊢
          exact hp.below hb
        have HPY : Hid (PX = ImB W2 HH KK F2) := hPX
        clear hPX
        refine region_opsV (bR 5 6 (.int .i64 0) [.int .i64 0, .slice none 0 0] wB) (kF 5 6 wB G pv PX) (by kernel_rfl) (by kernel_rfl) (by kernel_rfl) (by kernel_rfl) ?_ ?_ ?_
        · refine ⟨(Below.refl _ _).drew, fun B hB hBB => ?_⟩
          have h := hB.symm.trans (show _ = undef by kernel_rfl)
          simp [undef] at h
        · refine ⟨?_, ?_, ?_, ?_, ?_, ?_, ?_, trivial⟩
          · intro u w21 au hsl hel hu hF hp' K hK
            have t3 : au.tmps[3]?.getD undef = .pointer (some ⟨R3, 0, none⟩) := (hel.out 3 (by kernel_rfl)).trans (by kernel_rfl)
            obtain ⟨xa, xb, xc⟩ := (HCK1.out.next hF.1).b3.im3
            refine step_plain rfl ?_
            go_simp
            exact hK.out (im W2 H2 x k c) _ (bR_up hF (Below.refl _ _) 0 (by omega) (by omega) _) (kF_val 0 (by omega) (by omega) O0.out ((G0.out _).2 rfl)) (fun j hj hf h => kF_up HST.out (fun M hM => HPX.out M _ _ (Below.refl _ _) hM) (Below.refl _ _) 0 (by omega) (by omega) _ j hj h)
          · intro u w21 au hsl hel hu hF hp' K hK
            have hS : u 6 = undef := (hu.out 6 (by decide) (.inr (by kernel_rfl))).trans (by kernel_rfl)
            have h0 : u 0 = im W2 H2 x k c := (G0.out _).1 (PreF.get hp' 0 (by kernel_rfl)).1
            have t60 : au.tmps[60]?.getD undef = u 0 := hsl.out 0 60 (by kernel_rfl)
            rw [h0] at t60
            have cc := HCY.out x c f w21 (HCK1.out.next hF.1).p3
            refine step_plain rfl ?_
            go_simp
            refine cc.mono ?_
            rintro e w22 ⟨q0, q1, q2, rfl, q3, q4, hb9⟩
            exact hK.out (im W2 H2 q0 k q1) _ (bR_up hF hb9 1 (by omega) (by omega) _) (kF_own 1 (by omega) (by omega) O1.out (G1.out _) (gB.newI hF hS W2 H2 q1 q3 q4)) (fun j hj hf h => kF_up HST.out (fun M hM => HPX.out M _ _ hb9 hM) hb9 1 (by omega) (by omega) _ j hj h)
          · intro u w21 au hsl hel hu hF hp' K hK
            have t5 : au.tmps[5]?.getD undef = .pointer (some ⟨R5, 0, none⟩) := (hel.out 5 (by kernel_rfl)).trans (by kernel_rfl)
            obtain ⟨xa, xb, xc⟩ := (HCK1.out.next hF.1).b5.im3
            refine step_plain rfl ?_
            go_simp
            exact hK.out (im W2 H2 af k cf) _ (bR_up hF (Below.refl _ _) 2 (by omega) (by omega) _) (kF_val 2 (by omega) (by omega) O2.out ((G2.out _).2 rfl)) (fun j hj hf h => kF_up HST.out (fun M hM => HPX.out M _ _ (Below.refl _ _) hM) (Below.refl _ _) 2 (by omega) (by omega) _ j hj h)
          · intro u w21 au hsl hel hu hF hp' K hK
            have hS : u 6 = undef := (hu.out 6 (by decide) (.inr (by kernel_rfl))).trans (by kernel_rfl)
            have h2 : u 2 = im W2 H2 af k cf := (G2.out _).1 (PreF.get hp' 2 (by kernel_rfl)).1
            have t62 : au.tmps[62]?.getD undef = u 2 := hsl.out 2 62 (by kernel_rfl)
            rw [h2] at t62
            have cc := HCY.out af cf HC w21 (HCK1.out.next hF.1).p5
            refine step_plain rfl ?_
            go_simp
            refine cc.mono ?_
            rintro e w22 ⟨q0, q1, q2, rfl, q3, q4, hb9⟩
            exact hK.out (im W2 H2 q0 k q1) _ (bR_up hF hb9 3 (by omega) (by omega) _) (kF_own 3 (by omega) (by omega) O3.out (G3.out _) (gB.newI hF hS W2 H2 q1 q3 q4)) (fun j hj hf h => kF_up HST.out (fun M hM => HPX.out M _ _ hb9 hM) hb9 3 (by omega) (by omega) _ j hj h)
          · intro u w21 au hsl hel hu hF hp' K hK
            have hS : u 6 = undef := (hu.out 6 (by decide) (.inr (by kernel_rfl))).trans (by kernel_rfl)
            obtain ⟨bs1, hbs1, ⟨A1, C1, B1, e1, o1, m1⟩, hap1⟩ := ((PreF.get hp' 1 (by kernel_rfl)).2.1 _ O1.out).resolve_left (fun hx => hx hS)
            have t61 : au.tmps[61]?.getD undef = u 1 := hsl.out 1 61 (by kernel_rfl)
            rw [e1] at t61
            obtain ⟨bs3, hbs3, ⟨A3, C3, B3, e3, o3, m3⟩, hap3⟩ := ((PreF.get hp' 3 (by kernel_rfl)).2.1 _ O3.out).resolve_left (fun hx => hx hS)
            have t63 : au.tmps[63]?.getD undef = u 3 := hsl.out 3 63 (by kernel_rfl)
            rw [e3] at t63
            have cc := HFP.out A1 C1 A3 C3 w21 (Ow.px o1) (Ow.px o3)
            refine step_plain rfl ?_
            go_simp
            refine cc.mono ?_
            rintro e w22 ⟨q0, q1, q2, rfl, q3, q4, hb9⟩
            exact hK.out (im W2 HH q0 KK q1) _ (bR_up hF hb9 4 (by omega) (by omega) _) (kF_own 4 (by omega) (by omega) O4.out (G4.out _) (gB.newI hF hS W2 HH q1 q3 q4)) (fun j hj hf h => kF_up HST.out (fun M hM => HPX.out M _ _ hb9 hM) hb9 4 (by omega) (by omega) _ j hj h)
          · intro u w21 au hsl hel hu hF hp' K hK
            refine step_plain rfl ?_
            go_simp
            exact hK.out (.pointer (some ⟨w21.heap.size, 0, none⟩)) _ (bR_al hF (Bx.new [.int .i64 0, .int .i64 0, .slice none 0 0] 26 w21)) (kF_ptr (by omega) (G5.out) O5.out hF.1.size) (fun j hj hf h => kF_al HST.out (by omega) _ j hj (fun e => by subst e; exact absurd (Eq.trans (Eq.symm (by kernel_rfl)) hf) Bool.false_ne_true) h)
          · intro u w21 au hsl hel hu hF hp' K hK
            have hS : u 6 = undef := (hu.out 6 (by decide) (.inl rfl)).trans (by kernel_rfl)
            obtain ⟨bs4, hbs4, ⟨A4, C4, B4, e4, o4, m4⟩, hap4⟩ := ((PreF.get hp' 4 (by kernel_rfl)).2.1 _ O4.out).resolve_left (fun hx => hx hS)
            have t64 : au.tmps[64]?.getD undef = u 4 := hsl.out 4 64 (by kernel_rfl)
            rw [e4] at t64
            obtain ⟨Q, hQ, hQB⟩ := (PreF.get hp' 5 (by kernel_rfl)).2.2.1 rfl
            have t8 : au.tmps[8]?.getD undef = .pointer (some ⟨Q, 0, none⟩) := (hsl.out 5 8 (by kernel_rfl)).trans hQ
            have hx := (hF.2 Q hQ hQB).resolve_left (fun hx => hx hS)
            obtain ⟨y0, z0⟩ := hx 0 _ rfl
            obtain ⟨y1, z1⟩ := hx 1 _ rfl
            obtain ⟨y2, z2⟩ := hx 2 _ rfl
            refine step_plain rfl ?_
            go_simp
            exact hK.out (.bool true) _ (bR_st (below_set3g hF.1 hQB _ _ _) (by simp [undef])) (kF_done (by omega) (G6.out) O6.out hQ hQB (by rw [HPY.out]; exact ImB.stored (A := 5) (u := u) o4 m4 hap4 hQ hx)) (fun j hj hf h => kF_st (by omega) (by simp [undef]) j hj h)
        · intro u w30 hF hall
          obtain ⟨Q, hQ, hQB, hP⟩ := (hall 6 (by decide)).2.2.2 rfl
          rw [HPY.out] at hP
          have HE := hide (And.intro hP hF.1)
          clear hF hall hP
          simp only [rgPut, Act.put, hQ]
          clear hQ hQB
          go_simp
          go_wp2_with fail
          go_meet
          exact ⟨Q, rfl, HE.out.1, HE.out.2⟩
      case rest =>
      obtain ⟨Q8, rfl, hI8, hbB⟩ := hcut
      obtain ⟨a8, c8, hx8, hp8⟩ := hI8
      have HX8 := hide hx8
      have HP8 := hide hp8
      have HX7 := hide (HX70.out.below hbB HX70.out.lt)
      have HP7 := hide (HP70.out.below hbB)
      have HCK2 := hide (HCK1.out.next hbB)
      clear hbB hx8 hp8 HCK1 HX70 HP70
      obtain ⟨wC, hwC⟩ : ∃ wC, wC = wc := ⟨_, rfl⟩
      rw [← hwC] at HCK2 HX7 HP7 HX8 HP8 ⊢
      clear hwC
      go_upto_region 13 with fail
      go_cut [9, 10] (fun s' t' wc => ∃ Q, s' = .pointer (some ⟨Q, 0, none⟩) ∧ t' = .int .i64 (CT : Int) ∧ ImB W2 H2 k U Q wc ∧ Below wC.heap.size wC wc)
      case first =>
        obtain ⟨G, hG⟩ : ∃ G : Nat → Value → Prop, G = (fun j v => match j with | 0 => v = im W2 HH a7 KK c7 | 1 => v = im W2 HH a8 KK c8 | 2 => v = im W2 H2 x2 k c2 | 4 => v = im W2 H2 af k cf | 9 => v = .int .i64 (CT : Int) | 6 => TupC W2 H2 k (CT : Int) v | 7 => TupC W2 H2 k (CT : Int) v | 12 => v = .int .i64 (CT : Int) | _ => True) := ⟨_, rfl⟩
        have G0 : Hid (∀ v, G 0 v ↔ v = im W2 HH a7 KK c7) := fun v => by rw [hG]; exact Iff.rfl
        have G1 : Hid (∀ v, G 1 v ↔ v = im W2 HH a8 KK c8) := fun v => by rw [hG]; exact Iff.rfl
        have G2 : Hid (∀ v, G 2 v ↔ v = im W2 H2 x2 k c2) := fun v => by rw [hG]; exact Iff.rfl
        have G3 : Hid (∀ v, G 3 v) := fun v => by rw [hG]; trivial
        have G4 : Hid (∀ v, G 4 v ↔ v = im W2 H2 af k cf) := fun v => by rw [hG]; exact Iff.rfl
        have G5 : Hid (∀ v, G 5 v) := fun v => by rw [hG]; trivial
        have G6 : Hid (∀ v, G 6 v ↔ TupC W2 H2 k (CT : Int) v) := fun v => by rw [hG]; exact Iff.rfl
        have G7 : Hid (∀ v, G 7 v ↔ TupC W2 H2 k (CT : Int) v) := fun v => by rw [hG]; exact Iff.rfl
        have G8 : Hid (∀ v, G 8 v) := fun v => by rw [hG]; trivial
        have G9 : Hid (∀ v, G 9 v ↔ v = .int .i64 (CT : Int)) := fun v => by rw [hG]; exact Iff.rfl
        have G10 : Hid (∀ v, G 10 v) := fun v => by rw [hG]; trivial
        have G11 : Hid (∀ v, G 11 v) := fun v => by rw [hG]; trivial
        have G12 : Hid (∀ v, G 12 v ↔ v = .int .i64 (CT : Int)) := fun v => by rw [hG]; exact Iff.rfl
        clear hG
        obtain ⟨pv, hpv⟩ : ∃ pv : Nat → Option OwnP, pv = (fun j => match j with | 3 => some (imgP W2 H2 k g) | 5 => some (imgP W2 H2 k HC) | 6 => some (unfP W2 H2 k U (CT : Int)) | 7 => some (unfP W2 H2 k U (CT : Int)) | 8 => some (imgP W2 H2 k U) | _ => none) := ⟨_, rfl⟩
        have O0 : Hid (pv 0 = none) := by rw [hpv]; exact rfl
        have O1 : Hid (pv 1 = none) := by rw [hpv]; exact rfl
        have O2 : Hid (pv 2 = none) := by rw [hpv]; exact rfl
        have O3 : Hid (pv 3 = some (imgP W2 H2 k g)) := by rw [hpv]; exact rfl
        have O4 : Hid (pv 4 = none) := by rw [hpv]; exact rfl
        have O5 : Hid (pv 5 = some (imgP W2 H2 k HC)) := by rw [hpv]; exact rfl
        have O6 : Hid (pv 6 = some (unfP W2 H2 k U (CT : Int))) := by rw [hpv]; exact rfl
        have O7 : Hid (pv 7 = some (unfP W2 H2 k U (CT : Int))) := by rw [hpv]; exact rfl
        have O8 : Hid (pv 8 = some (imgP W2 H2 k U)) := by rw [hpv]; exact rfl
        have O9 : Hid (pv 9 = none) := by rw [hpv]; exact rfl
        have O10 : Hid (pv 10 = none) := by rw [hpv]; exact rfl
        have O11 : Hid (pv 11 = none) := by rw [hpv]; exact rfl
        have O12 : Hid (pv 12 = none) := by rw [hpv]; exact rfl
        have HST : Hid (∀ j p, pv j = some p → Stab p) := by
          intro j p hp
          rw [hpv] at hp
          dsimp only at hp
          split at hp <;> cases hp
          · exact imgP_st _ _ _ _
          · exact imgP_st _ _ _ _
          · exact unfP_st _ _ _ _ _
          · exact unfP_st _ _ _ _ _
          · exact imgP_st _ _ _ _
        clear hpv
        obtain ⟨PX, hPX⟩ : ∃ P : Nat → World → Prop, P = (ImB W2 H2 k U) := ⟨_, rfl⟩
        have HPX : Hid (∀ (Q : Nat) (wx wy : World), Below wx.heap.size wx wy → PX Q wx → PX Q wy) := by
          intro Q wx wy hb hp
          rw [hPX] at hp ⊢
          exact hp.below hb
        have HPY : Hid (PX = ImB W2 H2 k U) := hPX
        clear hPX
        refine region_opsV (bR 10 11 (.int .i64 0) [.int .i64 0, .slice none 0 0] wC) (kF 10 11 wC G pv PX) (by kernel_rfl) (by kernel_rfl) (by kernel_rfl) (by kernel_rfl) ?_ ?_ ?_
        · refine ⟨(Below.refl _ _).drew, fun B hB hBB => ?_⟩
          have h := hB.symm.trans (show _ = undef by kernel_rfl)
          simp [undef] at h
        · refine ⟨?_, ?_, ?_, ?_, ?_, ?_, ?_, ?_, ?_, ?_, ?_, ?_, ?_, trivial⟩
          · intro u w21 au hsl hel hu hF hp' K hK
            have t7 : au.tmps[7]?.getD undef = .pointer (some ⟨Q7, 0, none⟩) := (hel.out 7 (by kernel_rfl)).trans (by kernel_rfl)
            obtain ⟨xa, xb, xc⟩ := (HX7.out.below hF.1 HX7.out.lt).im3
            refine step_plain rfl ?_
            go_simp
            exact hK.out (im W2 HH a7 KK c7) _ (bR_up hF (Below.refl _ _) 0 (by omega) (by omega) _) (kF_val 0 (by omega) (by omega) O0.out ((G0.out _).2 rfl)) (fun j hj hf h => kF_up HST.out (fun M hM => HPX.out M _ _ (Below.refl _ _) hM) (Below.refl _ _) 0 (by omega) (by omega) _ j hj h)
          · intro u w21 au hsl hel hu hF hp' K hK
            have t8 : au.tmps[8]?.getD undef = .pointer (some ⟨Q8, 0, none⟩) := (hel.out 8 (by kernel_rfl)).trans (by kernel_rfl)
            obtain ⟨xa, xb, xc⟩ := (HX8.out.below hF.1 HX8.out.lt).im3
            refine step_plain rfl ?_
            go_simp
            exact hK.out (im W2 HH a8 KK c8) _ (bR_up hF (Below.refl _ _) 1 (by omega) (by omega) _) (kF_val 1 (by omega) (by omega) O1.out ((G1.out _).2 rfl)) (fun j hj hf h => kF_up HST.out (fun M hM => HPX.out M _ _ (Below.refl _ _) hM) (Below.refl _ _) 1 (by omega) (by omega) _ j hj h)
          · intro u w21 au hsl hel hu hF hp' K hK
            have t4 : au.tmps[4]?.getD undef = .pointer (some ⟨R4, 0, none⟩) := (hel.out 4 (by kernel_rfl)).trans (by kernel_rfl)
            obtain ⟨xa, xb, xc⟩ := (HCK2.out.next hF.1).b4.im3
            refine step_plain rfl ?_
            go_simp
            exact hK.out (im W2 H2 x2 k c2) _ (bR_up hF (Below.refl _ _) 2 (by omega) (by omega) _) (kF_val 2 (by omega) (by omega) O2.out ((G2.out _).2 rfl)) (fun j hj hf h => kF_up HST.out (fun M hM => HPX.out M _ _ (Below.refl _ _) hM) (Below.refl _ _) 2 (by omega) (by omega) _ j hj h)
          · intro u w21 au hsl hel hu hF hp' K hK
            have hS : u 11 = undef := (hu.out 11 (by decide) (.inr (by kernel_rfl))).trans (by kernel_rfl)
            have h2 : u 2 = im W2 H2 x2 k c2 := (G2.out _).1 (PreF.get hp' 2 (by kernel_rfl)).1
            have t68 : au.tmps[68]?.getD undef = u 2 := hsl.out 2 68 (by kernel_rfl)
            rw [h2] at t68
            have cc := HCY.out x2 c2 g w21 (HCK2.out.next hF.1).p4
            refine step_plain rfl ?_
            go_simp
            refine cc.mono ?_
            rintro e w22 ⟨q0, q1, q2, rfl, q3, q4, hb9⟩
            exact hK.out (im W2 H2 q0 k q1) _ (bR_up hF hb9 3 (by omega) (by omega) _) (kF_own 3 (by omega) (by omega) O3.out (G3.out _) (gB.newI hF hS W2 H2 q1 q3 q4)) (fun j hj hf h => kF_up HST.out (fun M hM => HPX.out M _ _ hb9 hM) hb9 3 (by omega) (by omega) _ j hj h)
          · intro u w21 au hsl hel hu hF hp' K hK
            have t5 : au.tmps[5]?.getD undef = .pointer (some ⟨R5, 0, none⟩) := (hel.out 5 (by kernel_rfl)).trans (by kernel_rfl)
            obtain ⟨xa, xb, xc⟩ := (HCK2.out.next hF.1).b5.im3
            refine step_plain rfl ?_
            go_simp
            exact hK.out (im W2 H2 af k cf) _ (bR_up hF (Below.refl _ _) 4 (by omega) (by omega) _) (kF_val 4 (by omega) (by omega) O4.out ((G4.out _).2 rfl)) (fun j hj hf h => kF_up HST.out (fun M hM => HPX.out M _ _ (Below.refl _ _) hM) (Below.refl _ _) 4 (by omega) (by omega) _ j hj h)
          · intro u w21 au hsl hel hu hF hp' K hK
            have hS : u 11 = undef := (hu.out 11 (by decide) (.inr (by kernel_rfl))).trans (by kernel_rfl)
            have h4 : u 4 = im W2 H2 af k cf := (G4.out _).1 (PreF.get hp' 4 (by kernel_rfl)).1
            have t70 : au.tmps[70]?.getD undef = u 4 := hsl.out 4 70 (by kernel_rfl)
            rw [h4] at t70
            have cc := HCY.out af cf HC w21 (HCK2.out.next hF.1).p5
            refine step_plain rfl ?_
            go_simp
            refine cc.mono ?_
            rintro e w22 ⟨q0, q1, q2, rfl, q3, q4, hb9⟩
            exact hK.out (im W2 H2 q0 k q1) _ (bR_up hF hb9 5 (by omega) (by omega) _) (kF_own 5 (by omega) (by omega) O5.out (G5.out _) (gB.newI hF hS W2 H2 q1 q3 q4)) (fun j hj hf h => kF_up HST.out (fun M hM => HPX.out M _ _ hb9 hM) hb9 5 (by omega) (by omega) _ j hj h)
          · intro u w21 au hsl hel hu hF hp' K hK
            have hS : u 11 = undef := (hu.out 11 (by decide) (.inr (by kernel_rfl))).trans (by kernel_rfl)
            have h0 : u 0 = im W2 HH a7 KK c7 := (G0.out _).1 (PreF.get hp' 0 (by kernel_rfl)).1
            have t66 : au.tmps[66]?.getD undef = u 0 := hsl.out 0 66 (by kernel_rfl)
            rw [h0] at t66
            have h1 : u 1 = im W2 HH a8 KK c8 := (G1.out _).1 (PreF.get hp' 1 (by kernel_rfl)).1
            have t67 : au.tmps[67]?.getD undef = u 1 := hsl.out 1 67 (by kernel_rfl)
            rw [h1] at t67
            obtain ⟨bs3, hbs3, ⟨A3, C3, B3, e3, o3, m3⟩, hap3⟩ := ((PreF.get hp' 3 (by kernel_rfl)).2.1 _ O3.out).resolve_left (fun hx => hx hS)
            have t69 : au.tmps[69]?.getD undef = u 3 := hsl.out 3 69 (by kernel_rfl)
            rw [e3] at t69
            obtain ⟨bs5, hbs5, ⟨A5, C5, B5, e5, o5, m5⟩, hap5⟩ := ((PreF.get hp' 5 (by kernel_rfl)).2.1 _ O5.out).resolve_left (fun hx => hx hS)
            have t71 : au.tmps[71]?.getD undef = u 5 := hsl.out 5 71 (by kernel_rfl)
            rw [e5] at t71
            have cc := HUN.out a7 c7 a8 c8 A3 C3 A5 C5 w21 (HP7.out.below hF.1) (HP8.out.below hF.1) (Ow.px o3) (Ow.px o5)
            refine step_plain rfl ?_
            go_simp
            refine cc.mono ?_
            rintro e w22 ⟨q0, q1, q2, rfl, q3, q4, hb9⟩
            exact hK.out ((.tuple #[im W2 H2 q0 k q1, .int .i64 (CT : Int)])) _ (bR_up hF hb9 6 (by omega) (by omega) _) (kF_own 6 (by omega) (by omega) O6.out ((G6.out _).2 ⟨_, _, rfl⟩) (gB.newU hF hS W2 H2 (CT : Int) q1 q3 q4)) (fun j hj hf h => kF_up HST.out (fun M hM => HPX.out M _ _ hb9 hM) hb9 6 (by omega) (by omega) _ j hj h)
          · intro u w21 au hsl hel hu hF hp' K hK
            have hS : u 11 = undef := (hu.out 11 (by decide) (.inr (by kernel_rfl))).trans (by kernel_rfl)
            obtain ⟨bs6, hbs6, ⟨A6, C6, B6, e6, o6, m6⟩, hap6⟩ := ((PreF.get hp' 6 (by kernel_rfl)).2.1 _ O6.out).resolve_left (fun hx => hx hS)
            have t72 : au.tmps[72]?.getD undef = u 6 := hsl.out 6 72 (by kernel_rfl)
            rw [e6] at t72
            refine step_plain rfl ?_
            go_simp
            exact hK.out ((.tuple #[im W2 H2 A6 k C6, .int .i64 (CT : Int)])) _ (bR_up hF (Below.refl _ _) 7 (by omega) (by omega) _) (kF_own 7 (by omega) (by omega) O7.out ((G7.out _).2 ⟨_, _, rfl⟩) ⟨bs6, hbs6, ⟨A6, C6, B6, rfl, o6, m6⟩, hap6⟩) (fun j hj hf h => kF_up HST.out (fun M hM => HPX.out M _ _ (Below.refl _ _) hM) (Below.refl _ _) 7 (by omega) (by omega) _ j hj h)
          · intro u w21 au hsl hel hu hF hp' K hK
            have hS : u 11 = undef := (hu.out 11 (by decide) (.inr (by kernel_rfl))).trans (by kernel_rfl)
            obtain ⟨bs7, hbs7, ⟨A7, C7, B7, e7, o7, m7⟩, hap7⟩ := ((PreF.get hp' 7 (by kernel_rfl)).2.1 _ O7.out).resolve_left (fun hx => hx hS)
            have t65 : au.tmps[65]?.getD undef = u 7 := hsl.out 7 65 (by kernel_rfl)
            rw [e7] at t65
            refine step_plain rfl ?_
            go_simp
            exact hK.out (im W2 H2 A7 k C7) _ (bR_up hF (Below.refl _ _) 8 (by omega) (by omega) _) (kF_own 8 (by omega) (by omega) O8.out (G8.out _) ⟨bs7, hbs7, ⟨A7, C7, B7, rfl, o7, m7⟩, hap7⟩) (fun j hj hf h => kF_up HST.out (fun M hM => HPX.out M _ _ (Below.refl _ _) hM) (Below.refl _ _) 8 (by omega) (by omega) _ j hj h)
          · intro u w21 au hsl hel hu hF hp' K hK
            obtain ⟨A7, C7, e7⟩ := (G7.out _).1 (PreF.get hp' 7 (by kernel_rfl)).1
            have t65 : au.tmps[65]?.getD undef = u 7 := hsl.out 7 65 (by kernel_rfl)
            rw [e7] at t65
            refine step_plain rfl ?_
            go_simp
            exact hK.out (.int .i64 (CT : Int)) _ (bR_up hF (Below.refl _ _) 9 (by omega) (by omega) _) (kF_val 9 (by omega) (by omega) O9.out ((G9.out _).2 rfl)) (fun j hj hf h => kF_up HST.out (fun M hM => HPX.out M _ _ (Below.refl _ _) hM) (Below.refl _ _) 9 (by omega) (by omega) _ j hj h)
          · intro u w21 au hsl hel hu hF hp' K hK
            refine step_plain rfl ?_
            go_simp
            exact hK.out (.pointer (some ⟨w21.heap.size, 0, none⟩)) _ (bR_al hF (Bx.new [.int .i64 0, .int .i64 0, .slice none 0 0] 26 w21)) (kF_ptr (by omega) (G10.out) O10.out hF.1.size) (fun j hj hf h => kF_al HST.out (by omega) _ j hj (fun e => by subst e; exact absurd (Eq.trans (Eq.symm (by kernel_rfl)) hf) Bool.false_ne_true) h)
          · intro u w21 au hsl hel hu hF hp' K hK
            have hS : u 11 = undef := (hu.out 11 (by decide) (.inl rfl)).trans (by kernel_rfl)
            obtain ⟨bs8, hbs8, ⟨A8, C8, B8, e8, o8, m8⟩, hap8⟩ := ((PreF.get hp' 8 (by kernel_rfl)).2.1 _ O8.out).resolve_left (fun hx => hx hS)
            have t73 : au.tmps[73]?.getD undef = u 8 := hsl.out 8 73 (by kernel_rfl)
            rw [e8] at t73
            obtain ⟨Q, hQ, hQB⟩ := (PreF.get hp' 10 (by kernel_rfl)).2.2.1 rfl
            have t9 : au.tmps[9]?.getD undef = .pointer (some ⟨Q, 0, none⟩) := (hsl.out 10 9 (by kernel_rfl)).trans hQ
            have hx := (hF.2 Q hQ hQB).resolve_left (fun hx => hx hS)
            obtain ⟨y0, z0⟩ := hx 0 _ rfl
            obtain ⟨y1, z1⟩ := hx 1 _ rfl
            obtain ⟨y2, z2⟩ := hx 2 _ rfl
            refine step_plain rfl ?_
            go_simp
            exact hK.out (.bool true) _ (bR_st (below_set3g hF.1 hQB _ _ _) (by simp [undef])) (kF_done (by omega) (G11.out) O11.out hQ hQB (by rw [HPY.out]; exact ImB.stored (A := 10) (u := u) o8 m8 hap8 hQ hx)) (fun j hj hf h => kF_st (by omega) (by simp [undef]) j hj h)
          · intro u w21 au hsl hel hu hF hp' K hK
            have h9 : u 9 = .int .i64 (CT : Int) := (G9.out _).1 (PreF.get hp' 9 (by kernel_rfl)).1
            have t74 : au.tmps[74]?.getD undef = u 9 := hsl.out 9 74 (by kernel_rfl)
            rw [h9] at t74
            refine step_plain rfl ?_
            go_simp
            exact hK.out (.int .i64 (CT : Int)) _ (bR_up hF (Below.refl _ _) 12 (by omega) (by omega) _) (kF_val 12 (by omega) (by omega) O12.out ((G12.out _).2 rfl)) (fun j hj hf h => kF_up HST.out (fun M hM => HPX.out M _ _ (Below.refl _ _) hM) (Below.refl _ _) 12 (by omega) (by omega) _ j hj h)
        · intro u w30 hF hall
          obtain ⟨Q, hQ, hQB, hP⟩ := (hall 11 (by decide)).2.2.2 rfl
          rw [HPY.out] at hP
          have h12 : u 12 = .int .i64 (CT : Int) := (G12.out _).1 (hall 12 (by decide)).1
          have HE := hide (And.intro hP hF.1)
          clear hF hall hP
          simp only [rgPut, Act.put, hQ, h12]
          clear hQ hQB h12
          go_simp
          go_wp2_with fail
          go_meet
          exact ⟨Q, rfl, rfl, HE.out.1, HE.out.2⟩
      case rest =>
      obtain ⟨Q9, rfl, rfl, hI9, hbB⟩ := hcut
      obtain ⟨a9, c9, hx9, hp9⟩ := hI9
      have HX9 := hide hx9
      have HP9 := hide hp9
      have HCK3 := hide (HCK2.out.next hbB)
      clear hbB hx9 hp9 HCK2 HX7 HP7 HX8 HP8
      obtain ⟨wD, hwD⟩ : ∃ wD, wD = wc := ⟨_, rfl⟩
      rw [← hwD] at HCK3 HX9 HP9 ⊢
      clear hwD
      obtain ⟨i0, i1, i2⟩ := HCK3.out.b3.im3
      go_wp2_with fail
      refine (HRS.out x c wD HCK3.out.p3).mono ?_
      rintro e w14 ⟨a11, c11, b11, rfl, ho, -, hb⟩
      have hb15 := bnew w14 (.cells #[.int .i64 W2, .int .i64 H2, .slice a11 k c11] 26)
      have hbb := hb.trans (hb15.mono hb.size)
      have HX11 : Hid (Bx w14.heap.size [.int .i64 W2, .int .i64 H2, .slice a11 k c11] (w14.alloc (.cells #[.int .i64 W2, .int .i64 H2, .slice a11 k c11] 26))) := Bx.new [.int .i64 W2, .int .i64 H2, .slice a11 k c11] _ _
      have HP11 := hide ((Ow.px ho).below hb15)
      have HX99 := hide (HX9.out.below hbb HX9.out.lt)
      have HP99 := hide (HP9.out.below hbb)
      have HCK4 := hide (HCK3.out.next hbb)
      clear hb15 hbb hb ho HCK3 HX9 HP9 i0 i1 i2 HRS HCY HUN HFO HFP
      go_upto_region 15 with fail
      generalize hwE : w14.alloc (.cells #[.int .i64 W2, .int .i64 H2, .slice a11 k c11] 26) = wE at *
      clear hwE
      generalize w14.heap.size = Q11 at *
      obtain ⟨i0, i1, i2⟩ := HCK4.out.b3.im3
      obtain ⟨j0, j1, j2⟩ := HCK4.out.b4.im3
      obtain ⟨y0, y1, y2⟩ := HX99.out.im3
      obtain ⟨z0, z1, z2⟩ := HX11.out.im3
      have edv : (k : Int).tdiv 2 = (KK : Int) := by have := HKK.out; rw [Int.tdiv_eq_ediv_of_nonneg (by omega)]; omega
      have ewk : IntKind.i64.wrap (KK : Int) = (KK : Int) := by have := HKK.out; rw [IntKind.wrap_i64]; omega
      have hn2 : ¬ ((2 : Int) = 0) := by omega
      go_upto_region 19 with fail
      clear i0 i1 i2
      clear edv ewk hn2 z0 z1 y0 y1 j0 j1
      obtain ⟨k4', k5', k6'⟩ := HCK4.out.b5.im3
      have hk0 : 0 < k := by have := HKK.out; omega
      obtain ⟨b4, o4, rfl, -⟩ := HCK4.out.p4.at hk0
      obtain ⟨b5, o5, rfl, -⟩ := HCK4.out.p5.at hk0
      obtain ⟨b9, o9, rfl, -⟩ := HP99.out.at hk0
      obtain ⟨b1, o1, rfl, -⟩ := HP11.out.at hk0
      have HC4 : Hid (∀ q, q < k → wE.cell? ⟨b4, o4 + q, none⟩ = some (.int .i64 (g q))) := fun q hq => by
        obtain ⟨_, _, e, h⟩ := HCK4.out.p4.at hq
        cases e
        exact h
      have HC5 : Hid (∀ q, q < k → wE.cell? ⟨b5, o5 + q, none⟩ = some (.int .i64 (HC q))) := fun q hq => by
        obtain ⟨_, _, e, h⟩ := HCK4.out.p5.at hq
        cases e
        exact h
      have HC9 : Hid (∀ q, q < k → wE.cell? ⟨b9, o9 + q, none⟩ = some (.int .i64 (U q))) := fun q hq => by
        obtain ⟨_, _, e, h⟩ := HP99.out.at hq
        cases e
        exact h
      have HC1 : Hid (∀ q, q < k → wE.cell? ⟨b1, o1 + q, none⟩ = some (.int .i64 (resF f q))) := fun q hq => by
        obtain ⟨_, _, e, h⟩ := HP11.out.at hq
        cases e
        exact h
      have HJ := hide (And.intro j2 (And.intro k6' (And.intro y2 z2)))
      clear k4' k5' k6' j2 y2 z2 hk0 HX11 HP11 HX99 HP99
      have HBE := hide HCK4.out.below
      clear HCK4
      go_wp2_with fail
      go_loopw [13, 14] (fun s i wr => ∃ q : Nat, i = .int .i64 q ∧ q ≤ KK ∧ s = .int .i64 ((badL KK g HC q : Nat) : Int) ∧ Below wE.heap.size wE wr) (fun _ i _ => KK - (intOf i).toNat)
      case atStart => exact ⟨0, rfl, by omega, rfl, Below.refl _ _⟩
      case round =>
        obtain ⟨q, rfl, hq, rfl, hbr⟩ := hrel
        have HBr := hide hbr
        clear hbr
        by_cases hlt : q < KK
        · have hqi : (q : Int) < (KK : Int) := by omega
          have HMe : Hid (KK - (q + 1) < KK - q) := by show _ < _; omega
          have HJ1 : Hid (q + 1 ≤ KK) := by show _ ≤ _; omega
          have hjw : IntKind.i64.wrap ((q : Int) + 1) = (q : Int) + 1 := by have := HKK.out; rw [IntKind.wrap_i64]; omega
          obtain ⟨P2, hP2⟩ : ∃ P, q + KK = P := ⟨_, rfl⟩
          have hpw : IntKind.i64.wrap ((q : Int) + (KK : Int)) = (P2 : Int) := by have := HKK.out; rw [IntKind.wrap_i64]; omega
          have hqk : (q : Int) < (k : Int) := by have := HKK.out; omega
          have hpk : (P2 : Int) < (k : Int) := by have := HKK.out; omega
          have HBd : Hid (badL KK g HC (q + 1) = badL KK g HC q + (if lwD (g q) (g P2) (HC q) (HC P2) = 0 then 1 else 0)) := by rw [← hP2]; rfl
          have HEq : Hid (lwD (g q) (g P2) (HC q) (HC P2) ≠ 0 → U q = resF f q ∧ U P2 = resF f P2) := fun hd => by
            have h := HEQ.out q hlt
            rw [hP2] at h
            exact h hd
          have HLe : Hid (badL KK g HC q ≤ 64) := by have := badL_le KK g HC q; have := HKK.out; show _ ≤ _; omega
          have cell : ∀ {a v}, wE.cell? a = some v → wr.cell? a = some v := fun h => (HBr.out.cell (World.block_lt_of_cell? _ _ h)).trans h
          have x4 := cell HJ.out.1
          have x5 := cell HJ.out.2.1
          have x9 := cell HJ.out.2.2.1
          have x1 := cell HJ.out.2.2.2
          have q4 := cell (HC4.out q (by have := HKK.out; omega))
          have q5 := cell (HC5.out q (by have := HKK.out; omega))
          have q9 := cell (HC9.out q (by have := HKK.out; omega))
          have q1 := cell (HC1.out q (by have := HKK.out; omega))
          have p4 := cell (HC4.out P2 (by have := HKK.out; omega))
          have p5 := cell (HC5.out P2 (by have := HKK.out; omega))
          have p9 := cell (HC9.out P2 (by have := HKK.out; omega))
          have p1 := cell (HC1.out P2 (by have := HKK.out; omega))
          clear cell hP2 hlt
          have HLW : Hid ((( g q).tmod 12289 * (HC P2).tmod 12289 - (g P2).tmod 12289 * (HC q).tmod 12289).tmod 12289 = lwD (g q) (g P2) (HC q) (HC P2)) := rfl
          obtain ⟨D, hD⟩ : ∃ D, lwD (g q) (g P2) (HC q) (HC P2) = D := ⟨_, rfl⟩
          rw [hD] at HBd HEq HLW
          clear hD
          generalize g q = A0 at *
          generalize g P2 = A1 at *
          generalize HC q = B0 at *
          generalize HC P2 = B1 at *
          generalize U q = V0 at *
          generalize U P2 = V1 at *
          generalize resF f q = T0 at *
          generalize resF f P2 = T1 at *
          obtain ⟨BQ1, hBQ1⟩ : ∃ b, badL KK g HC (q + 1) = b := ⟨_, rfl⟩
          have HBQ1 := hide hBQ1
          rw [hBQ1] at HBd
          clear hBQ1
          generalize badL KK g HC q = BQ at *
          have tb : ∀ a : Int, -12289 < a.tmod 12289 ∧ a.tmod 12289 < 12289 := fun a => ⟨Int.lt_tmod_of_pos a (by omega), Int.tmod_lt_of_pos a (by omega)⟩
          have tA0 := tb A0
          have tA1 := tb A1
          have tB0 := tb B0
          have tB1 := tb B1
          obtain ⟨m0, hm0⟩ : ∃ m, A0.tmod 12289 = m := ⟨_, rfl⟩
          obtain ⟨m1, hm1⟩ : ∃ m, A1.tmod 12289 = m := ⟨_, rfl⟩
          obtain ⟨n0', hn0⟩ : ∃ m, B0.tmod 12289 = m := ⟨_, rfl⟩
          obtain ⟨n1, hn1⟩ : ∃ m, B1.tmod 12289 = m := ⟨_, rfl⟩
          rw [hm0] at tA0 HLW
          rw [hm1] at tA1 HLW
          rw [hn0] at tB0 HLW
          rw [hn1] at tB1 HLW
          have w0' : IntKind.i64.wrap m0 = m0 := by rw [IntKind.wrap_i64]; omega
          have w1' : IntKind.i64.wrap m1 = m1 := by rw [IntKind.wrap_i64]; omega
          have w2' : IntKind.i64.wrap n0' = n0' := by rw [IntKind.wrap_i64]; omega
          have w3' : IntKind.i64.wrap n1 = n1 := by rw [IntKind.wrap_i64]; omega
          have hb1 := natb (P := 12289) (Q := 12289) (show m0.natAbs ≤ 12289 by omega) (show n1.natAbs ≤ 12289 by omega)
          have hb2 := natb (P := 12289) (Q := 12289) (show m1.natAbs ≤ 12289 by omega) (show n0'.natAbs ≤ 12289 by omega)
          obtain ⟨s1, hs1⟩ : ∃ m, m0 * n1 = m := ⟨_, rfl⟩
          obtain ⟨s2, hs2⟩ : ∃ m, m1 * n0' = m := ⟨_, rfl⟩
          rw [hs1] at hb1 HLW
          rw [hs2] at hb2 HLW
          have w4' : IntKind.i64.wrap s1 = s1 := by rw [IntKind.wrap_i64]; omega
          have w5' : IntKind.i64.wrap s2 = s2 := by rw [IntKind.wrap_i64]; omega
          obtain ⟨s3, hs3⟩ : ∃ m, s1 - s2 = m := ⟨_, rfl⟩
          rw [hs3] at HLW
          have w6' : IntKind.i64.wrap s3 = s3 := by rw [IntKind.wrap_i64]; omega
          have tD := tb s3
          have hD := HLW.out
          rw [hD] at tD
          have w7' : IntKind.i64.wrap D = D := by rw [IntKind.wrap_i64]; omega
          have hnP : ¬ ((12289 : Int) = 0) := by omega
          clear tb tA0 tA1 tB0 tB1 hb1 hb2 tD HLW
          have SK : Nonempty (Up wr) := up_ne wr
          go_upto_region 22 with fail
          have u4 := fun p : Up wr => p.cell x4
          have u5 := fun p : Up wr => p.cell x5
          have v4 := fun p : Up wr => p.cell q4
          have v5 := fun p : Up wr => p.cell q5
          have v6 := fun p : Up wr => p.cell p4
          have v7 := fun p : Up wr => p.cell p5
          clear x4 x5 q4 q5 p4 p5
          refine region_up (by kernel_rfl) (by kernel_rfl) ?_
          repeat (go_big_quiet_step (fail))
          refine wpQuiet_nil ?_
          intro _ hw2
          obtain ⟨pq, hw3⟩ := hw2
          subst hw3
          have HB2 := hide (bnext HBr.out (Nat.le_refl _) pq.below)
          have x9 := pq.cell x9
          have x1 := pq.cell x1
          have q9 := pq.cell q9
          have q1 := pq.cell q1
          have p9 := pq.cell p9
          have p1 := pq.cell p1
          clear u4 u5 v4 v5 v6 v7 w0' w1' w2' w3' w4' w5' w6' w7' hm0 hm1 hn0 hn1 hs1 hs2 hs3 hD
          generalize pq.w = wq at *
          by_cases hD0 : D = 0
          · rw [if_pos hD0] at HBd
            subst hD0
            have hbw : IntKind.i64.wrap ((BQ : Int) + 1) = (BQ1 : Int) := by have := HBd.out; have := HLe.out; rw [IntKind.wrap_i64]; omega
            clear x9 x1 q9 q1 p9 p1 hpw
            go_wp2_with fail
            go_roundw
            case rel => exact ⟨q + 1, by simp, HJ1.out, by rw [HBQ1.out], HB2.out⟩
            case measure => simpa [intOf] using HMe.out
          · rw [if_neg hD0] at HBd
            obtain ⟨rfl, rfl⟩ := HEq.out hD0
            have hBe : BQ1 = BQ := HBd.out
            subst hBe
            have hD0' : (D == 0) = false := by simpa using hD0
            have SK2 : Nonempty (Up wq) := up_ne wq
            go_upto_region 25 with fail
            have u9 := fun p : Up wq => p.cell x9
            have u1 := fun p : Up wq => p.cell x1
            have v9 := fun p : Up wq => p.cell q9
            have v1 := fun p : Up wq => p.cell q1
            have y9 := fun p : Up wq => p.cell p9
            have y1 := fun p : Up wq => p.cell p1
            clear x9 x1 q9 q1 p9 p1
            refine region_up (by kernel_rfl) (by kernel_rfl) ?_
            repeat (go_big_quiet_step (fail))
            refine wpQuiet_nil ?_
            intro _ hw2
            obtain ⟨pr, hw3⟩ := hw2
            subst hw3
            have HB3 := hide (bnext HB2.out (Nat.le_refl _) pr.below)
            clear u9 u1 v9 v1 y9 y1
            go_wp2_with fail
            go_roundw
            case rel => exact ⟨q + 1, by simp, HJ1.out, by rw [HBQ1.out], HB3.out⟩
            case measure => simpa [intOf] using HMe.out
        · obtain rfl : q = KK := by omega
          have hqi : ¬ (q : Int) < (q : Int) := by omega
          rw [HEND.out]
          have HF := hide (bnext HBE.out (Nat.le_refl _) HBr.out)
          go_wp2_with fail
          go_ret
          exact ⟨rfl, HF.out⟩

end Go.Proofs.Ytpeocbhnnpppjaa

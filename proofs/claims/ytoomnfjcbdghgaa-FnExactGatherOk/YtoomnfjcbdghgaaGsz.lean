/- Receivers: the law's own sizes, copies, comparisons. -/
import Derived.Test.YtoomnfjcbdghgaaGpm
import Derived.Test.YtoomnfjcbdghgaaHom
import Derived.Deep.RegionHeld3
namespace Go.Proofs.Ytoomnfjcbdghgaa
open Go.RowKit

/-- a receiver is there -/
structure PxR (a1 : Option Addr) (n1 : Nat) (f1 : Nat → Int) (a2 : Option Addr) (n2 : Nat) (f2 : Nat → Int) (a3 : Option Addr) (m : Nat) (E : Nat → SPart) (w : World) : Prop where
  o : Px a1 n1 f1 w
  d : Px a2 n2 f2 w
  p : PxG a3 (m * 4) (FPart E) w
theorem PxR.below {a1 : Option Addr} {n1 : Nat} {f1 : Nat → Int} {a2 : Option Addr} {n2 : Nat} {f2 : Nat → Int} {a3 : Option Addr} {m : Nat} {E : Nat → SPart} {w w' : World} (h : PxR a1 n1 f1 a2 n2 f2 a3 m E w) (hb : Below w.heap.size w w') : PxR a1 n1 f1 a2 n2 f2 a3 m E w' := ⟨h.o.below hb, h.d.below hb, h.p.below hb⟩
/-- a receiver of the call's own -/
structure RwR (g1 n1 : Nat) (f1 : Nat → Int) (g2 n2 : Nat) (f2 : Nat → Int) (g3 m : Nat) (E : Nat → SPart) (w : World) : Prop where
  o : Row g1 n1 f1 w
  d : Row g2 n2 f2 w
  p : RowV g3 (m * 4) (FPart E) w
theorem RwR.px {g1 n1 : Nat} {f1 : Nat → Int} {g2 n2 : Nat} {f2 : Nat → Int} {g3 m : Nat} {E : Nat → SPart} {w : World} (h : RwR g1 n1 f1 g2 n2 f2 g3 m E w) : PxR (some ⟨g1, 0, none⟩) n1 f1 (some ⟨g2, 0, none⟩) n2 f2 (some ⟨g3, 0, none⟩) m E w := ⟨h.o.px, h.d.px, h.p.pxG⟩
/-- sizes that the law takes -/
structure SzR (n1 n2 m : Nat) (E : Nat → SPart) : Prop where
  o : n1 ≤ 1048576
  d : n2 ≤ 1048576
  p : m ≤ 1048576
  b : byS E m ≤ 1048576

set_option maxRecDepth 100000 in
set_option maxHeartbeats 2000000 in
theorem szPartSum_any (a : Option Addr) (n cap : Nat) (E : Nat → SPart) (hm : n ≤ maxLen) (hl : ∀ i, (E i).f3.size ≤ maxLen) (left : Int) (h0 : 0 ≤ left) (h1 : left ≤ 1048576) (w : World) (h : PxG a (n * 4) (FPart E) w) :
    Calls Try.prog 95 #[.slice a n cap, .int .i64 left] w fun e w' => Below w.heap.size w w' ∧ ∃ v : Int, e = .returned (.int .i64 v) ∧ ((v < 0) ∨ (0 ≤ v ∧ n ≤ 1048576 ∧ byS E n ≤ 1048576)) := by
  unfold maxLen at hm
  by_cases hb : left < (n : Int)
  · have h1 : left - (n : Int) < 0 := by omega
    have wl : IntKind.i64.wrap (left - (n : Int)) = left - (n : Int) := by rw [IntKind.wrap_i64]; omega
    clear h
    go_enter Try.func95, Try.ntmps95
    go_wp2_with fail
    go_ret
    exact ⟨Below.refl _ _, _, rfl, .inl (by decide)⟩
  · have h2 : ¬ left - (n : Int) < 0 := by omega
    have wl : IntKind.i64.wrap (left - (n : Int)) = left - (n : Int) := by rw [IntKind.wrap_i64]; omega
    have HP := hide h
    have HL := hide hl
    clear h hl
    go_enter Try.func95, Try.ntmps95
    go_wp2_with fail
    clear wl
    go_loopw [1, 5] (fun l i wr => ∃ (k : Nat) (L : Int), k ≤ n ∧ i = .int .i64 k ∧ l = .int .i64 L ∧ 0 ≤ L ∧ L ≤ left ∧ Hid (L + (byS E k : Nat) ≤ left) ∧ Below w.heap.size w wr) (fun _ i _ => n - (intOf i).toNat)
    case atStart => exact ⟨0, _, by omega, rfl, rfl, by omega, by omega, hide (by simp [byS]; omega), Below.refl _ _⟩
    case round =>
      obtain ⟨k, L, hk, rfl, rfl, hL0, hL1, HE, hbw⟩ := hrel
      by_cases hlt : k < n
      · obtain ⟨b, off, rfl, z0, z1, z2, z3⟩ := (HP.out.below hbw).atPart hlt
        have hlk := HL.out k
        have cz := fun w' => szPart_any (E k).f0 (E k).f1 (E k).f2 (E k).f3 L hL0 (by omega) hlk w'
        have HB := hide hbw
        have HEK : Hid (byS E (k + 1) = byS E k + (E k).f3.size) := rfl
        by_cases hq : L < (((E k).f3.size : Nat) : Int)
        · simp only [if_pos hq] at cz
          clear hq HP HL hbw hlk HEK
          go_wp2_with fail
          refine (cz _).mono ?_
          rintro e w1 ⟨rfl, hb1⟩
          have HB1 := hide (bnext HB.out (Nat.le_refl _) hb1)
          clear cz hb1
          go_wp2_with fail
          go_ret
          exact ⟨HB1.out, _, rfl, .inl (by decide)⟩
        · simp only [if_neg hq] at cz
          obtain ⟨R, hR⟩ : ∃ R, R = L - (((E k).f3.size : Nat) : Int) := ⟨_, rfl⟩
          have HE2 : Hid (R + (byS E (k + 1) : Nat) ≤ left) := by show _ ≤ _; rw [HEK.out]; have := HE.out; omega
          have h9 : ¬ R < 0 := by omega
          have h9b : R ≤ left := by omega
          have h9c : 0 ≤ R := by omega
          rw [← hR] at cz
          clear hR hq HP HL hbw hlk HEK HE hL0 hL1
          go_wp2_with fail
          refine (cz _).mono ?_
          rintro e w1 ⟨rfl, hb1⟩
          have HB1 := hide (bnext HB.out (Nat.le_refl _) hb1)
          clear cz hb1
          go_wp2_with fail
          exact ⟨⟨k + 1, R, by omega, rfl, rfl, h9c, h9b, HE2, HB1.out⟩, by simp [intOf]; omega⟩
      · obtain rfl : k = n := by omega
        have HX : Hid (0 ≤ L ∧ k ≤ 1048576 ∧ byS E k ≤ 1048576) := ⟨hL0, by omega, by have := HE.out; omega⟩
        have HB := hide hbw
        clear HP HL HE hbw
        go_wp2_with fail
        go_ret
        exact ⟨HB.out, L, rfl, .inr HX.out⟩

set_option maxRecDepth 100000 in
set_option maxHeartbeats 2000000 in
theorem szGather_any (a1 : Option Addr) (n1 c1 : Nat) (f1 : Nat → Int) (a2 : Option Addr) (n2 c2 : Nat) (f2 : Nat → Int) (a3 : Option Addr) (m c3 : Nat) (E : Nat → SPart) (hn1 : n1 ≤ maxLen) (hn2 : n2 ≤ maxLen) (hm : m ≤ maxLen) (hl : ∀ i, (E i).f3.size ≤ maxLen) (w : World) (h : PxR a1 n1 f1 a2 n2 f2 a3 m E w) :
    Calls Try.prog 39 #[vGa a1 n1 c1 a2 n2 c2 a3 m c3, .int .i64 1048576] w fun e w' => Below w.heap.size w w' ∧ ∃ v : Int, e = .returned (.int .i64 v) ∧ (v < 0 ∨ (0 ≤ v ∧ SzR n1 n2 m E)) := by
  obtain ⟨W, hW⟩ : ∃ W, W = w.alloc (.cells #[.slice a1 n1 c1, .slice a2 n2 c2, .slice a3 m c3] 65) := ⟨_, rfl⟩
  have hWB : Below w.heap.size w W := by rw [hW]; exact bnew _ _
  have i0 : W.cell? ⟨w.heap.size, 0, none⟩ = some (.slice a1 n1 c1) := by rw [hW]; simp [go_sem]
  have i1 : W.cell? ⟨w.heap.size, 1, none⟩ = some (.slice a2 n2 c2) := by rw [hW]; simp [go_sem]
  have i2 : W.cell? ⟨w.heap.size, 2, none⟩ = some (.slice a3 m c3) := by rw [hW]; simp [go_sem]
  have hW' := hW.symm
  have HP := hide (h.below hWB)
  have HWB := hide hWB
  clear h hW hWB
  have hn1' := hn1
  have hn2' := hn2
  unfold maxLen at hn1' hn2'
  have c1' := fun w' => sz_any a1 n1 c1 1048576 (by omega) (by omega) (by omega) w'
  have c2' := fun left h0 h1 w' => sz_any a2 n2 c2 left h0 h1 (by omega) w'
  have c3' := fun left h0 h1 => szPartSum_any a3 m c3 E hm hl left h0 h1 W HP.out.p
  by_cases q1 : (1048576 : Int) < n1
  · simp only [if_pos q1] at c1'
    clear c2' c3' HP
    go_enter Try.func39, Try.ntmps39
    go_wp2_with fail
    refine (c1' _).mono ?_
    rintro e w1 ⟨rfl, rfl⟩
    clear hW'
    go_wp2_with fail
    go_ret
    exact ⟨HWB.out, _, rfl, .inl (by decide)⟩
  simp only [if_neg q1] at c1'
  have g1 : ¬ (1048576 : Int) - n1 < 0 := by omega
  by_cases q2 : (1048576 : Int) - n1 < n2
  · have c2'' := fun w' => c2' (1048576 - (n1 : Int)) (by omega) (by omega) w'
    simp only [if_pos q2] at c2''
    clear c2' c3' HP
    go_enter Try.func39, Try.ntmps39
    go_wp2_with fail
    refine (c1' _).mono ?_
    rintro e w1 ⟨rfl, rfl⟩
    clear hW' c1'
    go_wp2_with fail
    refine (c2'' _).mono ?_
    rintro e w2 ⟨rfl, rfl⟩
    go_wp2_with fail
    go_ret
    exact ⟨HWB.out, _, rfl, .inl (by decide)⟩
  have c2'' := fun w' => c2' (1048576 - (n1 : Int)) (by omega) (by omega) w'
  simp only [if_neg q2] at c2''
  have g2 : ¬ (1048576 : Int) - n1 - n2 < 0 := by omega
  have c3'' := c3' (1048576 - (n1 : Int) - n2) (by omega) (by omega)
  have HN : Hid (n1 ≤ 1048576 ∧ n2 ≤ 1048576) := ⟨by omega, by omega⟩
  clear c2' c3' HP hn1' hn2'
  go_enter Try.func39, Try.ntmps39
  go_wp2_with fail
  refine (c1' _).mono ?_
  rintro e w1 ⟨rfl, rfl⟩
  clear hW' c1'
  go_wp2_with fail
  refine (c2'' _).mono ?_
  rintro e w2 ⟨rfl, rfl⟩
  clear c2''
  go_wp2_with fail
  refine c3''.mono ?_
  rintro e w3 ⟨hb3, v, rfl, hv⟩
  have HB3 := hide (bnext HWB.out (Nat.le_refl _) hb3)
  clear c3'' hb3 i0 i1 i2
  rcases hv with hv | ⟨hv, hm2, hb2⟩
  · go_wp2_with fail
    go_ret
    exact ⟨HB3.out, _, rfl, .inl (by decide)⟩
  · have g3 : ¬ v < 0 := by omega
    have HR : Hid (0 ≤ v ∧ SzR n1 n2 m E) := ⟨hv, HN.out.1, HN.out.2, hm2, hb2⟩
    clear hm2 hb2 hv HN
    go_wp2_with fail
    go_ret
    exact ⟨HB3.out, v, rfl, .inr HR.out⟩

set_option maxRecDepth 100000 in
set_option maxHeartbeats 2000000 in
theorem eqGather_any (a1 a1' : Option Addr) (n1 c1 c1' : Nat) (f1 : Nat → Int) (a2 a2' : Option Addr) (n2 c2 c2' : Nat) (f2 : Nat → Int) (a3 a3' : Option Addr) (m c3 c3' : Nat) (E : Nat → SPart) (hz : SzR n1 n2 m E) (w : World) (h : PxR a1 n1 f1 a2 n2 f2 a3 m E w) (h' : PxR a1' n1 f1 a2' n2 f2 a3' m E w) :
    Calls Try.prog 41 #[vGa a1 n1 c1 a2 n2 c2 a3 m c3, vGa a1' n1 c1' a2' n2 c2' a3' m c3'] w fun e w' => e = .returned (.bool true) ∧ Below w.heap.size w w' := by
  have HS0 := hide (((St.start w).box [.slice a1 n1 c1, .slice a2 n2 c2, .slice a3 m c3] 34).box' [.slice a1' n1 c1', .slice a2' n2 c2', .slice a3' m c3'] 34 (b := w.heap.size + 1) (by simp))
  have HP := hide h
  have HP' := hide h'
  have e1 := fun w' hb => eqInts_b a1 a1' n1 c1 c1' f1 hz.o w' (HP.out.below hb).o (HP'.out.below hb).o
  have e2 := fun w' hb => eqInts_b a2 a2' n2 c2 c2' f2 hz.d w' (HP.out.below hb).d (HP'.out.below hb).d
  have e3 := fun w' hb => eqPartS_any a3 a3' m c3 c3' E hz.p w' (HP.out.below hb).p (HP'.out.below hb).p
  clear h h' hz
  go_enter Try.func41, Try.ntmps41
  go_wp2_with fail
  refine (e1 _ HS0.out.below).mono ?_
  rintro e w1 ⟨rfl, hb⟩
  have HS1 := hide (HS0.out.next hb)
  have i1 := HS1.out.cell 1 rfl 1 rfl
  have j1 := HS1.out.cell 0 rfl 1 rfl
  clear e1 HS0 hb
  go_wp2_with fail
  refine (e2 _ HS1.out.below).mono ?_
  rintro e w2 ⟨rfl, hb⟩
  have HS2 := hide (HS1.out.next hb)
  have i2 := HS2.out.cell 1 rfl 2 rfl
  have j2 := HS2.out.cell 0 rfl 2 rfl
  clear e2 HS1 hb i1 j1
  go_wp2_with fail
  refine (e3 _ HS2.out.below).mono ?_
  rintro e w3 ⟨rfl, hb⟩
  have HS3 := hide (HS2.out.next hb)
  clear e3 HS2 hb i2 j2
  go_wp2_with fail
  go_ret
  exact ⟨rfl, HS3.out.below⟩

set_option maxRecDepth 100000 in
set_option maxHeartbeats 4000000 in
theorem toGather_any (a1 : Option Addr) (n1 c1 : Nat) (f1 : Nat → Int) (a2 : Option Addr) (n2 c2 : Nat) (f2 : Nat → Int) (a3 : Option Addr) (m c3 : Nat) (E : Nat → SPart) (hz : SzR n1 n2 m E) (w : World) (h : PxR a1 n1 f1 a2 n2 f2 a3 m E w) :
    Calls Try.prog 40 #[vGa a1 n1 c1 a2 n2 c2 a3 m c3] w fun e w' => ∃ g1 g2 g3, e = .returned (vGa (some ⟨g1, 0, none⟩) n1 n1 (some ⟨g2, 0, none⟩) n2 n2 (some ⟨g3, 0, none⟩) m m) ∧ RwR g1 n1 f1 g2 n2 f2 g3 m E w' ∧ Below w.heap.size w w' := by
  obtain ⟨W, hW⟩ : ∃ W, W = ((w.alloc (.cells #[.slice a1 n1 c1, .slice a2 n2 c2, .slice a3 m c3] 65)).alloc (.cells #[.slice none 0 0, .slice none 0 0, .slice none 0 0] 34)).alloc (.cells #[.slice none 0 0, .slice none 0 0, .slice none 0 0] 34) := ⟨_, rfl⟩
  have HS0 : Hid (St w [(w.heap.size + 1 + 1, [.slice none 0 0, .slice none 0 0, .slice none 0 0]), (w.heap.size + 1, [.slice none 0 0, .slice none 0 0, .slice none 0 0]), (w.heap.size, [.slice a1 n1 c1, .slice a2 n2 c2, .slice a3 m c3])] [] W) := by
    rw [hW]
    exact (((St.start w).box [.slice a1 n1 c1, .slice a2 n2 c2, .slice a3 m c3] 65).box' [.slice none 0 0, .slice none 0 0, .slice none 0 0] 34 (b := w.heap.size + 1) (by simp)).box' [.slice none 0 0, .slice none 0 0, .slice none 0 0] 34 (b := w.heap.size + 1 + 1) (by simp)
  have HP := hide h
  have t1 := fun w' hb => toInts_any a1 n1 c1 f1 hz.o w' (HP.out.below hb).o
  have t2 := fun w' hb => toInts_any a2 n2 c2 f2 hz.d w' (HP.out.below hb).d
  have t3 := fun w' hb => toPartS_any a3 m c3 E hz.p w' (HP.out.below hb).p
  have hW' := hW.symm
  have i0 := HS0.out.cell 2 rfl 0 rfl
  clear h hz hW
  go_enter Try.func40, Try.ntmps40
  go_wp2_with fail
  refine (t1 _ HS0.out.below).mono ?_
  rintro e w1 ⟨rfl, hr, hb, -⟩
  have HS1 := hide (HS0.out.own hb hr.v (.inr (Nat.le_refl _)))
  clear t1 HS0 hb hr hW' i0
  generalize W.heap.size = G1 at *
  obtain ⟨u1, hu1⟩ : ∃ u1, u1 = w1.setCell ⟨w.heap.size + 1 + 1, 0, none⟩ (.slice (some ⟨G1, 0, none⟩) n1 n1) := ⟨_, rfl⟩
  have HT1 := hide (St.fill (L1 := []) HS1.out 0 (.slice (some ⟨G1, 0, none⟩) n1 n1))
  rw [← hu1] at HT1
  have j0 := HS1.out.cell 0 rfl 0 rfl
  have f0 := HS1.out.free 0 rfl 0 rfl
  have i1 := HT1.out.cell 2 rfl 1 rfl
  have hu1' := hu1.symm
  clear HS1 hu1
  go_wp2_with fail
  refine (t2 _ HT1.out.below).mono ?_
  rintro e w2 ⟨rfl, hr, hb, -⟩
  have HS2 := hide (HT1.out.own hb hr.v (.inr (Nat.le_refl _)))
  clear t2 HT1 hb hr hu1' i1 j0 f0
  generalize u1.heap.size = G2 at *
  obtain ⟨u2, hu2⟩ : ∃ u2, u2 = w2.setCell ⟨w.heap.size + 1 + 1, 1, none⟩ (.slice (some ⟨G2, 0, none⟩) n2 n2) := ⟨_, rfl⟩
  have HT2 := hide (St.fill (L1 := []) HS2.out 1 (.slice (some ⟨G2, 0, none⟩) n2 n2))
  rw [← hu2] at HT2
  have j0 := HS2.out.cell 0 rfl 1 rfl
  have f0 := HS2.out.free 0 rfl 1 rfl
  have i1 := HT2.out.cell 2 rfl 2 rfl
  have hu2' := hu2.symm
  clear HS2 hu2
  go_wp2_with fail
  refine (t3 _ HT2.out.below).mono ?_
  rintro e w3 ⟨rfl, hr, hb, -⟩
  have HS3 := hide (HT2.out.own hb hr.owV (.inr (Nat.le_refl _)))
  clear t3 HT2 hb hr hu2' i1 j0 f0
  generalize u2.heap.size = G3 at *
  have HE := hide (St.fill (L1 := [_]) (St.fill (L1 := [_]) (St.fill (L1 := [_]) (St.fill (L1 := []) HS3.out 2 (.slice (some ⟨G3, 0, none⟩) m m)) 0 (.slice (some ⟨G1, 0, none⟩) n1 n1)) 1 (.slice (some ⟨G2, 0, none⟩) n2 n2)) 2 (.slice (some ⟨G3, 0, none⟩) m m))
  have j0 := HS3.out.cell 0 rfl 0 rfl
  have j1 := HS3.out.cell 0 rfl 1 rfl
  have j2 := HS3.out.cell 0 rfl 2 rfl
  have f2' := HS3.out.free 0 rfl 2 rfl
  have k0 := HS3.out.cell 1 rfl 0 rfl
  have k1 := HS3.out.cell 1 rfl 1 rfl
  have k2 := HS3.out.cell 1 rfl 2 rfl
  have g0 := HS3.out.free 1 rfl 0 rfl
  have g1 := HS3.out.free 1 rfl 1 rfl
  have g2 := HS3.out.free 1 rfl 2 rfl
  clear HS3
  go_wp2_with fail
  refine bodyPost_ret (v := vGa (some ⟨G1, 0, none⟩) n1 n1 (some ⟨G2, 0, none⟩) n2 n2 (some ⟨G3, 0, none⟩) m m) (by simp [results, Try.results40, go_sem, k0, k1, k2]) rfl ⟨G1, G2, G3, rfl, ⟨?_, ?_, ?_⟩, HE.out.below⟩
  · rcases HE.out.nthO 2 rfl with h0 | ⟨-, h0⟩
    · intro k hk; omega
    · exact h0
  · rcases HE.out.nthO 1 rfl with h0 | ⟨-, h0⟩
    · intro k hk; omega
    · exact h0
  · rcases HE.out.nthO 0 rfl with h0 | ⟨-, h0⟩
    · intro k hk; omega
    · exact h0

end Go.Proofs.Ytoomnfjcbdghgaa

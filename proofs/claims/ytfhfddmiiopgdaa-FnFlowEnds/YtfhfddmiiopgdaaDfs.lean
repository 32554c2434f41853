/- A flow is spoilt. -/
import Derived.Test.YtfhfddmiiopgdaaDaf
namespace Go.Proofs.Ytfhfddmiiopgdaa
open Go.RowKit

/-- all blocks but two stay -/
structure K2 (p b : Nat) (w w' : World) : Prop where
  os : w'.os = w.os
  tape : w'.tape = w.tape
  output : w'.output = w.output
  size : w.heap.size ≤ w'.heap.size
  block : ∀ k, k < w.heap.size → k ≠ p → k ≠ b → w'.heap[k]? = w.heap[k]?
theorem K2.ofKept {p b : Nat} {w w' : World} (h : Kept p w w') : K2 p b w w' := ⟨h.os, h.tape, h.output, h.size, fun k hk hp _ => h.block k hk hp⟩
theorem K2.kept {p b : Nat} {w w1 w2 : World} (h : K2 p b w w1) (k : Kept p w1 w2) : K2 p b w w2 :=
  ⟨k.os.trans h.os, k.tape.trans h.tape, k.output.trans h.output, Nat.le_trans h.size k.size, fun j hj h1 h2 => (k.block j (Nat.lt_of_lt_of_le hj h.size) h1).trans (h.block j hj h1 h2)⟩
theorem K2.set {p b : Nat} {w w1 : World} (h : K2 p b w w1) (q : Addr) (hq : q.block = b ∨ w.heap.size ≤ q.block) (u : Value) : K2 p b w (w1.setCell q u) :=
  ⟨h.os, h.tape, h.output, by simpa using h.size, fun j hj h1 h2 => (Below.heap_setCell w1 q u j (by omega)).trans (h.block j hj h1 h2)⟩
theorem K2.bx {p b : Nat} {w w' : World} (h : K2 p b w w') {X : Nat} {vs : List Value} (hx : Bx X vs w) (h1 : X ≠ p) (h2 : X ≠ b) : Bx X vs w' := fun j v hv => by
  obtain ⟨a1, a2⟩ := hx j v hv
  have e := h.block X (World.block_lt_of_cell? w ⟨X, j, none⟩ a1) h1 h2
  exact ⟨(World.cell?_of_block (a := ⟨X, j, none⟩) e).trans a1, (World.frozen?_of_block (a := ⟨X, j, none⟩) e).trans a2⟩
theorem K2.below {p b B : Nat} {w w' : World} (h : K2 p b w w') (h1 : B ≤ p) (h2 : B ≤ b) (h3 : B ≤ w.heap.size) : Below B w w' :=
  ⟨h.os, h.tape, h.output, h.size, fun k hk => h.block k (by omega) (by omega) (by omega)⟩
/-- what the operations leave that point at an order -/
def spoG (X p : Nat) (fa : Option Addr) (n cp b : Nat) : Nat → Value → Prop
  | 0, v => v = .pointer (some ⟨X, 1, none⟩)
  | 1, v => v = .slice fa n cp
  | 2, v => v = .pointer (some ⟨p, 0, none⟩)
  | 3, v => v = .pointer (some ⟨X, 1, none⟩)
  | 4, v => v = .slice fa n cp
  | 5, v => v = .int .i64 n
  | 6, v => ∃ Y : Nat, Y < n ∧ v = .int .i64 Y
  | _, v => ∃ Y : Nat, Y < n ∧ v = .pointer (some ⟨b, Y * 4, none⟩)
theorem spo_stab {G : Nat → Value → Prop} {u : Nat → Value} {i : Nat} {v : Value} (j : Nat) (hj : j ≠ i) (h : G j (u j)) : G j (upU u i v j) := by rw [upU_other u v hj]; exact h

set_option maxRecDepth 100000 in
set_option maxHeartbeats 4000000 in
theorem spoil_any (p : Nat) (a : Option Addr) (len cap : Nat) (w : World) (h : Cur p a len cap w) (B : Nat) (hBw : B ≤ w.heap.size) (hp : p < B) (hab : len = 0 ∨ ∀ b off, a = some ⟨b, off, none⟩ → b < B) (c : Int) (fa : Option Addr) (n cp : Nat) (hn : n ≤ 500) (hO : CeO B fa n w) :
    Calls Try.prog 17 #[.pointer (some ⟨p, 0, none⟩), vFlow c fa n cp] w fun e w' => ∃ c' fa' n' cp' b, e = .returned (vFlow c' fa' n' cp') ∧ Cur p a len cap w' ∧ (b = p ∨ (n ≠ 0 ∧ B ≤ b ∧ fa = some ⟨b, 0, none⟩)) ∧ K2 p b w w' := by
  obtain ⟨w1, hw1⟩ : ∃ w1, w1 = (w.alloc (.cells #[.int .i64 c, .slice fa n cp] 28)).alloc (.cells #[.int .i64 0, .slice none 0 0] 28) := ⟨_, rfl⟩
  have HX : Hid (Bx w.heap.size [.int .i64 c, .slice fa n cp] w1 ∧ Bx (w.heap.size + 1) [.int .i64 0, .slice none 0 0] w1 ∧ Below w.heap.size w w1) := by
    rw [hw1]
    have hq : (w.alloc (.cells #[.int .i64 c, .slice fa n cp] 28)).heap.size = w.heap.size + 1 := by simp
    have hx := Bx.new [.int .i64 0, .slice none 0 0] 28 (w.alloc (.cells #[.int .i64 c, .slice fa n cp] 28))
    rw [hq] at hx
    exact ⟨(Bx.new [.int .i64 c, .slice fa n cp] 28 w).below (bnew _ _) (by rw [hq]; omega), hx, (bnew w (.cells #[.int .i64 c, .slice fa n cp] 28)).alloc (by rw [hq]; omega) _⟩
  have hw1' := hw1.symm
  have HXB := hide HX.out.1
  have HRB := hide HX.out.2.1
  have HC1 := hide (h.below HX.out.2.2)
  have HK1 := hide (Kept.of_below (p := p) HX.out.2.2)
  have HO1 := hide (hO.kept HK1.out hp)
  have hXp : w.heap.size ≠ p := by omega
  have hRp : w.heap.size + 1 ≠ p := by omega
  have HOL : Hid (n ≠ 0 → ∃ b, fa = some ⟨b, 0, none⟩ ∧ B ≤ b ∧ b < w.heap.size) := fun h0 => by
    obtain ⟨b, h1, h2, h3, -⟩ := hO.lt h0
    exact ⟨b, h1, h2, h3⟩
  clear h hw1 HX hO
  have i1 := (HXB.out 1 _ rfl).1
  by_cases h0 : n = 0
  · subst h0
    obtain ⟨wl, hwl⟩ : ∃ wl, wl = w1.alloc (.cells #[.int .i64 (-1), .int .i64 1000000000, .int .i64 1000000001] 2) := ⟨_, rfl⟩
    have hb : Below w1.heap.size w1 wl := by rw [hwl]; exact bnew _ _
    have HL : Hid (∀ Y, Y < 3 → ∃ z, wl.cell? ⟨w1.heap.size, Y, none⟩ = some (.int .i64 z)) := fun Y hY => by rw [hwl]; exact lit3 Y hY
    have hwl' := hwl.symm
    have hlp : w1.heap.size ≠ p := by have := HK1.out.size; omega
    have c3 := below_any p a len cap wl (HC1.out.below hb) 3 (by omega) (by omega)
    have HR2 := hide (HRB.out.kept (Kept.of_below (p := p) hb) hRp)
    have HK2 := hide (HK1.out.trans (Kept.of_below hb))
    clear hwl hb HO1 HXB HRB HC1 HK1 HOL
    go_enter Try.func17, Try.ntmps17
    go_wp2_with fail
    refine c3.mono ?_
    rintro e w3 ⟨k, rfl, k0, k1, hc, hk⟩
    obtain ⟨Y, rfl⟩ : ∃ Y : Nat, k = Y := ⟨k.toNat, by omega⟩
    have hY : (Y : Int) < 3 := by omega
    obtain ⟨v, hv⟩ := HL.out Y (by omega)
    have hv3 := hk.cell (a := ⟨w1.heap.size, Y, none⟩) hlp hv
    have hR := HR2.out.kept hk hRp
    obtain ⟨r0, f0⟩ := hR 0 _ rfl
    obtain ⟨r1, f1⟩ := hR 1 _ rfl
    have hE := (hR.set 0 (.int .i64 v)).set 1 (.slice none 0 0)
    have d0 := (hE 0 _ rfl).1
    have d1 := (hE 1 _ rfl).1
    have HV : Hid (Cur p a len cap ((w3.setCell ⟨w.heap.size + 1, 0, none⟩ (.int .i64 v)).setCell ⟨w.heap.size + 1, 1, none⟩ (.slice none 0 0)) ∧ K2 p p w ((w3.setCell ⟨w.heap.size + 1, 0, none⟩ (.int .i64 v)).setCell ⟨w.heap.size + 1, 1, none⟩ (.slice none 0 0))) :=
      ⟨(hc.setFar (B := B) (q := ⟨w.heap.size + 1, 0, none⟩) (by show B ≤ w.heap.size + 1; omega) hp hab _).setFar (B := B) (q := ⟨w.heap.size + 1, 1, none⟩) (by show B ≤ w.heap.size + 1; omega) hp hab _, ((K2.ofKept (HK2.out.trans hk)).set ⟨w.heap.size + 1, 0, none⟩ (.inr (Nat.le_succ _)) _).set ⟨w.heap.size + 1, 1, none⟩ (.inr (Nat.le_succ _)) _⟩
    clear c3 hc hk hR hE HL hv k0 k1 HR2 HK2 hwl' hlp i1 hw1'
    go_wp2_with fail
    exact bodyPost_ret (v := .agg #[.int .i64 v, .slice none 0 0]) (by simp [results, Try.results17, go_sem, d0, d1]) rfl ⟨_, _, _, _, p, rfl, HV.out.1, .inl rfl, HV.out.2⟩
  have h0b : ((n : Int) == 0) = false := by simp; omega
  obtain ⟨b, hfa, hbB, hbl⟩ := HOL.out h0
  subst hfa
  have hbX : b ≠ w.heap.size := by omega
  have hbR : b ≠ w.heap.size + 1 := by omega
  have hbp : b ≠ p := by omega
  have HAB := hide hab
  clear HOL hab
  go_enter Try.func17, Try.ntmps17
  go_upto_region 3 with fail
  clear hw1'
  generalize hXX : w.heap.size = X at *
  have HXX := hide hXX
  clear hXX
  refine region_ops (fun w' => Cur p a len cap w' ∧ Kept p w1 w') (fun j u _ => spoG X p (some ⟨b, 0, none⟩) n cp b j (u j)) (by kernel_rfl) (by kernel_rfl) (by kernel_rfl) ⟨HC1.out.drewN 1, (Kept.refl _ _).drewN 1⟩ ?_ ?_
  · refine ⟨?_, ?_, ?_, ?_, ?_, ?_, ?_, ?_, ?_, trivial⟩
    · intro u w2 au hau _ hF hp' K hK
      obtain ⟨hC, hKp⟩ := hF
      have t3 : au.tmps[3]?.getD undef = .pointer (some ⟨X, 0, none⟩) := by rw [hau.out]; kernel_rfl
      refine step_plain rfl ?_
      go_simp
      exact hK.out (.pointer (some ⟨X, 1, none⟩)) _ ⟨hC, hKp⟩ (upU_same _ _ _) (fun j hj _ h => spo_stab j hj h)
    · intro u w2 au hau _ hF hp' K hK
      obtain ⟨hC, hKp⟩ := hF
      have h1 : u 0 = .pointer (some ⟨X, 1, none⟩) := hp'.1
      have t16 : au.tmps[16]?.getD undef = u 0 := by rw [hau.out]; kernel_rfl
      rw [h1] at t16
      have x1 := (HXB.out.kept hKp hXp 1 _ rfl).1
      refine step_plain rfl ?_
      go_simp
      exact hK.out (.slice (some ⟨b, 0, none⟩) n cp) _ ⟨hC, hKp⟩ (upU_same _ _ _) (fun j hj _ h => spo_stab j hj h)
    · intro u w2 au hau _ hF hp' K hK
      obtain ⟨hC, hKp⟩ := hF
      have t0 : au.tmps[0]?.getD undef = .pointer (some ⟨p, 0, none⟩) := by rw [hau.out]; kernel_rfl
      refine step_plain rfl ?_
      go_simp
      exact hK.out (.pointer (some ⟨p, 0, none⟩)) _ ⟨hC, hKp⟩ (upU_same _ _ _) (fun j hj _ h => spo_stab j hj h)
    · intro u w2 au hau _ hF hp' K hK
      obtain ⟨hC, hKp⟩ := hF
      have t3 : au.tmps[3]?.getD undef = .pointer (some ⟨X, 0, none⟩) := by rw [hau.out]; kernel_rfl
      refine step_plain rfl ?_
      go_simp
      exact hK.out (.pointer (some ⟨X, 1, none⟩)) _ ⟨hC, hKp⟩ (upU_same _ _ _) (fun j hj _ h => spo_stab j hj h)
    · intro u w2 au hau _ hF hp' K hK
      obtain ⟨hC, hKp⟩ := hF
      have h1 : u 3 = .pointer (some ⟨X, 1, none⟩) := hp'.1
      have t19 : au.tmps[19]?.getD undef = u 3 := by rw [hau.out]; kernel_rfl
      rw [h1] at t19
      have x1 := (HXB.out.kept hKp hXp 1 _ rfl).1
      refine step_plain rfl ?_
      go_simp
      exact hK.out (.slice (some ⟨b, 0, none⟩) n cp) _ ⟨hC, hKp⟩ (upU_same _ _ _) (fun j hj _ h => spo_stab j hj h)
    · intro u w2 au hau _ hF hp' K hK
      obtain ⟨hC, hKp⟩ := hF
      have h1 : u 4 = .slice (some ⟨b, 0, none⟩) n cp := hp'.1
      have t20 : au.tmps[20]?.getD undef = u 4 := by rw [hau.out]; kernel_rfl
      rw [h1] at t20
      refine step_plain rfl ?_
      go_simp
      exact hK.out (.int .i64 n) _ ⟨hC, hKp⟩ (upU_same _ _ _) (fun j hj _ h => spo_stab j hj h)
    · intro u w2 au hau _ hF hp' K hK
      obtain ⟨hC, hKp⟩ := hF
      have h1 : u 2 = .pointer (some ⟨p, 0, none⟩) := hp'.1
      have h2 : u 5 = .int .i64 n := hp'.2.1
      have t18 : au.tmps[18]?.getD undef = u 2 := by rw [hau.out]; kernel_rfl
      have t21 : au.tmps[21]?.getD undef = u 5 := by rw [hau.out]; kernel_rfl
      rw [h1] at t18
      rw [h2] at t21
      have cB := belowW p a len cap w2 hC (n : Int) (by omega) (by omega)
      refine step_plain rfl ?_
      go_simp
      refine cB.mono ?_
      rintro e w3 ⟨x, rfl, x0, x1, hc, hk⟩
      exact hK.out (.int .i64 x) _ ⟨hc, hKp.trans hk⟩ ⟨x.toNat, by omega, (upU_same _ _ _).trans (by rw [show ((x.toNat : Nat) : Int) = x by omega])⟩ (fun j hj _ h => spo_stab j hj h)
    · intro u w2 au hau _ hF hp' K hK
      obtain ⟨hC, hKp⟩ := hF
      have h1 : u 1 = .slice (some ⟨b, 0, none⟩) n cp := hp'.1
      obtain ⟨Y, hY, hy⟩ : ∃ Y : Nat, Y < n ∧ u 6 = .int .i64 Y := hp'.2.1
      have t17 : au.tmps[17]?.getD undef = u 1 := by rw [hau.out]; kernel_rfl
      have t22 : au.tmps[22]?.getD undef = u 6 := by rw [hau.out]; kernel_rfl
      rw [h1] at t17
      rw [hy] at t22
      have hYi : (Y : Int) < n := by omega
      refine step_plain rfl ?_
      go_simp
      exact hK.out (.pointer (some ⟨b, Y * 4, none⟩)) _ ⟨hC, hKp⟩ ⟨Y, hY, upU_same _ _ _⟩ (fun j hj _ h => spo_stab j hj h)
    · intro u w2 au hau _ hF hp' K hK
      obtain ⟨hC, hKp⟩ := hF
      obtain ⟨Y, hY, hy⟩ : ∃ Y : Nat, Y < n ∧ u 7 = .pointer (some ⟨b, Y * 4, none⟩) := hp'.1
      have t23 : au.tmps[23]?.getD undef = u 7 := by rw [hau.out]; kernel_rfl
      rw [hy] at t23
      refine step_plain rfl ?_
      go_simp
      exact hK.out (.pointer (some ⟨b, Y * 4, none⟩)) _ ⟨hC, hKp⟩ ⟨Y, hY, upU_same _ _ _⟩ (fun j hj _ h => spo_stab j hj h)
  · intro u w2 hF hall
    obtain ⟨Y, hY, hy8⟩ : ∃ Y : Nat, Y < n ∧ u 8 = .pointer (some ⟨b, Y * 4, none⟩) := hall 8 (by decide)
    simp only [rgPut, Act.put, hy8]
    go_simp
    have HX2 := hide (HXB.out.kept hF.2 hXp)
    have HR2 := hide (HRB.out.kept hF.2 hRp)
    have HO2 := hide (HO1.out.kept hF.2 hp)
    have HK2 := hide (HK1.out.trans hF.2)
    have c5 := below_any p a len cap w2 hF.1 5 (by omega) (by omega)
    clear hall hy8 hF HXB HRB HO1 HK1 HC1 i1
    go_wp2_with fail
    refine c5.mono ?_
    rintro e w3 ⟨k, rfl, k0, k1, hc, hk⟩
    replace HX2 := hide (HX2.out.kept hk hXp)
    replace HR2 := hide (HR2.out.kept hk hRp)
    replace HO2 := hide (HO2.out.kept hk hp)
    replace HK2 := hide (HK2.out.trans hk)
    have HC3 := hide hc
    clear c5 hc hk
    have hk5 : k = 0 ∨ k = 1 ∨ k = 2 ∨ k = 3 ∨ k = 4 := by omega
    clear k0 k1
    rcases hk5 with rfl | rfl | rfl | rfl | rfl
    · have cF := from_any p a len cap w3 HC3.out (-1) 6 (by omega) (by omega) (by omega)
      go_wp2_with fail
      refine cF.mono ?_
      rintro e w4 ⟨v, rfl, -, -, hc, hk⟩
      obtain ⟨b', hbe, -, -, hcl⟩ := (HO2.out.kept hk hp).lt h0
      cases hbe
      obtain ⟨⟨y, hy⟩, hyf⟩ := hcl (Y * 4) (by omega)
      have hX4 := HX2.out.kept hk hXp
      have hR4 := HR2.out.kept hk hRp
      obtain ⟨w5, hw5⟩ : ∃ w5, w5 = w4.setCell ⟨b, Y * 4, none⟩ (.int .i64 v) := ⟨_, rfl⟩
      have hX5 : Bx X [.int .i64 c, .slice (some ⟨b, 0, none⟩) n cp] w5 := by rw [hw5]; exact hX4.kept ((Kept.refl b w4).setCell rfl _) (Ne.symm hbX)
      have hR5 : Bx (X + 1) [.int .i64 0, .slice none 0 0] w5 := by rw [hw5]; exact hR4.kept ((Kept.refl b w4).setCell rfl _) (Ne.symm hbR)
      have hc5 : Cur p a len cap w5 := by rw [hw5]; exact hc.setFar (B := B) (q := ⟨b, Y * 4, none⟩) hbB hp HAB.out _
      have hk5 : K2 p b w w5 := by rw [hw5]; exact (K2.ofKept (HK2.out.trans hk)).set ⟨b, Y * 4, none⟩ (.inl rfl) _
      have hw5' := hw5.symm
      clear cF hc hk hcl hX4 hR4 hw5
      obtain ⟨z0, -⟩ := hX5 0 _ rfl
      obtain ⟨z1, -⟩ := hX5 1 _ rfl
      obtain ⟨r0, f0⟩ := hR5 0 _ rfl
      obtain ⟨r1, f1⟩ := hR5 1 _ rfl
      have hE := (hR5.set 0 (.int .i64 (c))).set 1 (.slice (some ⟨b, 0, none⟩) n cp)
      have d0 := (hE 0 _ rfl).1
      have d1 := (hE 1 _ rfl).1
      have HV : Hid (Cur p a len cap ((w5.setCell ⟨X + 1, 0, none⟩ (.int .i64 (c))).setCell ⟨X + 1, 1, none⟩ (.slice (some ⟨b, 0, none⟩) n cp)) ∧ K2 p b w ((w5.setCell ⟨X + 1, 0, none⟩ (.int .i64 (c))).setCell ⟨X + 1, 1, none⟩ (.slice (some ⟨b, 0, none⟩) n cp))) :=
        ⟨(hc5.setFar (B := B) (q := ⟨X + 1, 0, none⟩) (by show B ≤ X + 1; omega) hp HAB.out _).setFar (B := B) (q := ⟨X + 1, 1, none⟩) (by show B ≤ X + 1; omega) hp HAB.out _, (hk5.set ⟨X + 1, 0, none⟩ (.inr (by rw [HXX.out]; exact Nat.le_succ _)) _).set ⟨X + 1, 1, none⟩ (.inr (by rw [HXX.out]; exact Nat.le_succ _)) _⟩
      clear hX5 hR5 hc5 hk5 hE HX2 HR2 HO2 HK2 HC3
      go_wp2_with fail
      exact bodyPost_ret (v := .agg #[.int .i64 (c), .slice (some ⟨b, 0, none⟩) n cp]) (by simp [results, Try.results17, go_sem, d0, d1]) rfl ⟨_, _, _, _, b, rfl, HV.out.1, .inr ⟨h0, hbB, rfl⟩, HV.out.2⟩
    · have cF := from_any p a len cap w3 HC3.out (0) 6 (by omega) (by omega) (by omega)
      go_wp2_with fail
      refine cF.mono ?_
      rintro e w4 ⟨v, rfl, -, -, hc, hk⟩
      obtain ⟨b', hbe, -, -, hcl⟩ := (HO2.out.kept hk hp).lt h0
      cases hbe
      obtain ⟨⟨y, hy⟩, hyf⟩ := hcl (Y * 4 + 1) (by omega)
      have hX4 := HX2.out.kept hk hXp
      have hR4 := HR2.out.kept hk hRp
      obtain ⟨w5, hw5⟩ : ∃ w5, w5 = w4.setCell ⟨b, Y * 4 + 1, none⟩ (.int .i64 v) := ⟨_, rfl⟩
      have hX5 : Bx X [.int .i64 c, .slice (some ⟨b, 0, none⟩) n cp] w5 := by rw [hw5]; exact hX4.kept ((Kept.refl b w4).setCell rfl _) (Ne.symm hbX)
      have hR5 : Bx (X + 1) [.int .i64 0, .slice none 0 0] w5 := by rw [hw5]; exact hR4.kept ((Kept.refl b w4).setCell rfl _) (Ne.symm hbR)
      have hc5 : Cur p a len cap w5 := by rw [hw5]; exact hc.setFar (B := B) (q := ⟨b, Y * 4 + 1, none⟩) hbB hp HAB.out _
      have hk5 : K2 p b w w5 := by rw [hw5]; exact (K2.ofKept (HK2.out.trans hk)).set ⟨b, Y * 4 + 1, none⟩ (.inl rfl) _
      have hw5' := hw5.symm
      clear cF hc hk hcl hX4 hR4 hw5
      obtain ⟨z0, -⟩ := hX5 0 _ rfl
      obtain ⟨z1, -⟩ := hX5 1 _ rfl
      obtain ⟨r0, f0⟩ := hR5 0 _ rfl
      obtain ⟨r1, f1⟩ := hR5 1 _ rfl
      have hE := (hR5.set 0 (.int .i64 (c))).set 1 (.slice (some ⟨b, 0, none⟩) n cp)
      have d0 := (hE 0 _ rfl).1
      have d1 := (hE 1 _ rfl).1
      have HV : Hid (Cur p a len cap ((w5.setCell ⟨X + 1, 0, none⟩ (.int .i64 (c))).setCell ⟨X + 1, 1, none⟩ (.slice (some ⟨b, 0, none⟩) n cp)) ∧ K2 p b w ((w5.setCell ⟨X + 1, 0, none⟩ (.int .i64 (c))).setCell ⟨X + 1, 1, none⟩ (.slice (some ⟨b, 0, none⟩) n cp))) :=
        ⟨(hc5.setFar (B := B) (q := ⟨X + 1, 0, none⟩) (by show B ≤ X + 1; omega) hp HAB.out _).setFar (B := B) (q := ⟨X + 1, 1, none⟩) (by show B ≤ X + 1; omega) hp HAB.out _, (hk5.set ⟨X + 1, 0, none⟩ (.inr (by rw [HXX.out]; exact Nat.le_succ _)) _).set ⟨X + 1, 1, none⟩ (.inr (by rw [HXX.out]; exact Nat.le_succ _)) _⟩
      clear hX5 hR5 hc5 hk5 hE HX2 HR2 HO2 HK2 HC3
      go_wp2_with fail
      exact bodyPost_ret (v := .agg #[.int .i64 (c), .slice (some ⟨b, 0, none⟩) n cp]) (by simp [results, Try.results17, go_sem, d0, d1]) rfl ⟨_, _, _, _, b, rfl, HV.out.1, .inr ⟨h0, hbB, rfl⟩, HV.out.2⟩
    · have cF := from_any p a len cap w3 HC3.out (0) 9 (by omega) (by omega) (by omega)
      go_wp2_with fail
      refine cF.mono ?_
      rintro e w4 ⟨v, rfl, -, -, hc, hk⟩
      obtain ⟨b', hbe, -, -, hcl⟩ := (HO2.out.kept hk hp).lt h0
      cases hbe
      obtain ⟨⟨y, hy⟩, hyf⟩ := hcl (Y * 4 + 2) (by omega)
      have hX4 := HX2.out.kept hk hXp
      have hR4 := HR2.out.kept hk hRp
      obtain ⟨w5, hw5⟩ : ∃ w5, w5 = w4.setCell ⟨b, Y * 4 + 2, none⟩ (.int .i64 v) := ⟨_, rfl⟩
      have hX5 : Bx X [.int .i64 c, .slice (some ⟨b, 0, none⟩) n cp] w5 := by rw [hw5]; exact hX4.kept ((Kept.refl b w4).setCell rfl _) (Ne.symm hbX)
      have hR5 : Bx (X + 1) [.int .i64 0, .slice none 0 0] w5 := by rw [hw5]; exact hR4.kept ((Kept.refl b w4).setCell rfl _) (Ne.symm hbR)
      have hc5 : Cur p a len cap w5 := by rw [hw5]; exact hc.setFar (B := B) (q := ⟨b, Y * 4 + 2, none⟩) hbB hp HAB.out _
      have hk5 : K2 p b w w5 := by rw [hw5]; exact (K2.ofKept (HK2.out.trans hk)).set ⟨b, Y * 4 + 2, none⟩ (.inl rfl) _
      have hw5' := hw5.symm
      clear cF hc hk hcl hX4 hR4 hw5
      obtain ⟨z0, -⟩ := hX5 0 _ rfl
      obtain ⟨z1, -⟩ := hX5 1 _ rfl
      obtain ⟨r0, f0⟩ := hR5 0 _ rfl
      obtain ⟨r1, f1⟩ := hR5 1 _ rfl
      have hE := (hR5.set 0 (.int .i64 (c))).set 1 (.slice (some ⟨b, 0, none⟩) n cp)
      have d0 := (hE 0 _ rfl).1
      have d1 := (hE 1 _ rfl).1
      have HV : Hid (Cur p a len cap ((w5.setCell ⟨X + 1, 0, none⟩ (.int .i64 (c))).setCell ⟨X + 1, 1, none⟩ (.slice (some ⟨b, 0, none⟩) n cp)) ∧ K2 p b w ((w5.setCell ⟨X + 1, 0, none⟩ (.int .i64 (c))).setCell ⟨X + 1, 1, none⟩ (.slice (some ⟨b, 0, none⟩) n cp))) :=
        ⟨(hc5.setFar (B := B) (q := ⟨X + 1, 0, none⟩) (by show B ≤ X + 1; omega) hp HAB.out _).setFar (B := B) (q := ⟨X + 1, 1, none⟩) (by show B ≤ X + 1; omega) hp HAB.out _, (hk5.set ⟨X + 1, 0, none⟩ (.inr (by rw [HXX.out]; exact Nat.le_succ _)) _).set ⟨X + 1, 1, none⟩ (.inr (by rw [HXX.out]; exact Nat.le_succ _)) _⟩
      clear hX5 hR5 hc5 hk5 hE HX2 HR2 HO2 HK2 HC3
      go_wp2_with fail
      exact bodyPost_ret (v := .agg #[.int .i64 (c), .slice (some ⟨b, 0, none⟩) n cp]) (by simp [results, Try.results17, go_sem, d0, d1]) rfl ⟨_, _, _, _, b, rfl, HV.out.1, .inr ⟨h0, hbB, rfl⟩, HV.out.2⟩
    · have cF := from_any p a len cap w3 HC3.out (-1) 9 (by omega) (by omega) (by omega)
      go_wp2_with fail
      refine cF.mono ?_
      rintro e w4 ⟨v, rfl, -, -, hc, hk⟩
      obtain ⟨b', hbe, -, -, hcl⟩ := (HO2.out.kept hk hp).lt h0
      cases hbe
      obtain ⟨⟨y, hy⟩, hyf⟩ := hcl (Y * 4 + 3) (by omega)
      have hX4 := HX2.out.kept hk hXp
      have hR4 := HR2.out.kept hk hRp
      obtain ⟨w5, hw5⟩ : ∃ w5, w5 = w4.setCell ⟨b, Y * 4 + 3, none⟩ (.int .i64 v) := ⟨_, rfl⟩
      have hX5 : Bx X [.int .i64 c, .slice (some ⟨b, 0, none⟩) n cp] w5 := by rw [hw5]; exact hX4.kept ((Kept.refl b w4).setCell rfl _) (Ne.symm hbX)
      have hR5 : Bx (X + 1) [.int .i64 0, .slice none 0 0] w5 := by rw [hw5]; exact hR4.kept ((Kept.refl b w4).setCell rfl _) (Ne.symm hbR)
      have hc5 : Cur p a len cap w5 := by rw [hw5]; exact hc.setFar (B := B) (q := ⟨b, Y * 4 + 3, none⟩) hbB hp HAB.out _
      have hk5 : K2 p b w w5 := by rw [hw5]; exact (K2.ofKept (HK2.out.trans hk)).set ⟨b, Y * 4 + 3, none⟩ (.inl rfl) _
      have hw5' := hw5.symm
      clear cF hc hk hcl hX4 hR4 hw5
      obtain ⟨z0, -⟩ := hX5 0 _ rfl
      obtain ⟨z1, -⟩ := hX5 1 _ rfl
      obtain ⟨r0, f0⟩ := hR5 0 _ rfl
      obtain ⟨r1, f1⟩ := hR5 1 _ rfl
      have hE := (hR5.set 0 (.int .i64 (c))).set 1 (.slice (some ⟨b, 0, none⟩) n cp)
      have d0 := (hE 0 _ rfl).1
      have d1 := (hE 1 _ rfl).1
      have HV : Hid (Cur p a len cap ((w5.setCell ⟨X + 1, 0, none⟩ (.int .i64 (c))).setCell ⟨X + 1, 1, none⟩ (.slice (some ⟨b, 0, none⟩) n cp)) ∧ K2 p b w ((w5.setCell ⟨X + 1, 0, none⟩ (.int .i64 (c))).setCell ⟨X + 1, 1, none⟩ (.slice (some ⟨b, 0, none⟩) n cp))) :=
        ⟨(hc5.setFar (B := B) (q := ⟨X + 1, 0, none⟩) (by show B ≤ X + 1; omega) hp HAB.out _).setFar (B := B) (q := ⟨X + 1, 1, none⟩) (by show B ≤ X + 1; omega) hp HAB.out _, (hk5.set ⟨X + 1, 0, none⟩ (.inr (by rw [HXX.out]; exact Nat.le_succ _)) _).set ⟨X + 1, 1, none⟩ (.inr (by rw [HXX.out]; exact Nat.le_succ _)) _⟩
      clear hX5 hR5 hc5 hk5 hE HX2 HR2 HO2 HK2 HC3
      go_wp2_with fail
      exact bodyPost_ret (v := .agg #[.int .i64 (c), .slice (some ⟨b, 0, none⟩) n cp]) (by simp [results, Try.results17, go_sem, d0, d1]) rfl ⟨_, _, _, _, b, rfl, HV.out.1, .inr ⟨h0, hbB, rfl⟩, HV.out.2⟩
    · have hX4 := HX2.out
      have hR4 := HR2.out
      have hcc := HC3.out
      obtain ⟨x0, fx0⟩ := hX4 0 _ rfl
      go_upto_region 15 with fail
      generalize hw5 : w3.setCell ⟨X, 0, none⟩ _ = w5
      obtain ⟨c', hX5⟩ : ∃ c' : Int, Bx X [.int .i64 c', .slice (some ⟨b, 0, none⟩) n cp] w5 := ⟨_, by rw [← hw5]; exact hX4.set 0 _⟩
      have hR5 : Bx (X + 1) [.int .i64 0, .slice none 0 0] w5 := by rw [← hw5]; exact hR4.kept ((Kept.refl X w3).setCell rfl _) (by omega)
      have hc5 : Cur p a len cap w5 := by rw [← hw5]; exact hcc.setFar (B := B) (q := ⟨X, 0, none⟩) hBw hp HAB.out _
      have hk5 : K2 p b w w5 := by rw [← hw5]; exact (K2.ofKept HK2.out).set ⟨X, 0, none⟩ (.inr (by rw [HXX.out]; exact Nat.le_refl X)) _
      clear hX4 hR4 hcc hw5 x0 fx0
      obtain ⟨z0, -⟩ := hX5 0 _ rfl
      obtain ⟨z1, -⟩ := hX5 1 _ rfl
      obtain ⟨r0, f0⟩ := hR5 0 _ rfl
      obtain ⟨r1, f1⟩ := hR5 1 _ rfl
      have hE := (hR5.set 0 (.int .i64 (c'))).set 1 (.slice (some ⟨b, 0, none⟩) n cp)
      have d0 := (hE 0 _ rfl).1
      have d1 := (hE 1 _ rfl).1
      have HV : Hid (Cur p a len cap ((w5.setCell ⟨X + 1, 0, none⟩ (.int .i64 (c'))).setCell ⟨X + 1, 1, none⟩ (.slice (some ⟨b, 0, none⟩) n cp)) ∧ K2 p b w ((w5.setCell ⟨X + 1, 0, none⟩ (.int .i64 (c'))).setCell ⟨X + 1, 1, none⟩ (.slice (some ⟨b, 0, none⟩) n cp))) :=
        ⟨(hc5.setFar (B := B) (q := ⟨X + 1, 0, none⟩) (by show B ≤ X + 1; omega) hp HAB.out _).setFar (B := B) (q := ⟨X + 1, 1, none⟩) (by show B ≤ X + 1; omega) hp HAB.out _, (hk5.set ⟨X + 1, 0, none⟩ (.inr (by rw [HXX.out]; exact Nat.le_succ _)) _).set ⟨X + 1, 1, none⟩ (.inr (by rw [HXX.out]; exact Nat.le_succ _)) _⟩
      clear hX5 hR5 hc5 hk5 hE HX2 HR2 HO2 HK2 HC3
      go_wp2_with fail
      exact bodyPost_ret (v := .agg #[.int .i64 (c'), .slice (some ⟨b, 0, none⟩) n cp]) (by simp [results, Try.results17, go_sem, d0, d1]) rfl ⟨_, _, _, _, b, rfl, HV.out.1, .inr ⟨h0, hbB, rfl⟩, HV.out.2⟩

end Go.Proofs.Ytfhfddmiiopgdaa

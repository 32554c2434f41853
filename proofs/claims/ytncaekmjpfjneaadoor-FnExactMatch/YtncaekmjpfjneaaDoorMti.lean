/- The best shift: the program. -/
import Derived.Test.YtncaekmjpfjneaaDoorMtn
import Derived.Test.YtncaekmjpfjneaaDoorFco
namespace Go.Proofs.YtncaekmjpfjneaaDoor
open Go.RowKit

theorem St.im5 {w0 : World} {L : List BoxT} {O : List OwnT} {w : World} (h : St w0 L O w) (i : Nat) {b : Nat} {v0 v1 v2 v3 v4 : Value} (hm : L[i]? = some (b, [v0, v1, v2, v3, v4])) :
    w.cell? ⟨b, 0, none⟩ = some v0 ∧ w.cell? ⟨b, 1, none⟩ = some v1 ∧ w.cell? ⟨b, 2, none⟩ = some v2 ∧ w.cell? ⟨b, 3, none⟩ = some v3 ∧ w.cell? ⟨b, 4, none⟩ = some v4 := ⟨h.cell i hm 0 rfl, h.cell i hm 1 rfl, h.cell i hm 2 rfl, h.cell i hm 3 rfl, h.cell i hm 4 rfl⟩
theorem St.fr5 {w0 : World} {L : List BoxT} {O : List OwnT} {w : World} (h : St w0 L O w) (i : Nat) {b : Nat} {v0 v1 v2 v3 v4 : Value} (hm : L[i]? = some (b, [v0, v1, v2, v3, v4])) :
    w.frozen? ⟨b, 0, none⟩ = false ∧ w.frozen? ⟨b, 1, none⟩ = false ∧ w.frozen? ⟨b, 2, none⟩ = false ∧ w.frozen? ⟨b, 3, none⟩ = false ∧ w.frozen? ⟨b, 4, none⟩ = false := ⟨h.free i hm 0 rfl, h.free i hm 1 rfl, h.free i hm 2 rfl, h.free i hm 3 rfl, h.free i hm 4 rfl⟩
theorem St.fill5 {w0 : World} {L1 L : List BoxT} {O : List OwnT} {w : World} {c : Nat} {x0 x1 x2 x3 x4 : Value} (h : St w0 (L1 ++ (c, [x0, x1, x2, x3, x4]) :: L) O w) (v0 v1 v2 v3 v4 : Value) :
    St w0 (L1 ++ (c, [v0, v1, v2, v3, v4]) :: L) O (((((w.setCell ⟨c, 0, none⟩ v0).setCell ⟨c, 1, none⟩ v1).setCell ⟨c, 2, none⟩ v2).setCell ⟨c, 3, none⟩ v3).setCell ⟨c, 4, none⟩ v4) :=
  St.fill (L1 := L1) (St.fill (L1 := L1) (St.fill (L1 := L1) (St.fill (L1 := L1) (St.fill (L1 := L1) h 0 v0) 1 v1) 2 v2) 3 v3) 4 v4

/-- a fit's cells -/
abbrev cF (R : FT) : List Value := [.int .i64 R.t, .int .i64 R.x, .int .i64 R.y, .int .i64 R.z, .int .i64 R.c]
abbrev vF (R : FT) : Value := .agg #[.int .i64 R.t, .int .i64 R.x, .int .i64 R.y, .int .i64 R.z, .int .i64 R.c]
/-- what the program begins a turn with -/
def FT.z0 : FT := ⟨0, 0, 0, 0, -1⟩

set_option maxRecDepth 100000 in
set_option maxHeartbeats 4000000 in
theorem bestShift_any (X : Int) (a : Option Addr) (n cap : Nat) (f : Nat → Int) (a' : Option Addr) (cap' : Nat) (t : Nat → Int) (hX : 1 ≤ X ∧ X ≤ 32) (hn : (n : Int) = X * X * X) (hn2 : n ≤ 32768) (hf : ∀ k, k < n → -4095 ≤ f k ∧ f k ≤ 4095) (ht : ∀ k, k < n → -4095 ≤ t k ∧ t k ≤ 4095)
    (r : Int) (hr : 0 ≤ r ∧ r ≤ 2) (m : Nat) (hm : (m : Int) = 2 * r + 1) (w : World) (h : Px a n f w) (h' : Px a' n t w) :
    Calls Tryd.prog 26 #[vVolume X X X a n cap, vVolume X X X a' n cap', .int .i64 r] w fun e w' => e = .returned (vF (bx (fun x y z => cst f t X x y z n) 0 r m .z0 m)) ∧ Below w.heap.size w w' := by
  have HS0 := hide (((((St.start w).box [.int .i64 X, .int .i64 X, .int .i64 X, .slice a n cap] 27).box' [.int .i64 X, .int .i64 X, .int .i64 X, .slice a' n cap'] 27 (b := w.heap.size + 1) (by simp)).box' [.int .i64 0, .int .i64 0, .int .i64 0, .int .i64 0, .int .i64 0] 32 (b := w.heap.size + 2) (by simp)).box' (cF .z0) 32 (b := w.heap.size + 3) (by simp))
  have HP := hide h
  have HP' := hide h'
  have HC := hide (fun x y z (hx : -2 ≤ x ∧ x ≤ 2) (hy : -2 ≤ y ∧ y ≤ 2) (hz : -2 ≤ z ∧ z ≤ 2) w' hw hw' => costOfShift_any X a n cap f a' cap' t hX hn hn2 hf ht x y z hx hy hz w' hw hw')
  have HG : Hid (∀ x y z, 0 ≤ cst f t X x y z n) := fun x y z => (cst_bd hX hn hf ht x y z n (Nat.le_refl _)).1
  clear h h' hf ht hn
  obtain ⟨co, hco⟩ : ∃ co : Int → Int → Int → Int, co = fun x y z => cst f t X x y z n := ⟨_, rfl⟩
  have hco' : ∀ x y z, cst f t X x y z n = co x y z := fun x y z => by rw [hco]
  simp only [hco'] at HC HG
  rw [← hco]
  clear hco hco'
  have un : IntKind.i64.wrap (-r) = -r := by rw [IntKind.wrap_i64]; omega
  have HM := hide hm
  clear hm
  go_enter Tryd.func26, Tryd.ntmps26
  go_wp2_with fail
  go_loopw [8] (fun s wr => ∃ i : Nat, i ≤ m ∧ s = .int .i64 ((i : Int) - r) ∧ St w [(w.heap.size + 3, cF (bx co 0 r m .z0 i)), (w.heap.size + 2, [.int .i64 0, .int .i64 0, .int .i64 0, .int .i64 0, .int .i64 0]), (w.heap.size + 1, [.int .i64 X, .int .i64 X, .int .i64 X, .slice a' n cap']), (w.heap.size, [.int .i64 X, .int .i64 X, .int .i64 X, .slice a n cap])] [] wr) (fun s _ => (r + 1 - intOf s).toNat)
  case atStart => exact ⟨0, by omega, by congr 1; omega, HS0.out⟩
  case round =>
    obtain ⟨i, hi, rfl, hs⟩ := hrel
    clear HS0
    have HS := hide hs
    clear hs
    by_cases hil : i < m
    · have hxi : (i : Int) - r ≤ r := by have := HM.out; omega
      have hxb : -2 ≤ (i : Int) - r ∧ (i : Int) - r ≤ 2 := by omega
      have HI : Hid ((i : Int) - r = (i : Int) - r) := rfl
      obtain ⟨xi, hxe⟩ : ∃ xi, xi = (i : Int) - r := ⟨_, rfl⟩
      have HXE := hide hxe
      rw [← hxe] at hxi hxb
      rw [← hxe]
      clear hxe HI
      go_wp2_with fail
      go_loopw [9] (fun s wr => ∃ j : Nat, j ≤ m ∧ s = .int .i64 ((j : Int) - r) ∧ St w [(w.heap.size + 3, cF (by' co 0 r xi m (bx co 0 r m .z0 i) j)), (w.heap.size + 2, [.int .i64 0, .int .i64 0, .int .i64 0, .int .i64 0, .int .i64 0]), (w.heap.size + 1, [.int .i64 X, .int .i64 X, .int .i64 X, .slice a' n cap']), (w.heap.size, [.int .i64 X, .int .i64 X, .int .i64 X, .slice a n cap])] [] wr) (fun s _ => (r + 1 - intOf s).toNat)
      case atStart => exact ⟨0, by omega, by congr 1; omega, HS.out⟩
      case round =>
        obtain ⟨j, hj, rfl, hs⟩ := hrel
        clear HS
        have HS := hide hs
        clear hs
        by_cases hjl : j < m
        · have hyj : (j : Int) - r ≤ r := by have := HM.out; omega
          have hyb : -2 ≤ (j : Int) - r ∧ (j : Int) - r ≤ 2 := by omega
          obtain ⟨yj, hye⟩ : ∃ yj, yj = (j : Int) - r := ⟨_, rfl⟩
          have HYE := hide hye
          rw [← hye] at hyj hyb
          rw [← hye]
          clear hye
          go_wp2_with fail
          go_loopw [10] (fun s wr => ∃ k : Nat, k ≤ m ∧ s = .int .i64 ((k : Int) - r) ∧ St w [(w.heap.size + 3, cF (bz co 0 r xi yj (by' co 0 r xi m (bx co 0 r m .z0 i) j) k)), (w.heap.size + 2, [.int .i64 0, .int .i64 0, .int .i64 0, .int .i64 0, .int .i64 0]), (w.heap.size + 1, [.int .i64 X, .int .i64 X, .int .i64 X, .slice a' n cap']), (w.heap.size, [.int .i64 X, .int .i64 X, .int .i64 X, .slice a n cap])] [] wr) (fun s _ => (r + 1 - intOf s).toNat)
          case atStart => exact ⟨0, by omega, by congr 1; omega, HS.out⟩
          case round =>
            obtain ⟨k, hk, rfl, hs⟩ := hrel
            clear HS
            have HS := hide hs
            clear hs
            by_cases hkl : k < m
            · have hzk : (k : Int) - r ≤ r := by have := HM.out; omega
              have hzb : -2 ≤ (k : Int) - r ∧ (k : Int) - r ≤ 2 := by omega
              have HST : Hid (bz co 0 r xi yj (by' co 0 r xi m (bx co 0 r m .z0 i) j) (k + 1) = cmb (bz co 0 r xi yj (by' co 0 r xi m (bx co 0 r m .z0 i) j) k) ⟨0, xi, yj, (k : Int) - r, co xi yj ((k : Int) - r)⟩) := rfl
              have cS := fun w' hw hw' => HC.out xi yj ((k : Int) - r) hxb hyb hzb w' hw hw'
              have hg := HG.out xi yj ((k : Int) - r)
              obtain ⟨zk, hze⟩ : ∃ zk, zk = (k : Int) - r := ⟨_, rfl⟩
              have HZE := hide hze
              rw [← hze] at hzk hzb HST cS hg
              rw [← hze]
              clear hze
              generalize bz co 0 r xi yj (by' co 0 r xi m (bx co 0 r m .z0 i) j) k = R at *
              obtain ⟨q, hq⟩ : ∃ q, q = co xi yj zk := ⟨_, rfl⟩
              rw [← hq] at HST cS hg
              clear hq
              obtain ⟨R0, R1, R2, R3, R4⟩ := R
              obtain ⟨i0, i1, i2, i3⟩ := HS.out.im4 3 rfl
              obtain ⟨j0, j1, j2, j3⟩ := HS.out.im4 2 rfl
              go_wp2_with fail
              refine (cS _ (HP.out.below HS.out.below) (HP'.out.below HS.out.below)).mono ?_
              rintro e w5 ⟨rfl, hb⟩
              have HS5 := hide (HS.out.next hb)
              clear hb HS cS i0 i1 i2 i3 j0 j1 j2 j3
              obtain ⟨b0, b1, b2, b3, b4⟩ := HS5.out.im5 0 rfl
              obtain ⟨f0, f1, f2, f3, f4⟩ := HS5.out.fr5 0 rfl
              have hzw : IntKind.i64.wrap (zk + 1) = zk + 1 := by rw [IntKind.wrap_i64]; omega
              have HNX : Hid (Value.int .i64 (zk + 1) = .int .i64 (((k + 1 : Nat) : Int) - r)) := by
                have := HZE.out
                show _ = _
                congr 1
                omega
              have HM1 : Hid ((r + 1 - (zk + 1)).toNat < (r + 1 - zk).toNat) := by show _ < _; omega
              have fin : ∀ R' : FT, ∀ w', cmb ⟨R0, R1, R2, R3, R4⟩ ⟨0, xi, yj, zk, q⟩ = R' → St w [(w.heap.size + 3, cF (R')), (w.heap.size + 2, [.int .i64 0, .int .i64 0, .int .i64 0, .int .i64 0, .int .i64 0]), (w.heap.size + 1, [.int .i64 X, .int .i64 X, .int .i64 X, .slice a' n cap']), (w.heap.size, [.int .i64 X, .int .i64 X, .int .i64 X, .slice a n cap])] [] w' → ∃ k : Nat, k ≤ m ∧ Value.int .i64 (zk + 1) = .int .i64 ((k : Int) - r) ∧ St w [(w.heap.size + 3, cF (bz co 0 r xi yj (by' co 0 r xi m (bx co 0 r m .z0 i) j) k)), (w.heap.size + 2, [.int .i64 0, .int .i64 0, .int .i64 0, .int .i64 0, .int .i64 0]), (w.heap.size + 1, [.int .i64 X, .int .i64 X, .int .i64 X, .slice a' n cap']), (w.heap.size, [.int .i64 X, .int .i64 X, .int .i64 X, .slice a n cap])] [] w' := fun R' w' h1 h2 => ⟨k + 1, by omega, HNX.out, by rw [HST.out, h1]; exact h2⟩
              have FIN := hide fin
              clear fin HST HNX HZE
              by_cases hc : R4 < 0
              · have HE := hide (FIN.out ⟨0, xi, yj, zk, q⟩ _ (by unfold cmb; rw [if_neg (by simp; omega), if_pos (.inl hc)]) (HS5.out.fill5 (L1 := []) (.int .i64 0) (.int .i64 xi) (.int .i64 yj) (.int .i64 zk) (.int .i64 q)))
                clear FIN HS5
                go_wp2_with fail
                exact ⟨HE.out, HM1.out⟩
              · by_cases hl' : q < R4
                · have HE := hide (FIN.out ⟨0, xi, yj, zk, q⟩ _ (by unfold cmb; rw [if_neg (by simp; omega), if_pos (.inr hl')]) (HS5.out.fill5 (L1 := []) (.int .i64 0) (.int .i64 xi) (.int .i64 yj) (.int .i64 zk) (.int .i64 q)))
                  clear FIN HS5
                  go_wp2_with fail
                  exact ⟨HE.out, HM1.out⟩
                · have HE := hide (FIN.out ⟨R0, R1, R2, R3, R4⟩ _ (by unfold cmb; rw [if_neg (by simp; omega), if_neg (by simp; omega)]) HS5.out)
                  clear FIN HS5
                  go_wp2_with fail
                  exact ⟨HE.out, HM1.out⟩
            · obtain rfl : k = m := by omega
              have hnk : ¬ (k : Int) - r ≤ r := by have := HM.out; omega
              have hyw : IntKind.i64.wrap (yj + 1) = yj + 1 := by rw [IntKind.wrap_i64]; omega
              have HNX : Hid (Value.int .i64 (yj + 1) = .int .i64 (((j + 1 : Nat) : Int) - r)) := by
                have := HYE.out
                show _ = _
                congr 1
                omega
              have HM1 : Hid ((r + 1 - (yj + 1)).toNat < (r + 1 - yj).toNat) := by show _ < _; omega
              have HSB : Hid (by' co 0 r xi k (bx co 0 r k .z0 i) (j + 1) = bz co 0 r xi yj (by' co 0 r xi k (bx co 0 r k .z0 i) j) k) := by
                have := HYE.out
                show _ = _
                rw [this]; rfl
              go_wp2_with fail
              exact ⟨⟨j + 1, by omega, HNX.out, by rw [HSB.out]; exact HS.out⟩, HM1.out⟩
        · obtain rfl : j = m := by omega
          have hnk : ¬ (j : Int) - r ≤ r := by have := HM.out; omega
          have hxw : IntKind.i64.wrap (xi + 1) = xi + 1 := by rw [IntKind.wrap_i64]; omega
          have HNX : Hid (Value.int .i64 (xi + 1) = .int .i64 (((i + 1 : Nat) : Int) - r)) := by
            have := HXE.out
            show _ = _
            congr 1
            omega
          have HM1 : Hid ((r + 1 - (xi + 1)).toNat < (r + 1 - xi).toNat) := by show _ < _; omega
          have HSB : Hid (bx co 0 r j .z0 (i + 1) = by' co 0 r xi j (bx co 0 r j .z0 i) j) := by
            have := HXE.out
            show _ = _
            rw [this]; rfl
          go_wp2_with fail
          exact ⟨⟨i + 1, by omega, HNX.out, by rw [HSB.out]; exact HS.out⟩, HM1.out⟩
    · obtain rfl : i = m := by omega
      have hnk : ¬ (i : Int) - r ≤ r := by have := HM.out; omega
      generalize hRR : bx co 0 r i .z0 i = R at HS
      have HRR := hide hRR
      clear hRR
      obtain ⟨R0, R1, R2, R3, R4⟩ := R
      obtain ⟨b0, b1, b2, b3, b4⟩ := HS.out.im5 0 rfl
      obtain ⟨g0, g1, g2, g3, g4⟩ := HS.out.im5 1 rfl
      obtain ⟨f0, f1, f2, f3, f4⟩ := HS.out.fr5 1 rfl
      have HE := hide (HS.out.fill5 (L1 := [_]) (.int .i64 R0) (.int .i64 R1) (.int .i64 R2) (.int .i64 R3) (.int .i64 R4)).below
      clear HS
      go_wp2_with fail
      exact bodyPost_ret (v := vF ⟨R0, R1, R2, R3, R4⟩) (by simp [results, Tryd.results26, go_sem, g0, g1, g2, g3, g4]) rfl ⟨by rw [HRR.out], HE.out⟩

end Go.Proofs.YtncaekmjpfjneaaDoor

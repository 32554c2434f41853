/- The best fit: the specification. -/
import Derived.Test.YtkgkdhocmglklaaDoorMtn
import Derived.Test.YtkgkdhocmglklaaDoorFco
import Derived.Test.YtkgkdhocmglklaaDoorTnt
import Derived.Test.YtkgkdhocmglklaaDoorRgi
import Derived.Test.YtkgkdhocmglklaaDoorTns
import Derived.Test.YtkgkdhocmglklaaDoorTgq
import Derived.Deep.DeepCutAuto
namespace Go.Proofs.YtkgkdhocmglklaaDoor
open Go.RowKit

theorem St.im5 {w0 : World} {L : List BoxT} {O : List OwnT} {w : World} (h : St w0 L O w) (i : Nat) {b : Nat} {v0 v1 v2 v3 v4 : Value} (hm : L[i]? = some (b, [v0, v1, v2, v3, v4])) :
    w.cell? ⟨b, 0, none⟩ = some v0 ∧ w.cell? ⟨b, 1, none⟩ = some v1 ∧ w.cell? ⟨b, 2, none⟩ = some v2 ∧ w.cell? ⟨b, 3, none⟩ = some v3 ∧ w.cell? ⟨b, 4, none⟩ = some v4 := ⟨h.cell i hm 0 rfl, h.cell i hm 1 rfl, h.cell i hm 2 rfl, h.cell i hm 3 rfl, h.cell i hm 4 rfl⟩
theorem St.fr5 {w0 : World} {L : List BoxT} {O : List OwnT} {w : World} (h : St w0 L O w) (i : Nat) {b : Nat} {v0 v1 v2 v3 v4 : Value} (hm : L[i]? = some (b, [v0, v1, v2, v3, v4])) :
    w.frozen? ⟨b, 0, none⟩ = false ∧ w.frozen? ⟨b, 1, none⟩ = false ∧ w.frozen? ⟨b, 2, none⟩ = false ∧ w.frozen? ⟨b, 3, none⟩ = false ∧ w.frozen? ⟨b, 4, none⟩ = false := ⟨h.free i hm 0 rfl, h.free i hm 1 rfl, h.free i hm 2 rfl, h.free i hm 3 rfl, h.free i hm 4 rfl⟩
theorem St.fill5 {w0 : World} {L1 L : List BoxT} {O : List OwnT} {w : World} {c : Nat} {x0 x1 x2 x3 x4 : Value} (h : St w0 (L1 ++ (c, [x0, x1, x2, x3, x4]) :: L) O w) (v0 v1 v2 v3 v4 : Value) :
    St w0 (L1 ++ (c, [v0, v1, v2, v3, v4]) :: L) O (((((w.setCell ⟨c, 0, none⟩ v0).setCell ⟨c, 1, none⟩ v1).setCell ⟨c, 2, none⟩ v2).setCell ⟨c, 3, none⟩ v3).setCell ⟨c, 4, none⟩ v4) :=
  St.fill (L1 := L1) (St.fill (L1 := L1) (St.fill (L1 := L1) (St.fill (L1 := L1) (St.fill (L1 := L1) h 0 v0) 1 v1) 2 v2) 3 v3) 4 v4

/-- a fit's cells -/
abbrev cF (R : FT) : List Value := [.int .i64 R.t, .int .i64 R.x, .int .i64 R.y, .int .i64 R.z, .int .i64 R.c]
abbrev vF (R : FT) : Value := .agg #[.int .i64 R.t, .int .i64 R.x, .int .i64 R.y, .int .i64 R.z, .int .i64 R.c]
/-- what the program begins a turn with -/
def FT.z0 : FT := ⟨0, 0, 0, 0, -1⟩

set_option maxRecDepth 100000 in
set_option maxHeartbeats 4000000 in
theorem bestShift_any (X : Int) (a : Option Addr) (n cap : Nat) (f : Nat → Int) (a' : Option Addr) (cap' : Nat) (t : Nat → Int) (hX : 1 ≤ X ∧ X ≤ 32) (hn : (n : Int) = X * X * X) (hn2 : n ≤ 32768) (hf : ∀ k, k < n → -4095 ≤ f k ∧ f k ≤ 4095) (ht : ∀ k, k < n → -4095 ≤ t k ∧ t k ≤ 4095)
    (r : Int) (hr : 0 ≤ r ∧ r ≤ 2) (m : Nat) (hm : (m : Int) = 2 * r + 1) (w : World) (h : Px a n f w) (h' : Px a' n t w) :
    Calls Tryd.prog 33 #[vVolume X X X a n cap, vVolume X X X a' n cap', .int .i64 r] w fun e w' => e = .returned (vF (bx (fun x y z => cst f t X x y z n) 0 r m .z0 m)) ∧ Below w.heap.size w w' := by
  have HS0 := hide (((((St.start w).box [.int .i64 X, .int .i64 X, .int .i64 X, .slice a n cap] 26).box' [.int .i64 X, .int .i64 X, .int .i64 X, .slice a' n cap'] 26 (b := w.heap.size + 1) (by simp)).box' [.int .i64 0, .int .i64 0, .int .i64 0, .int .i64 0, .int .i64 0] 34 (b := w.heap.size + 2) (by simp)).box' (cF .z0) 34 (b := w.heap.size + 3) (by simp))
  have HP := hide h
  have HP' := hide h'
  have HC := hide (fun x y z (hx : -2 ≤ x ∧ x ≤ 2) (hy : -2 ≤ y ∧ y ≤ 2) (hz : -2 ≤ z ∧ z ≤ 2) w' hw hw' => costOfShift_any X a n cap f a' cap' t hX hn hn2 hf ht x y z hx hy hz w' hw hw')
  have HG : Hid (∀ x y z, 0 ≤ cst f t X x y z n) := fun x y z => (cst_bd hX hn hf ht x y z n (Nat.le_refl _)).1
  clear h h' hf ht hn
  obtain ⟨co, hco⟩ : ∃ co : Int → Int → Int → Int, co = fun x y z => cst f t X x y z n := ⟨_, rfl⟩
  have hco' : ∀ x y z, cst f t X x y z n = co x y z := fun x y z => by rw [hco]
  simp only [hco'] at HC HG
  rw [← hco]
  clear hco hco'
  have un : IntKind.i64.wrap (-r) = -r := by rw [IntKind.wrap_i64]; omega
  have HM := hide hm
  clear hm
  go_enter Tryd.func33, Tryd.ntmps33
  go_wp2_with fail
  go_loopw [8] (fun s wr => ∃ i : Nat, i ≤ m ∧ s = .int .i64 ((i : Int) - r) ∧ St w [(w.heap.size + 3, cF (bx co 0 r m .z0 i)), (w.heap.size + 2, [.int .i64 0, .int .i64 0, .int .i64 0, .int .i64 0, .int .i64 0]), (w.heap.size + 1, [.int .i64 X, .int .i64 X, .int .i64 X, .slice a' n cap']), (w.heap.size, [.int .i64 X, .int .i64 X, .int .i64 X, .slice a n cap])] [] wr) (fun s _ => (r + 1 - intOf s).toNat)
  case atStart => exact ⟨0, by omega, by congr 1; omega, HS0.out⟩
  case round =>
    obtain ⟨i, hi, rfl, hs⟩ := hrel
    clear HS0
    have HS := hide hs
    clear hs
    by_cases hil : i < m
    · have hxi : (i : Int) - r ≤ r := by have := HM.out; omega
      have hxb : -2 ≤ (i : Int) - r ∧ (i : Int) - r ≤ 2 := by omega
      have HI : Hid ((i : Int) - r = (i : Int) - r) := rfl
      obtain ⟨xi, hxe⟩ : ∃ xi, xi = (i : Int) - r := ⟨_, rfl⟩
      have HXE := hide hxe
      rw [← hxe] at hxi hxb
      rw [← hxe]
      clear hxe HI
      go_wp2_with fail
      go_loopw [9] (fun s wr => ∃ j : Nat, j ≤ m ∧ s = .int .i64 ((j : Int) - r) ∧ St w [(w.heap.size + 3, cF (by' co 0 r xi m (bx co 0 r m .z0 i) j)), (w.heap.size + 2, [.int .i64 0, .int .i64 0, .int .i64 0, .int .i64 0, .int .i64 0]), (w.heap.size + 1, [.int .i64 X, .int .i64 X, .int .i64 X, .slice a' n cap']), (w.heap.size, [.int .i64 X, .int .i64 X, .int .i64 X, .slice a n cap])] [] wr) (fun s _ => (r + 1 - intOf s).toNat)
      case atStart => exact ⟨0, by omega, by congr 1; omega, HS.out⟩
      case round =>
        obtain ⟨j, hj, rfl, hs⟩ := hrel
        clear HS
        have HS := hide hs
        clear hs
        by_cases hjl : j < m
        · have hyj : (j : Int) - r ≤ r := by have := HM.out; omega
          have hyb : -2 ≤ (j : Int) - r ∧ (j : Int) - r ≤ 2 := by omega
          obtain ⟨yj, hye⟩ : ∃ yj, yj = (j : Int) - r := ⟨_, rfl⟩
          have HYE := hide hye
          rw [← hye] at hyj hyb
          rw [← hye]
          clear hye
          go_wp2_with fail
          go_loopw [10] (fun s wr => ∃ k : Nat, k ≤ m ∧ s = .int .i64 ((k : Int) - r) ∧ St w [(w.heap.size + 3, cF (bz co 0 r xi yj (by' co 0 r xi m (bx co 0 r m .z0 i) j) k)), (w.heap.size + 2, [.int .i64 0, .int .i64 0, .int .i64 0, .int .i64 0, .int .i64 0]), (w.heap.size + 1, [.int .i64 X, .int .i64 X, .int .i64 X, .slice a' n cap']), (w.heap.size, [.int .i64 X, .int .i64 X, .int .i64 X, .slice a n cap])] [] wr) (fun s _ => (r + 1 - intOf s).toNat)
          case atStart => exact ⟨0, by omega, by congr 1; omega, HS.out⟩
          case round =>
            obtain ⟨k, hk, rfl, hs⟩ := hrel
            clear HS
            have HS := hide hs
            clear hs
            by_cases hkl : k < m
            · have hzk : (k : Int) - r ≤ r := by have := HM.out; omega
              have hzb : -2 ≤ (k : Int) - r ∧ (k : Int) - r ≤ 2 := by omega
              have HST : Hid (bz co 0 r xi yj (by' co 0 r xi m (bx co 0 r m .z0 i) j) (k + 1) = cmb (bz co 0 r xi yj (by' co 0 r xi m (bx co 0 r m .z0 i) j) k) ⟨0, xi, yj, (k : Int) - r, co xi yj ((k : Int) - r)⟩) := rfl
              have cS := fun w' hw hw' => HC.out xi yj ((k : Int) - r) hxb hyb hzb w' hw hw'
              have hg := HG.out xi yj ((k : Int) - r)
              obtain ⟨zk, hze⟩ : ∃ zk, zk = (k : Int) - r := ⟨_, rfl⟩
              have HZE := hide hze
              rw [← hze] at hzk hzb HST cS hg
              rw [← hze]
              clear hze
              generalize bz co 0 r xi yj (by' co 0 r xi m (bx co 0 r m .z0 i) j) k = R at *
              obtain ⟨q, hq⟩ : ∃ q, q = co xi yj zk := ⟨_, rfl⟩
              rw [← hq] at HST cS hg
              clear hq
              obtain ⟨R0, R1, R2, R3, R4⟩ := R
              obtain ⟨i0, i1, i2, i3⟩ := HS.out.im4 3 rfl
              obtain ⟨j0, j1, j2, j3⟩ := HS.out.im4 2 rfl
              go_wp2_with fail
              refine (cS _ (HP.out.below HS.out.below) (HP'.out.below HS.out.below)).mono ?_
              rintro e w5 ⟨rfl, hb⟩
              have HS5 := hide (HS.out.next hb)
              clear hb HS cS i0 i1 i2 i3 j0 j1 j2 j3
              obtain ⟨b0, b1, b2, b3, b4⟩ := HS5.out.im5 0 rfl
              obtain ⟨f0, f1, f2, f3, f4⟩ := HS5.out.fr5 0 rfl
              have hzw : IntKind.i64.wrap (zk + 1) = zk + 1 := by rw [IntKind.wrap_i64]; omega
              have HNX : Hid (Value.int .i64 (zk + 1) = .int .i64 (((k + 1 : Nat) : Int) - r)) := by
                have := HZE.out
                show _ = _
                congr 1
                omega
              have HM1 : Hid ((r + 1 - (zk + 1)).toNat < (r + 1 - zk).toNat) := by show _ < _; omega
              have fin : ∀ R' : FT, ∀ w', cmb ⟨R0, R1, R2, R3, R4⟩ ⟨0, xi, yj, zk, q⟩ = R' → St w [(w.heap.size + 3, cF (R')), (w.heap.size + 2, [.int .i64 0, .int .i64 0, .int .i64 0, .int .i64 0, .int .i64 0]), (w.heap.size + 1, [.int .i64 X, .int .i64 X, .int .i64 X, .slice a' n cap']), (w.heap.size, [.int .i64 X, .int .i64 X, .int .i64 X, .slice a n cap])] [] w' → ∃ k : Nat, k ≤ m ∧ Value.int .i64 (zk + 1) = .int .i64 ((k : Int) - r) ∧ St w [(w.heap.size + 3, cF (bz co 0 r xi yj (by' co 0 r xi m (bx co 0 r m .z0 i) j) k)), (w.heap.size + 2, [.int .i64 0, .int .i64 0, .int .i64 0, .int .i64 0, .int .i64 0]), (w.heap.size + 1, [.int .i64 X, .int .i64 X, .int .i64 X, .slice a' n cap']), (w.heap.size, [.int .i64 X, .int .i64 X, .int .i64 X, .slice a n cap])] [] w' := fun R' w' h1 h2 => ⟨k + 1, by omega, HNX.out, by rw [HST.out, h1]; exact h2⟩
              have FIN := hide fin
              clear fin HST HNX HZE
              by_cases hc : R4 < 0
              · have HE := hide (FIN.out ⟨0, xi, yj, zk, q⟩ _ (by unfold cmb; rw [if_neg (by simp; omega), if_pos (.inl hc)]) (HS5.out.fill5 (L1 := []) (.int .i64 0) (.int .i64 xi) (.int .i64 yj) (.int .i64 zk) (.int .i64 q)))
                clear FIN HS5
                go_wp2_with fail
                exact ⟨HE.out, HM1.out⟩
              · by_cases hl' : q < R4
                · have HE := hide (FIN.out ⟨0, xi, yj, zk, q⟩ _ (by unfold cmb; rw [if_neg (by simp; omega), if_pos (.inr hl')]) (HS5.out.fill5 (L1 := []) (.int .i64 0) (.int .i64 xi) (.int .i64 yj) (.int .i64 zk) (.int .i64 q)))
                  clear FIN HS5
                  go_wp2_with fail
                  exact ⟨HE.out, HM1.out⟩
                · have HE := hide (FIN.out ⟨R0, R1, R2, R3, R4⟩ _ (by unfold cmb; rw [if_neg (by simp; omega), if_neg (by simp; omega)]) HS5.out)
                  clear FIN HS5
                  go_wp2_with fail
                  exact ⟨HE.out, HM1.out⟩
            · obtain rfl : k = m := by omega
              have hnk : ¬ (k : Int) - r ≤ r := by have := HM.out; omega
              have hyw : IntKind.i64.wrap (yj + 1) = yj + 1 := by rw [IntKind.wrap_i64]; omega
              have HNX : Hid (Value.int .i64 (yj + 1) = .int .i64 (((j + 1 : Nat) : Int) - r)) := by
                have := HYE.out
                show _ = _
                congr 1
                omega
              have HM1 : Hid ((r + 1 - (yj + 1)).toNat < (r + 1 - yj).toNat) := by show _ < _; omega
              have HSB : Hid (by' co 0 r xi k (bx co 0 r k .z0 i) (j + 1) = bz co 0 r xi yj (by' co 0 r xi k (bx co 0 r k .z0 i) j) k) := by
                have := HYE.out
                show _ = _
                rw [this]; rfl
              go_wp2_with fail
              exact ⟨⟨j + 1, by omega, HNX.out, by rw [HSB.out]; exact HS.out⟩, HM1.out⟩
        · obtain rfl : j = m := by omega
          have hnk : ¬ (j : Int) - r ≤ r := by have := HM.out; omega
          have hxw : IntKind.i64.wrap (xi + 1) = xi + 1 := by rw [IntKind.wrap_i64]; omega
          have HNX : Hid (Value.int .i64 (xi + 1) = .int .i64 (((i + 1 : Nat) : Int) - r)) := by
            have := HXE.out
            show _ = _
            congr 1
            omega
          have HM1 : Hid ((r + 1 - (xi + 1)).toNat < (r + 1 - xi).toNat) := by show _ < _; omega
          have HSB : Hid (bx co 0 r j .z0 (i + 1) = by' co 0 r xi j (bx co 0 r j .z0 i) j) := by
            have := HXE.out
            show _ = _
            rw [this]; rfl
          go_wp2_with fail
          exact ⟨⟨i + 1, by omega, HNX.out, by rw [HSB.out]; exact HS.out⟩, HM1.out⟩
    · obtain rfl : i = m := by omega
      have hnk : ¬ (i : Int) - r ≤ r := by have := HM.out; omega
      generalize hRR : bx co 0 r i .z0 i = R at HS
      have HRR := hide hRR
      clear hRR
      obtain ⟨R0, R1, R2, R3, R4⟩ := R
      obtain ⟨b0, b1, b2, b3, b4⟩ := HS.out.im5 0 rfl
      obtain ⟨g0, g1, g2, g3, g4⟩ := HS.out.im5 1 rfl
      obtain ⟨f0, f1, f2, f3, f4⟩ := HS.out.fr5 1 rfl
      have HE := hide (HS.out.fill5 (L1 := [_]) (.int .i64 R0) (.int .i64 R1) (.int .i64 R2) (.int .i64 R3) (.int .i64 R4)).below
      clear HS
      go_wp2_with fail
      exact bodyPost_ret (v := vF ⟨R0, R1, R2, R3, R4⟩) (by simp [results, Tryd.results33, go_sem, g0, g1, g2, g3, g4]) rfl ⟨by rw [HRR.out], HE.out⟩

end Go.Proofs.YtkgkdhocmglklaaDoor

namespace Go.Proofs.YtkgkdhocmglklaaDoor
open Go.RowKit

/-- a turn of the table -/
def tqT (i : Nat) : T4 := (tbA.getD (i * 4) 0, tbA.getD (i * 4 + 1) 0, tbA.getD (i * 4 + 2) 0, tbA.getD (i * 4 + 3) 0)
theorem tq_ok : ∀ i, i < 12 → tkT (tqT i) = true := by decide +kernel
theorem lik_parts {X Y Z : Int} {n : Nat} {f : Nat → Int} {X' Y' Z' : Int} {n' : Nat} {f' : Nat → Int} (h : likB X Y Z n f X' Y' Z' n' f' = true) : cubB X Y Z n f = true ∧ cubB X' Y' Z' n' f' = true ∧ X = X' ∧ X ≤ 6 := by
  unfold likB at h
  simp only [Bool.and_eq_true, decide_eq_true_eq] at h
  exact h
theorem alW_ofF {f : Nat → Int} {lo hi : Int} : ∀ {n : Nat}, (∀ k, k < n → lo ≤ f k ∧ f k ≤ hi) → alW f lo hi n = true
  | 0, _ => rfl
  | n + 1, h => by
    have h1 := h n (by omega)
    simp only [alW, Bool.and_eq_true]
    refine ⟨alW_ofF fun k hk => h k (by omega), ?_⟩
    unfold inB
    simp [h1.1, h1.2]
theorem cub_turnF {t : T4} (ht : tkT t = true) {X : Int} {n : Nat} {f : Nat → Int} (h : cubB X X X n f = true) : cubB X X X n (tvs (tgT t X) f n) = true := by
  have hw := cub_in h
  obtain ⟨-, -, hX, hn, -⟩ := cubB_parts h
  unfold cubB volB at h ⊢
  simp only [Bool.and_eq_true] at h ⊢
  obtain ⟨⟨h1, h2, h3, h4, h5⟩, h6, h7⟩ := h
  exact ⟨⟨h1, h2, h3, h4, alW_ofF fun j hj => tvs_within ht hX.1 hn hw hj⟩, h6, h7⟩
theorem inB_iffF {x lo hi : Int} : inB x lo hi = true ↔ lo ≤ x ∧ x ≤ hi := by unfold inB; simp
theorem fit_no {tq : Nat → T4} {X Y Z : Int} {n : Nat} {f : Nat → Int} {X' Y' Z' : Int} {n' : Nat} {f' : Nat → Int} {tn x y z : Int} (h : (likB X Y Z n f X' Y' Z' n' f' && (inB tn 0 11 && (inB x (-2) 2 && (inB y (-2) 2 && inB z (-2) 2)))) = false) : fitV tq X Y Z n f X' Y' Z' n' f' tn x y z = -1 := by
  unfold fitV; rw [h]; rfl
theorem fit_yes {tq : Nat → T4} {X Y Z : Int} {n : Nat} {f : Nat → Int} {X' Y' Z' : Int} {n' : Nat} {f' : Nat → Int} {tn x y z : Int} (h : (likB X Y Z n f X' Y' Z' n' f' && (inB tn 0 11 && (inB x (-2) 2 && (inB y (-2) 2 && inB z (-2) 2)))) = true) : fitV tq X Y Z n f X' Y' Z' n' f' tn x y z = cst f (tvs (tgT (tq tn.toNat) X) f' n') X x y z n := by
  unfold fitV; rw [h]; rfl

set_option maxRecDepth 100000 in
set_option maxHeartbeats 4000000 in
theorem implFitCost_any (X Y Z : Int) (a : Option Addr) (n cap : Nat) (f : Nat → Int) (hl : n ≤ 1048576) (X' Y' Z' : Int) (a' : Option Addr) (n' cap' : Nat) (f' : Nat → Int) (hl' : n' ≤ 1048576) (tn x y z : Int) (w : World) (hT : Tbl w) (h : Px a n f w) (h' : Px a' n' f' w) :
    Calls Tryd.prog 16 #[vVolume X Y Z a n cap, vVolume X' Y' Z' a' n' cap', .int .i64 tn, .int .i64 x, .int .i64 y, .int .i64 z] w fun e w' => e = .returned (.int .i64 (fitV tqT X Y Z n f X' Y' Z' n' f' tn x y z)) ∧ Below w.heap.size w w' := by
  have HS0 := hide ((((St.start w).box [.int .i64 X, .int .i64 Y, .int .i64 Z, .slice a n cap] 26).box' [.int .i64 X', .int .i64 Y', .int .i64 Z', .slice a' n' cap'] 26 (b := w.heap.size + 1) (by simp)).box' [.int .i64 x, .int .i64 y, .int .i64 z] 57 (b := w.heap.size + 2) (by simp))
  have HP0 := hide h
  have HQ0 := hide h'
  have HT0 := hide hT
  have cL := fun w' hw hw' => areLikeCubes_any X Y Z a n cap f hl X' Y' Z' a' n' cap' f' hl' w' hw hw'
  have cI := fun w' => within_any tn 0 11 w'
  clear h h' hT
  generalize hA : ((w.alloc (.cells [.int .i64 X, .int .i64 Y, .int .i64 Z, .slice a n cap].toArray 26)).alloc (.cells [.int .i64 X', .int .i64 Y', .int .i64 Z', .slice a' n' cap'].toArray 26)).alloc (.cells [.int .i64 x, .int .i64 y, .int .i64 z].toArray 57) = wA at HS0
  have hA' : ((w.alloc (.cells #[.int .i64 X, .int .i64 Y, .int .i64 Z, .slice a n cap] 26)).alloc (.cells #[.int .i64 X', .int .i64 Y', .int .i64 Z', .slice a' n' cap'] 26)).alloc (.cells #[.int .i64 x, .int .i64 y, .int .i64 z] 57) = wA := hA
  clear hA
  obtain ⟨i0, i1, i2, i3⟩ := HS0.out.im4 2 rfl
  obtain ⟨j0, j1, j2, j3⟩ := HS0.out.im4 1 rfl
  go_enter Tryd.func16, Tryd.ntmps16
  go_wp2_with fail
  refine (cL _ (HP0.out.below HS0.out.below) (HQ0.out.below HS0.out.below)).mono ?_
  rintro e w1 ⟨rfl, hb⟩
  have HS1 := hide (HS0.out.next hb)
  have HE := hide HS1.out.below
  clear hb HS0 cL i0 i1 i2 i3 j0 j1 j2 j3 hA'
  cases hlik : likB X Y Z n f X' Y' Z' n' f'
  · have HV := hide (fit_no (tq := tqT) (tn := tn) (x := x) (y := y) (z := z) (show (likB X Y Z n f X' Y' Z' n' f' && _) = false by rw [hlik]; rfl))
    clear hlik
    go_wp2_with fail
    go_ret
    exact ⟨by rw [HV.out]; rfl, HE.out⟩
  go_wp2_with fail
  refine (cI _).mono ?_
  rintro e w2 ⟨rfl, h1⟩
  obtain rfl := h1.symm
  cases hin : inB tn 0 11
  · have HV := hide (fit_no (tq := tqT) (tn := tn) (x := x) (y := y) (z := z) (show (likB X Y Z n f X' Y' Z' n' f' && (inB tn 0 11 && _)) = false by rw [hlik, hin]; rfl))
    clear hlik hin
    go_wp2_with fail
    go_ret
    exact ⟨by rw [HV.out]; rfl, HE.out⟩
  have hpx : Px (some ⟨w.heap.size + 2, 0, none⟩) 3 (q3F x y z) w1 := .inr ⟨w.heap.size + 2, 0, rfl, fun k hk => by
    match k, hk with
    | 0, _ => exact (HS1.out.im3 0 rfl).1
    | 1, _ => exact (HS1.out.im3 0 rfl).2.1
    | 2, _ => exact (HS1.out.im3 0 rfl).2.2⟩
  have cW := allWithin_any (-2) 2 (some ⟨w.heap.size + 2, 0, none⟩) 3 3 (q3F x y z) (by omega) w1 hpx
  have hal : alW (q3F x y z) (-2) 2 3 = (inB x (-2) 2 && (inB y (-2) 2 && inB z (-2) 2)) := by
    show (((true && inB x (-2) 2) && inB y (-2) 2) && inB z (-2) 2) = _
    cases inB x (-2) 2 <;> cases inB y (-2) 2 <;> cases inB z (-2) 2 <;> rfl
  rw [hal] at cW
  clear hpx hal
  go_wp2_with fail
  refine cW.mono ?_
  rintro e w2 ⟨rfl, h1⟩
  obtain rfl := h1.symm
  cases hsh : (inB x (-2) 2 && (inB y (-2) 2 && inB z (-2) 2))
  · have HV := hide (fit_no (tq := tqT) (tn := tn) (x := x) (y := y) (z := z) (show (likB X Y Z n f X' Y' Z' n' f' && (inB tn 0 11 && (inB x (-2) 2 && (inB y (-2) 2 && inB z (-2) 2)))) = false by rw [hlik, hin, hsh]; rfl))
    clear hlik hin hsh cI cW
    go_wp2_with fail
    go_ret
    exact ⟨by rw [HV.out]; rfl, HE.out⟩
  have HV := fit_yes (tq := tqT) (tn := tn) (x := x) (y := y) (z := z) (show (likB X Y Z n f X' Y' Z' n' f' && (inB tn 0 11 && (inB x (-2) 2 && (inB y (-2) 2 && inB z (-2) 2)))) = true by rw [hlik, hin, hsh]; rfl)
  simp only [Bool.and_eq_true] at hsh
  have hx := inB_iffF.1 hsh.1
  have hy := inB_iffF.1 hsh.2.1
  have hz := inB_iffF.1 hsh.2.2
  have htn := inB_iffF.1 hin
  clear hsh hin cI cW
  obtain ⟨hcA, hcB, hXX, hX6⟩ := lik_parts hlik
  obtain ⟨ea1, ea2, hX, hnX, hn2⟩ := cubB_parts hcA
  obtain ⟨eb1, eb2, -, hnX', -⟩ := cubB_parts hcB
  subst ea1 ea2 hXX eb1 eb2
  obtain rfl : n = n' := by omega
  obtain ⟨T, hTn⟩ : ∃ T : Nat, tn = (T : Int) := ⟨tn.toNat, by omega⟩
  have hT12 : T < 12 := by omega
  have htk := tq_ok T hT12
  have hn1 := cub_posF hcA
  have hfA := cub_in hcA
  have hfB := cub_in (cub_turnF htk hcB)
  obtain ⟨ft, hft⟩ : ∃ ft, ft = tvs (tgT (tqT T) X) f' n := ⟨_, rfl⟩
  rw [← hft] at hfB
  have hTT : tn.toNat = T := by omega
  rw [hTT, ← hft] at HV
  have HVV := hide HV
  subst hTn
  clear HV hTT htn
  have cC := fun a9 c9 w' hw hw' => costOfShift_any X a n cap f a9 c9 ft hX hnX hn2 hfA hfB x y z hx hy hz w' hw hw'
  have cT := fun a9 c9 w' hw => turnI_any X n f' hcB (tbA.getD (T * 4) 0) (tbA.getD (T * 4 + 1) 0) (tbA.getD (T * 4 + 2) 0) (tbA.getD (T * 4 + 3) 0) htk a9 c9 w' hw
  change ∀ a9 c9 w' hw, Calls Tryd.prog _ _ w' (fun e w'' => ∃ b' cp', e = .returned (vVolume X X X (some ⟨b', 0, none⟩) n cp') ∧ Row b' n (tvs (tgT (tqT T) X) f' n) w'' ∧ _) at cT
  rw [← hft] at cT
  clear hft hcA hcB hlik hfA hfB htk hnX hnX' hX hX6 hx hy hz
  have BA : Hid (Bx w.heap.size [.int .i64 X, .int .i64 X, .int .i64 X, .slice a n cap] w1) := fun j v hv => ⟨HS1.out.cell 2 rfl j hv, HS1.out.free 2 rfl j hv⟩
  have BB : Hid (Bx (w.heap.size + 1) [.int .i64 X, .int .i64 X, .int .i64 X, .slice a' n cap'] w1) := fun j v hv => ⟨HS1.out.cell 1 rfl j hv, HS1.out.free 1 rfl j hv⟩
  have BS : Hid (Bx (w.heap.size + 2) [.int .i64 x, .int .i64 y, .int .i64 z] w1) := fun j v hv => ⟨HS1.out.cell 0 rfl j hv, HS1.out.free 0 rfl j hv⟩
  have HP := hide (HP0.out.below HE.out)
  have HQ := hide (HQ0.out.below HE.out)
  have HTB := hide (HT0.out.below HE.out (Nat.le_refl _))
  clear HS1 HP0 HQ0 HT0
  go_upto_region 4 with fail
  have hTi : (T : Int) < 12 := by omega
  have hT0 : (0 : Int) ≤ (T : Int) := by omega
  obtain ⟨G, hG⟩ : ∃ G : Nat → Value → Prop, G = (fun j v => match j, v with | 0, v => v = vVolume X X X a n cap | 1, v => v = vVolume X X X a' n cap' | 2, v => v = .int .i64 (T : Int) | 3, v => v = .pointer (some ⟨0, T * 4, none⟩) | 4, v => v = tv (tbA.getD (T * 4) 0) (tbA.getD (T * 4 + 1) 0) (tbA.getD (T * 4 + 2) 0) (tbA.getD (T * 4 + 3) 0) | 6, v => v = v3v x y z | 7, v => v = .int .i64 (cst f ft X x y z n) | 8, v => v = .int .i64 (cst f ft X x y z n) | _, _ => True) := ⟨_, rfl⟩
  have G0 : Hid (∀ v, G 0 v ↔ v = vVolume X X X a n cap) := fun v => by rw [hG]; exact Iff.rfl
  have G1 : Hid (∀ v, G 1 v ↔ v = vVolume X X X a' n cap') := fun v => by rw [hG]; exact Iff.rfl
  have G2 : Hid (∀ v, G 2 v ↔ v = .int .i64 (T : Int)) := fun v => by rw [hG]; exact Iff.rfl
  have G3 : Hid (∀ v, G 3 v ↔ v = .pointer (some ⟨0, T * 4, none⟩)) := fun v => by rw [hG]; exact Iff.rfl
  have G4 : Hid (∀ v, G 4 v ↔ v = tv (tbA.getD (T * 4) 0) (tbA.getD (T * 4 + 1) 0) (tbA.getD (T * 4 + 2) 0) (tbA.getD (T * 4 + 3) 0)) := fun v => by rw [hG]; exact Iff.rfl
  have G5 : Hid (∀ v, G 5 v) := fun v => by rw [hG]; trivial
  have G6 : Hid (∀ v, G 6 v ↔ v = v3v x y z) := fun v => by rw [hG]; exact Iff.rfl
  have G7 : Hid (∀ v, G 7 v ↔ v = .int .i64 (cst f ft X x y z n)) := fun v => by rw [hG]; exact Iff.rfl
  have G8 : Hid (∀ v, G 8 v ↔ v = .int .i64 (cst f ft X x y z n)) := fun v => by rw [hG]; exact Iff.rfl
  clear hG
  refine region_ops (fun w' => Below w1.heap.size w1 w') (fzF X n G 5 ft) (by kernel_rfl) (by kernel_rfl) (by kernel_rfl) (Below.refl _ _).drew ?_ ?_
  · refine ⟨?_, ?_, ?_, ?_, ?_, ?_, ?_, ?_, ?_, trivial⟩
    · intro u w21 au hau _ hF hp' K hK
      have t6 : au.tmps[6]?.getD undef = .pointer (some ⟨w.heap.size, 0, none⟩) := by rw [hau.out]; kernel_rfl
      have bx := BA.out.below hF BA.out.ltF
      obtain ⟨x0, -⟩ := bx 0 _ rfl
      obtain ⟨x1, -⟩ := bx 1 _ rfl
      obtain ⟨x2, -⟩ := bx 2 _ rfl
      obtain ⟨x3, -⟩ := bx 3 _ rfl
      clear bx
      refine step_plain rfl ?_
      go_simp
      exact hK.out (vVolume X X X a n cap) _ hF (fzF_val 0 (by omega) ((G0.out _).2 rfl)) (fun j hj _ h => fzF_up hn1 (Below.refl _ _) 0 _ j hj h)
    · intro u w21 au hau _ hF hp' K hK
      have t7 : au.tmps[7]?.getD undef = .pointer (some ⟨w.heap.size + 1, 0, none⟩) := by rw [hau.out]; kernel_rfl
      have bx := BB.out.below hF BB.out.ltF
      obtain ⟨x0, -⟩ := bx 0 _ rfl
      obtain ⟨x1, -⟩ := bx 1 _ rfl
      obtain ⟨x2, -⟩ := bx 2 _ rfl
      obtain ⟨x3, -⟩ := bx 3 _ rfl
      clear bx
      refine step_plain rfl ?_
      go_simp
      exact hK.out (vVolume X X X a' n cap') _ hF (fzF_val 1 (by omega) ((G1.out _).2 rfl)) (fun j hj _ h => fzF_up hn1 (Below.refl _ _) 1 _ j hj h)
    · intro u w21 au hau _ hF hp' K hK
      have t2 : au.tmps[2]?.getD undef = .int .i64 (T : Int) := by rw [hau.out]; kernel_rfl
      refine step_plain rfl ?_
      go_simp
      exact hK.out (.int .i64 (T : Int)) _ hF (fzF_val 2 (by omega) ((G2.out _).2 rfl)) (fun j hj _ h => fzF_up hn1 (Below.refl _ _) 2 _ j hj h)
    · intro u w21 au hau _ hF hp' K hK
      have h2 : u 2 = .int .i64 (T : Int) := (G2.out _).1 (PreF.get hp' 2 (by kernel_rfl)).1
      have t34 : au.tmps[34]?.getD undef = u 2 := by rw [hau.out]; kernel_rfl
      rw [h2] at t34
      refine step_plain rfl ?_
      go_simp
      exact hK.out (.pointer (some ⟨0, T * 4, none⟩)) _ hF (fzF_val 3 (by omega) ((G3.out _).2 rfl)) (fun j hj _ h => fzF_up hn1 (Below.refl _ _) 3 _ j hj h)
    · intro u w21 au hau _ hF hp' K hK
      have h3 : u 3 = .pointer (some ⟨0, T * 4, none⟩) := (G3.out _).1 (PreF.get hp' 3 (by kernel_rfl)).1
      have t35 : au.tmps[35]?.getD undef = u 3 := by rw [hau.out]; kernel_rfl
      rw [h3] at t35
      have hTb := HTB.out.below hF (Nat.le_refl _)
      have x0 := hTb (T * 4) (by omega)
      have x1 := hTb (T * 4 + 1) (by omega)
      have x2 := hTb (T * 4 + 2) (by omega)
      have x3 := hTb (T * 4 + 3) (by omega)
      clear hTb
      refine step_plain rfl ?_
      go_simp
      exact hK.out (tv (tbA.getD (T * 4) 0) (tbA.getD (T * 4 + 1) 0) (tbA.getD (T * 4 + 2) 0) (tbA.getD (T * 4 + 3) 0)) _ hF (fzF_val 4 (by omega) ((G4.out _).2 rfl)) (fun j hj _ h => fzF_up hn1 (Below.refl _ _) 4 _ j hj h)
    · intro u w21 au hau _ hF hp' K hK
      have h1 : u 1 = vVolume X X X a' n cap' := (G1.out _).1 (PreF.get hp' 1 (by kernel_rfl)).1
      have t33 : au.tmps[33]?.getD undef = u 1 := by rw [hau.out]; kernel_rfl
      rw [h1] at t33
      have h4 : u 4 = tv (tbA.getD (T * 4) 0) (tbA.getD (T * 4 + 1) 0) (tbA.getD (T * 4 + 2) 0) (tbA.getD (T * 4 + 3) 0) := (G4.out _).1 (PreF.get hp' 4 (by kernel_rfl)).1
      have t36 : au.tmps[36]?.getD undef = u 4 := by rw [hau.out]; kernel_rfl
      rw [h4] at t36
      have c := cT a' cap' w21 (HQ.out.below hF)
      refine step_plain rfl ?_
      go_simp
      refine c.mono ?_
      rintro e w22 ⟨b9, c9, rfl, hr9, hb9⟩
      exact hK.out (vVolume X X X (some ⟨b9, 0, none⟩) n c9) _ (hF.trans (hb9.mono hF.size)) (fzF_vol G5.out hr9) (fun j hj _ h => fzF_up hn1 hb9 5 _ j hj h)
    · intro u w21 au hau _ hF hp' K hK
      have t13 : au.tmps[13]?.getD undef = .pointer (some ⟨w.heap.size + 2, 0, none⟩) := by rw [hau.out]; kernel_rfl
      have bx := BS.out.below hF BS.out.ltF
      obtain ⟨x0, -⟩ := bx 0 _ rfl
      obtain ⟨x1, -⟩ := bx 1 _ rfl
      obtain ⟨x2, -⟩ := bx 2 _ rfl
      clear bx
      refine step_plain rfl ?_
      go_simp
      exact hK.out (v3v x y z) _ hF (fzF_val 6 (by omega) ((G6.out _).2 rfl)) (fun j hj _ h => fzF_up hn1 (Below.refl _ _) 6 _ j hj h)
    · intro u w21 au hau _ hF hp' K hK
      have h0 : u 0 = vVolume X X X a n cap := (G0.out _).1 (PreF.get hp' 0 (by kernel_rfl)).1
      have t32 : au.tmps[32]?.getD undef = u 0 := by rw [hau.out]; kernel_rfl
      rw [h0] at t32
      have h6 : u 6 = v3v x y z := (G6.out _).1 (PreF.get hp' 6 (by kernel_rfl)).1
      have t38 : au.tmps[38]?.getD undef = u 6 := by rw [hau.out]; kernel_rfl
      rw [h6] at t38
      obtain ⟨b8, c8, h5, r8⟩ := (PreF.get hp' 5 (by kernel_rfl)).2 rfl
      have t37 : au.tmps[37]?.getD undef = u 5 := by rw [hau.out]; kernel_rfl
      rw [h5] at t37
      have c := cC (some ⟨b8, 0, none⟩) c8 w21 (HP.out.below hF) r8.px
      refine step_plain rfl ?_
      go_simp
      refine c.mono ?_
      rintro e w22 ⟨rfl, hb9⟩
      exact hK.out (.int .i64 (cst f ft X x y z n)) _ (hF.trans (hb9.mono hF.size)) (fzF_val 7 (by omega) ((G7.out _).2 rfl)) (fun j hj _ h => fzF_up hn1 hb9 7 _ j hj h)
    · intro u w21 au hau _ hF hp' K hK
      have h7 : u 7 = .int .i64 (cst f ft X x y z n) := (G7.out _).1 (PreF.get hp' 7 (by kernel_rfl)).1
      have t39 : au.tmps[39]?.getD undef = u 7 := by rw [hau.out]; kernel_rfl
      rw [h7] at t39
      refine step_plain rfl ?_
      go_simp
      exact hK.out (.int .i64 (cst f ft X x y z n)) _ hF (fzF_val 8 (by omega) ((G8.out _).2 rfl)) (fun j hj _ h => fzF_up hn1 (Below.refl _ _) 8 _ j hj h)
  · intro u w30 hF hall
    have h8 : u 8 = .int .i64 (cst f ft X x y z n) := (G8.out _).1 (hall 8 (by decide)).1
    have HEE := hide (HE.out.trans (hF.mono HE.out.size))
    clear hF hall
    simp only [rgPut, Act.put, h8]
    go_simp
    go_wp2_with fail
    go_ret
    exact ⟨by rw [HVV.out]; rfl, HEE.out⟩

end Go.Proofs.YtkgkdhocmglklaaDoor

namespace Go.Proofs.YtkgkdhocmglklaaDoor
open Go.RowKit

theorem TwR.rowF {w w' : World} {e : Ending} (h : TwR w e w') : ∃ b cp, e = .returned (.slice (some ⟨b, 0, none⟩) 12 cp) ∧ w.heap.size ≤ b ∧ Row b 48 (fun k => tbA.getD k 0) w' ∧ Below w.heap.size w w' := by
  obtain ⟨v, rfl, ho, hb⟩ := h
  have h0 := ho
  obtain ⟨hlen, hv | ⟨b, cp, cur, hv, hg, hcur, _, hm2, _, _⟩⟩ := ho
  · exact absurd hv.2 (by omega)
  · subst hv
    refine ⟨b, cp, rfl, hg, fun k hk => ⟨?_, h0.frozenAt k⟩, hb⟩
    rw [h0.cellAt k (by omega), ints_at _ _ (by rw [ints_length] at hlen; omega)]
theorem tb_i64 (q : Nat) : I64 (tbA.getD q 0) := by
  by_cases h : q < 48
  · have : ∀ q, q < 48 → -9223372036854775808 ≤ tbA.getD q 0 ∧ tbA.getD q 0 ≤ 9223372036854775807 := by decide +kernel
    exact this q h
  · have hl : tbA.length ≤ q := Nat.le_of_not_lt h
    rw [List.getD_eq_getElem?_getD, List.getElem?_eq_none hl]
    unfold I64; decide
/-- what each operation leaves: the turns' list and a place in it besides -/
def fsF (X : Int) (n : Nat) (G : Nat → Value → Prop) (f : Nat → Int) (T : Nat) (j : Nat) (u : Nat → Value) (w : World) : Prop :=
  fzF X n G 6 f j u w ∧ (j = 2 → ∃ b cp, u 2 = .slice (some ⟨b, 0, none⟩) 12 cp ∧ Row b 48 (fun k => tbA.getD k 0) w) ∧ (j = 4 → ∃ b, u 4 = .pointer (some ⟨b, T * 4, none⟩) ∧ Row b 48 (fun k => tbA.getD k 0) w)
theorem fsF_up {X : Int} {n : Nat} {G : Nat → Value → Prop} {f : Nat → Int} {T : Nat} {u : Nat → Value} {w w' : World} (hn : 1 ≤ n) (hb : Below w.heap.size w w') (i : Nat) (v : Value) (j : Nat) (hj : j ≠ i) (h : fsF X n G f T j u w) : fsF X n G f T j (upU u i v) w' := by
  obtain ⟨h1, h2, h3⟩ := h
  refine ⟨fzF_up hn hb i v j hj h1, fun e => ?_, fun e => ?_⟩
  · obtain ⟨b, cp, e', hr⟩ := h2 e
    exact ⟨b, cp, by rw [upU_other u v (by omega)]; exact e', hr.below hb (hr.ltF (by omega))⟩
  · obtain ⟨b, e', hr⟩ := h3 e
    exact ⟨b, by rw [upU_other u v (by omega)]; exact e', hr.below hb (hr.ltF (by omega))⟩
theorem fsF_val {X : Int} {n : Nat} {G : Nat → Value → Prop} {f : Nat → Int} {T : Nat} {u : Nat → Value} {w : World} (j : Nat) (hf : j ≠ 6) (h2 : j ≠ 2) (h4 : j ≠ 4) {v : Value} (h : G j v) : fsF X n G f T j (upU u j v) w :=
  ⟨fzF_val j hf h, fun e => absurd e h2, fun e => absurd e h4⟩

set_option maxRecDepth 100000 in
set_option maxHeartbeats 4000000 in
theorem specFitCost_any (X Y Z : Int) (a : Option Addr) (n cap : Nat) (f : Nat → Int) (hl : n ≤ 1048576) (X' Y' Z' : Int) (a' : Option Addr) (n' cap' : Nat) (f' : Nat → Int) (hl' : n' ≤ 1048576) (tn x y z : Int) (w : World) (h : Px a n f w) (h' : Px a' n' f' w) :
    Calls Tryd.prog 15 #[vVolume X Y Z a n cap, vVolume X' Y' Z' a' n' cap', .int .i64 tn, .int .i64 x, .int .i64 y, .int .i64 z] w fun e w' => e = .returned (.int .i64 (fitV tqT X Y Z n f X' Y' Z' n' f' tn x y z)) ∧ Below w.heap.size w w' := by
  have HS0 := hide (((St.start w).box [.int .i64 X, .int .i64 Y, .int .i64 Z, .slice a n cap] 26).box' [.int .i64 X', .int .i64 Y', .int .i64 Z', .slice a' n' cap'] 26 (b := w.heap.size + 1) (by simp))
  have HP0 := hide h
  have HQ0 := hide h'
  have cL := fun w' hw hw' => l10FitOk_any X Y Z a n cap f hl X' Y' Z' a' n' cap' f' hl' w' hw hw'
  have cI := fun w' => l1In_any tn 0 11 w'
  have cx := fun w' => l1In_any x (-2) 2 w'
  have cy := fun w' => l1In_any y (-2) 2 w'
  have cz := fun w' => l1In_any z (-2) 2 w'
  clear h h'
  obtain ⟨i0, i1, i2, i3⟩ := HS0.out.im4 1 rfl
  obtain ⟨j0, j1, j2, j3⟩ := HS0.out.im4 0 rfl
  go_enter Tryd.func15, Tryd.ntmps15
  go_wp2_with fail
  refine (cL _ (HP0.out.below HS0.out.below) (HQ0.out.below HS0.out.below)).mono ?_
  rintro e w1 ⟨rfl, hb⟩
  have HS1 := hide (HS0.out.next hb)
  have HE := hide HS1.out.below
  clear hb HS0 cL i0 i1 i2 i3 j0 j1 j2 j3
  cases hlik : likB X Y Z n f X' Y' Z' n' f'
  · have HV := hide (fit_no (tq := tqT) (tn := tn) (x := x) (y := y) (z := z) (show (likB X Y Z n f X' Y' Z' n' f' && (inB tn 0 11 && (inB x (-2) 2 && (inB y (-2) 2 && inB z (-2) 2)))) = false by rw [hlik]; rfl))
    clear hlik
    go_wp2_with fail
    go_ret
    exact ⟨by rw [HV.out]; rfl, HE.out⟩
  go_wp2_with fail
  refine (cI _).mono ?_
  rintro e w2 ⟨rfl, h1⟩
  obtain rfl := h1.symm
  cases hin : inB tn 0 11
  · have HV := hide (fit_no (tq := tqT) (tn := tn) (x := x) (y := y) (z := z) (show (likB X Y Z n f X' Y' Z' n' f' && (inB tn 0 11 && (inB x (-2) 2 && (inB y (-2) 2 && inB z (-2) 2)))) = false by rw [hlik, hin]; simp))
    clear hlik hin
    go_wp2_with fail
    go_ret
    exact ⟨by rw [HV.out]; rfl, HE.out⟩
  go_wp2_with fail
  refine (cx _).mono ?_
  rintro e w2 ⟨rfl, h1⟩
  obtain rfl := h1.symm
  cases hix : inB x (-2) 2
  · have HV := hide (fit_no (tq := tqT) (tn := tn) (x := x) (y := y) (z := z) (show (likB X Y Z n f X' Y' Z' n' f' && (inB tn 0 11 && (inB x (-2) 2 && (inB y (-2) 2 && inB z (-2) 2)))) = false by rw [hlik, hin, hix]; simp))
    clear hlik hin hix
    go_wp2_with fail
    go_ret
    exact ⟨by rw [HV.out]; rfl, HE.out⟩
  go_wp2_with fail
  refine (cy _).mono ?_
  rintro e w2 ⟨rfl, h1⟩
  obtain rfl := h1.symm
  cases hiy : inB y (-2) 2
  · have HV := hide (fit_no (tq := tqT) (tn := tn) (x := x) (y := y) (z := z) (show (likB X Y Z n f X' Y' Z' n' f' && (inB tn 0 11 && (inB x (-2) 2 && (inB y (-2) 2 && inB z (-2) 2)))) = false by rw [hlik, hin, hix, hiy]; simp))
    clear hlik hin hix hiy
    go_wp2_with fail
    go_ret
    exact ⟨by rw [HV.out]; rfl, HE.out⟩
  go_wp2_with fail
  refine (cz _).mono ?_
  rintro e w2 ⟨rfl, h1⟩
  obtain rfl := h1.symm
  cases hiz : inB z (-2) 2
  · have HV := hide (fit_no (tq := tqT) (tn := tn) (x := x) (y := y) (z := z) (show (likB X Y Z n f X' Y' Z' n' f' && (inB tn 0 11 && (inB x (-2) 2 && (inB y (-2) 2 && inB z (-2) 2)))) = false by rw [hlik, hin, hix, hiy, hiz]; simp))
    clear hlik hin hix hiy hiz
    go_wp2_with fail
    go_ret
    exact ⟨by rw [HV.out]; rfl, HE.out⟩
  have HV := fit_yes (tq := tqT) (tn := tn) (x := x) (y := y) (z := z) (show (likB X Y Z n f X' Y' Z' n' f' && (inB tn 0 11 && (inB x (-2) 2 && (inB y (-2) 2 && inB z (-2) 2)))) = true by rw [hlik, hin, hix, hiy, hiz]; rfl)
  have hx := inB_iffF.1 hix
  have hy := inB_iffF.1 hiy
  have hz := inB_iffF.1 hiz
  have htn := inB_iffF.1 hin
  clear hin hix hiy hiz cI cx cy cz
  obtain ⟨hcA, hcB, hXX, hX6⟩ := lik_parts hlik
  obtain ⟨ea1, ea2, hX, hnX, hn2⟩ := cubB_parts hcA
  obtain ⟨eb1, eb2, -, hnX', -⟩ := cubB_parts hcB
  subst ea1 ea2 hXX eb1 eb2
  obtain rfl : n = n' := by omega
  obtain ⟨T, hTn⟩ : ∃ T : Nat, tn = (T : Int) := ⟨tn.toNat, by omega⟩
  have hT12 : T < 12 := by omega
  have htk := tq_ok T hT12
  have hn1 := cub_posF hcA
  have hfA := cub_in hcA
  have hfB := cub_in (cub_turnF htk hcB)
  obtain ⟨ft, hft⟩ : ∃ ft, ft = tvs (tgT (tqT T) X) f' n := ⟨_, rfl⟩
  rw [← hft] at hfB
  have hTT : tn.toNat = T := by omega
  rw [hTT, ← hft] at HV
  have HVV := hide HV
  subst hTn
  clear HV hTT htn
  have cC := fun a9 c9 w' hw hw' => l10Cost_any X a n cap f a9 c9 ft hX hnX hn2 hfA hfB x y z hx hy hz w' hw hw'
  have cT := fun a9 c9 w' hw => turnS_any X n f' hcB (tbA.getD (T * 4) 0) (tbA.getD (T * 4 + 1) 0) (tbA.getD (T * 4 + 2) 0) (tbA.getD (T * 4 + 3) 0) (tb_i64 _) (tb_i64 _) (tb_i64 _) (tb_i64 _) htk a9 c9 w' hw
  change ∀ a9 c9 w' hw, Calls Tryd.prog _ _ w' (fun e w'' => ∃ b' cp', e = .returned (vVolume X X X (some ⟨b', 0, none⟩) n cp') ∧ Row b' n (tvs (tgT (tqT T) X) f' n) w'' ∧ _) at cT
  rw [← hft] at cT
  clear hft hcA hcB hlik hfA hfB htk hnX hnX' hX hX6 hx hy hz
  have BA : Hid (Bx w.heap.size [.int .i64 X, .int .i64 X, .int .i64 X, .slice a n cap] w1) := fun j v hv => ⟨HS1.out.cell 1 rfl j hv, HS1.out.free 1 rfl j hv⟩
  have BB : Hid (Bx (w.heap.size + 1) [.int .i64 X, .int .i64 X, .int .i64 X, .slice a' n cap'] w1) := fun j v hv => ⟨HS1.out.cell 0 rfl j hv, HS1.out.free 0 rfl j hv⟩
  have HP := hide (HP0.out.below HE.out)
  have HQ := hide (HQ0.out.below HE.out)
  clear HS1 HP0 HQ0
  go_upto_region 3 with fail
  have hTi : (T : Int) < 12 := by omega
  have hT0 : (0 : Int) ≤ (T : Int) := by omega
  obtain ⟨G, hG⟩ : ∃ G : Nat → Value → Prop, G = (fun j v => match j, v with | 0, v => v = vVolume X X X a n cap | 1, v => v = vVolume X X X a' n cap' | 3, v => v = .int .i64 (T : Int) | 5, v => v = tv (tbA.getD (T * 4) 0) (tbA.getD (T * 4 + 1) 0) (tbA.getD (T * 4 + 2) 0) (tbA.getD (T * 4 + 3) 0) | 7, v => v = .int .i64 x | 8, v => v = .int .i64 y | 9, v => v = .int .i64 z | 10, v => v = .int .i64 (cst f ft X x y z n) | 11, v => v = .int .i64 (cst f ft X x y z n) | _, _ => True) := ⟨_, rfl⟩
  have G0 : Hid (∀ v, G 0 v ↔ v = vVolume X X X a n cap) := fun v => by rw [hG]; exact Iff.rfl
  have G1 : Hid (∀ v, G 1 v ↔ v = vVolume X X X a' n cap') := fun v => by rw [hG]; exact Iff.rfl
  have G2 : Hid (∀ v, G 2 v) := fun v => by rw [hG]; trivial
  have G3 : Hid (∀ v, G 3 v ↔ v = .int .i64 (T : Int)) := fun v => by rw [hG]; exact Iff.rfl
  have G4 : Hid (∀ v, G 4 v) := fun v => by rw [hG]; trivial
  have G5 : Hid (∀ v, G 5 v ↔ v = tv (tbA.getD (T * 4) 0) (tbA.getD (T * 4 + 1) 0) (tbA.getD (T * 4 + 2) 0) (tbA.getD (T * 4 + 3) 0)) := fun v => by rw [hG]; exact Iff.rfl
  have G6 : Hid (∀ v, G 6 v) := fun v => by rw [hG]; trivial
  have G7 : Hid (∀ v, G 7 v ↔ v = .int .i64 x) := fun v => by rw [hG]; exact Iff.rfl
  have G8 : Hid (∀ v, G 8 v ↔ v = .int .i64 y) := fun v => by rw [hG]; exact Iff.rfl
  have G9 : Hid (∀ v, G 9 v ↔ v = .int .i64 z) := fun v => by rw [hG]; exact Iff.rfl
  have G10 : Hid (∀ v, G 10 v ↔ v = .int .i64 (cst f ft X x y z n)) := fun v => by rw [hG]; exact Iff.rfl
  have G11 : Hid (∀ v, G 11 v ↔ v = .int .i64 (cst f ft X x y z n)) := fun v => by rw [hG]; exact Iff.rfl
  clear hG
  refine region_ops (fun w' => Below w1.heap.size w1 w') (fsF X n G ft T) (by kernel_rfl) (by kernel_rfl) (by kernel_rfl) (Below.refl _ _).drew ?_ ?_
  · refine ⟨?_, ?_, ?_, ?_, ?_, ?_, ?_, ?_, ?_, ?_, ?_, ?_, trivial⟩
    · intro u w21 au hau _ hF hp' K hK
      have t6 : au.tmps[6]?.getD undef = .pointer (some ⟨w.heap.size, 0, none⟩) := by rw [hau.out]; kernel_rfl
      have bx := BA.out.below hF BA.out.ltF
      obtain ⟨x0, -⟩ := bx 0 _ rfl
      obtain ⟨x1, -⟩ := bx 1 _ rfl
      obtain ⟨x2, -⟩ := bx 2 _ rfl
      obtain ⟨x3, -⟩ := bx 3 _ rfl
      clear bx
      refine step_plain rfl ?_
      go_simp
      exact hK.out (vVolume X X X a n cap) _ hF (fsF_val 0 (by omega) (by omega) (by omega) ((G0.out _).2 rfl)) (fun j hj _ h => fsF_up hn1 (Below.refl _ _) 0 _ j hj h)
    · intro u w21 au hau _ hF hp' K hK
      have t7 : au.tmps[7]?.getD undef = .pointer (some ⟨w.heap.size + 1, 0, none⟩) := by rw [hau.out]; kernel_rfl
      have bx := BB.out.below hF BB.out.ltF
      obtain ⟨x0, -⟩ := bx 0 _ rfl
      obtain ⟨x1, -⟩ := bx 1 _ rfl
      obtain ⟨x2, -⟩ := bx 2 _ rfl
      obtain ⟨x3, -⟩ := bx 3 _ rfl
      clear bx
      refine step_plain rfl ?_
      go_simp
      exact hK.out (vVolume X X X a' n cap') _ hF (fsF_val 1 (by omega) (by omega) (by omega) ((G1.out _).2 rfl)) (fun j hj _ h => fsF_up hn1 (Below.refl _ _) 1 _ j hj h)
    · intro u w21 au hau _ hF hp' K hK
      have c := (specTurns_any w21).mono (fun e u hu => hu.rowF)
      refine step_plain rfl ?_
      go_simp
      refine c.mono ?_
      rintro e w22 ⟨b9, c9, rfl, hB9, hr9, hb9⟩
      exact hK.out (.slice (some ⟨b9, 0, none⟩) 12 c9) _ (hF.trans (hb9.mono hF.size)) ⟨⟨G2.out _, fun e => by omega⟩, fun _ => ⟨b9, c9, upU_same _ _ _, hr9⟩, fun e => by omega⟩ (fun j hj _ h => fsF_up hn1 hb9 2 _ j hj h)
    · intro u w21 au hau _ hF hp' K hK
      have t2 : au.tmps[2]?.getD undef = .int .i64 (T : Int) := by rw [hau.out]; kernel_rfl
      refine step_plain rfl ?_
      go_simp
      exact hK.out (.int .i64 (T : Int)) _ hF (fsF_val 3 (by omega) (by omega) (by omega) ((G3.out _).2 rfl)) (fun j hj _ h => fsF_up hn1 (Below.refl _ _) 3 _ j hj h)
    · intro u w21 au hau _ hF hp' K hK
      obtain ⟨b8, c8, h2, r8⟩ := (PreF.get hp' 2 (by kernel_rfl)).2.1 rfl
      have t39 : au.tmps[39]?.getD undef = u 2 := by rw [hau.out]; kernel_rfl
      rw [h2] at t39
      have h3 : u 3 = .int .i64 (T : Int) := (G3.out _).1 (PreF.get hp' 3 (by kernel_rfl)).1.1
      have t40 : au.tmps[40]?.getD undef = u 3 := by rw [hau.out]; kernel_rfl
      rw [h3] at t40
      have R8 := hide r8
      clear r8
      refine step_plain rfl ?_
      go_simp
      exact hK.out (.pointer (some ⟨b8, T * 4, none⟩)) _ hF ⟨⟨G4.out _, fun e => by omega⟩, fun e => by omega, fun _ => ⟨b8, upU_same _ _ _, R8.out⟩⟩ (fun j hj _ h => fsF_up hn1 (Below.refl _ _) 4 _ j hj h)
    · intro u w21 au hau _ hF hp' K hK
      obtain ⟨b8, h4, r8⟩ := (PreF.get hp' 4 (by kernel_rfl)).2.2 rfl
      have t41 : au.tmps[41]?.getD undef = u 4 := by rw [hau.out]; kernel_rfl
      rw [h4] at t41
      have x0 := (r8 (T * 4) (by omega)).1
      have x1 := (r8 (T * 4 + 1) (by omega)).1
      have x2 := (r8 (T * 4 + 2) (by omega)).1
      have x3 := (r8 (T * 4 + 3) (by omega)).1
      clear r8
      refine step_plain rfl ?_
      go_simp
      exact hK.out (tv (tbA.getD (T * 4) 0) (tbA.getD (T * 4 + 1) 0) (tbA.getD (T * 4 + 2) 0) (tbA.getD (T * 4 + 3) 0)) _ hF (fsF_val 5 (by omega) (by omega) (by omega) ((G5.out _).2 rfl)) (fun j hj _ h => fsF_up hn1 (Below.refl _ _) 5 _ j hj h)
    · intro u w21 au hau _ hF hp' K hK
      have h1 : u 1 = vVolume X X X a' n cap' := (G1.out _).1 (PreF.get hp' 1 (by kernel_rfl)).1.1
      have t38 : au.tmps[38]?.getD undef = u 1 := by rw [hau.out]; kernel_rfl
      rw [h1] at t38
      have h5 : u 5 = tv (tbA.getD (T * 4) 0) (tbA.getD (T * 4 + 1) 0) (tbA.getD (T * 4 + 2) 0) (tbA.getD (T * 4 + 3) 0) := (G5.out _).1 (PreF.get hp' 5 (by kernel_rfl)).1.1
      have t42 : au.tmps[42]?.getD undef = u 5 := by rw [hau.out]; kernel_rfl
      rw [h5] at t42
      have c := cT a' cap' w21 (HQ.out.below hF)
      refine step_plain rfl ?_
      go_simp
      refine c.mono ?_
      rintro e w22 ⟨b9, c9, rfl, hr9, hb9⟩
      exact hK.out (vVolume X X X (some ⟨b9, 0, none⟩) n c9) _ (hF.trans (hb9.mono hF.size)) ⟨fzF_vol G6.out hr9, fun e => by omega, fun e => by omega⟩ (fun j hj _ h => fsF_up hn1 hb9 6 _ j hj h)
    · intro u w21 au hau _ hF hp' K hK
      have t3 : au.tmps[3]?.getD undef = .int .i64 x := by rw [hau.out]; kernel_rfl
      refine step_plain rfl ?_
      go_simp
      exact hK.out (.int .i64 x) _ hF (fsF_val 7 (by omega) (by omega) (by omega) ((G7.out _).2 rfl)) (fun j hj _ h => fsF_up hn1 (Below.refl _ _) 7 _ j hj h)
    · intro u w21 au hau _ hF hp' K hK
      have t4 : au.tmps[4]?.getD undef = .int .i64 y := by rw [hau.out]; kernel_rfl
      refine step_plain rfl ?_
      go_simp
      exact hK.out (.int .i64 y) _ hF (fsF_val 8 (by omega) (by omega) (by omega) ((G8.out _).2 rfl)) (fun j hj _ h => fsF_up hn1 (Below.refl _ _) 8 _ j hj h)
    · intro u w21 au hau _ hF hp' K hK
      have t5 : au.tmps[5]?.getD undef = .int .i64 z := by rw [hau.out]; kernel_rfl
      refine step_plain rfl ?_
      go_simp
      exact hK.out (.int .i64 z) _ hF (fsF_val 9 (by omega) (by omega) (by omega) ((G9.out _).2 rfl)) (fun j hj _ h => fsF_up hn1 (Below.refl _ _) 9 _ j hj h)
    · intro u w21 au hau _ hF hp' K hK
      have h0 : u 0 = vVolume X X X a n cap := (G0.out _).1 (PreF.get hp' 0 (by kernel_rfl)).1.1
      have t37 : au.tmps[37]?.getD undef = u 0 := by rw [hau.out]; kernel_rfl
      rw [h0] at t37
      have h7 : u 7 = .int .i64 x := (G7.out _).1 (PreF.get hp' 7 (by kernel_rfl)).1.1
      have t44 : au.tmps[44]?.getD undef = u 7 := by rw [hau.out]; kernel_rfl
      rw [h7] at t44
      have h8 : u 8 = .int .i64 y := (G8.out _).1 (PreF.get hp' 8 (by kernel_rfl)).1.1
      have t45 : au.tmps[45]?.getD undef = u 8 := by rw [hau.out]; kernel_rfl
      rw [h8] at t45
      have h9 : u 9 = .int .i64 z := (G9.out _).1 (PreF.get hp' 9 (by kernel_rfl)).1.1
      have t46 : au.tmps[46]?.getD undef = u 9 := by rw [hau.out]; kernel_rfl
      rw [h9] at t46
      obtain ⟨b8, c8, h6, r8⟩ := (PreF.get hp' 6 (by kernel_rfl)).1.2 rfl
      have t43 : au.tmps[43]?.getD undef = u 6 := by rw [hau.out]; kernel_rfl
      rw [h6] at t43
      have c := cC (some ⟨b8, 0, none⟩) c8 w21 (HP.out.below hF) r8.px
      refine step_plain rfl ?_
      go_simp
      refine c.mono ?_
      rintro e w22 ⟨rfl, hb9⟩
      exact hK.out (.int .i64 (cst f ft X x y z n)) _ (hF.trans (hb9.mono hF.size)) (fsF_val 10 (by omega) (by omega) (by omega) ((G10.out _).2 rfl)) (fun j hj _ h => fsF_up hn1 hb9 10 _ j hj h)
    · intro u w21 au hau _ hF hp' K hK
      have h10 : u 10 = .int .i64 (cst f ft X x y z n) := (G10.out _).1 (PreF.get hp' 10 (by kernel_rfl)).1.1
      have t47 : au.tmps[47]?.getD undef = u 10 := by rw [hau.out]; kernel_rfl
      rw [h10] at t47
      refine step_plain rfl ?_
      go_simp
      exact hK.out (.int .i64 (cst f ft X x y z n)) _ hF (fsF_val 11 (by omega) (by omega) (by omega) ((G11.out _).2 rfl)) (fun j hj _ h => fsF_up hn1 (Below.refl _ _) 11 _ j hj h)
  · intro u w30 hF hall
    have h8 : u 11 = .int .i64 (cst f ft X x y z n) := (G11.out _).1 (hall 11 (by decide)).1.1
    have HEE := hide (HE.out.trans (hF.mono HE.out.size))
    clear hF hall
    simp only [rgPut, Act.put, h8]
    go_simp
    go_wp2_with fail
    go_ret
    exact ⟨by rw [HVV.out]; rfl, HEE.out⟩

end Go.Proofs.YtkgkdhocmglklaaDoor

namespace Go.Proofs.YtkgkdhocmglklaaDoor
open Go.RowKit

/-- what a shift of a turn costs -/
def mtC (f f' : Nat → Int) (X : Int) (n T : Nat) (x y z : Int) : Int := cst f (tvs (tgT (tqT T) X) f' n) X x y z n
/-- the best fit -/
def matV (X Y Z : Int) (n : Nat) (f : Nat → Int) (X' Y' Z' : Int) (n' : Nat) (f' : Nat → Int) (r : Int) : FT :=
  if (likB X Y Z n f X' Y' Z' n' f' && inB r 0 2) = true then bt (mtC f f' X n) r (2 * r + 1).toNat 12 else .no
theorem mat_no {X Y Z : Int} {n : Nat} {f : Nat → Int} {X' Y' Z' : Int} {n' : Nat} {f' : Nat → Int} {r : Int} (h : (likB X Y Z n f X' Y' Z' n' f' && inB r 0 2) = false) : matV X Y Z n f X' Y' Z' n' f' r = .no := by
  unfold matV; rw [h]; rfl
theorem mat_yes {X Y Z : Int} {n : Nat} {f : Nat → Int} {X' Y' Z' : Int} {n' : Nat} {f' : Nat → Int} {r : Int} (h : (likB X Y Z n f X' Y' Z' n' f' && inB r 0 2) = true) : matV X Y Z n f X' Y' Z' n' f' r = bt (mtC f f' X n) r (2 * r + 1).toNat 12 := by
  unfold matV; rw [h]; rfl
theorem turnS9_any (X : Int) (n : Nat) (f : Nat → Int) (h : cubB X X X n f = true) (t0 t1 t2 t3 : Int) (i0 : I64 t0) (i1 : I64 t1) (i2 : I64 t2) (i3 : I64 t3) (ht : tkT (t0, t1, t2, t3) = true) (a : Option Addr) (cp : Nat) (w : World) (hr : Px a n f w) :
    Calls Tryd.prog 7 #[vVolume X X X a n cp, tv t0 t1 t2 t3] w fun e w' => ∃ b' cp', e = .returned (vVolume X X X (some ⟨b', 0, none⟩) n cp') ∧ w.heap.size ≤ b' ∧ Row b' n (tvs (tgT (t0, t1, t2, t3) X) f n) w' ∧ Below w.heap.size w w' := by
  obtain ⟨-, -, hX, hn, hn2⟩ := cubB_parts h
  have h1 := cub_posF h
  have hB : tvB X X X n f t0 t1 t2 t3 = true := by
    unfold tvB
    rw [h]
    exact ht
  have hN : tvN X X X n f t0 t1 t2 t3 = n := by unfold tvN; rw [if_pos hB]
  have hX' : tvX X X X n f t0 t1 t2 t3 = X := by unfold tvX; rw [if_pos hB]
  refine (specTurnVolume_any X X X a n cp f (by omega) t0 t1 t2 t3 i0 i1 i2 i3 w hr).mono ?_
  rw [hN, hX']
  rintro e w' ⟨a', cp', b', rfl, ho, hB', hb⟩
  rcases ho with ho | ⟨rfl, hr'⟩
  · omega
  · exact ⟨b', cp', rfl, hB'.resolve_left (by omega), hr', hb⟩

/-- five cells of a box are written -/
abbrev set5 (w : World) (b : Nat) (x0 x1 x2 x3 x4 : Value) : World := ((((w.setCell ⟨b, 0, none⟩ x0).setCell ⟨b, 1, none⟩ x1).setCell ⟨b, 2, none⟩ x2).setCell ⟨b, 3, none⟩ x3).setCell ⟨b, 4, none⟩ x4
theorem Bx.far5 {b c : Nat} {vs : List Value} {w : World} (h : Bx b vs w) (hq : c ≠ b) (x0 x1 x2 x3 x4 : Value) : Bx b vs (set5 w c x0 x1 x2 x3 x4) := by
  have far : ∀ {w : World} {k : Nat} {v : Value}, Bx b vs w → Bx b vs (w.setCell ⟨c, k, none⟩ v) := fun {w k v} h j u hu => by
    have := h j u hu
    refine ⟨?_, by simpa using this.2⟩
    rw [World.cell?_setCell_other _ _ _ _ (by intro e; exact hq (congrArg Addr.block e))]
    exact this.1
  exact far (far (far (far (far h))))
theorem Row.far5 {b n c : Nat} {f : Nat → Int} {w : World} (h : Row b n f w) (hc : c ≠ b) (x0 x1 x2 x3 x4 : Value) : Row b n f (set5 w c x0 x1 x2 x3 x4) := ((((h.set hc _).set hc _).set hc _).set hc _).set hc _

end Go.Proofs.YtkgkdhocmglklaaDoor

/- Brightest, the program's loops. -/
import Derived.Test.YtpbeogepgjbacaaBrn
import Derived.Test.YtpbeogepgjbacaaHom
import Derived.Test.YtpbeogepgjbacaaKps
import Derived.Lib.MinMax
namespace Go.Proofs.Ytpbeogepgjbacaa
open Go.RowKit

theorem mul3 {a b : Nat} (ha : a ≤ 32) (hb : b ≤ 1024) : a * b ≤ 32768 := Nat.le_trans (Nat.mul_le_mul ha hb) (Nat.le_refl _)
theorem brF_at (f : Nat → Int) (L sl sa sd : Nat) {A r c : Nat} (hc : c < A) : brF f L sl A sa sd (r * A + c) = mxF f sl (r * sd + c * sa) L := by
  have e1 : (r * A + c) / A = r := by rw [Nat.add_comm, Nat.add_mul_div_right _ _ (by omega), Nat.div_eq_of_lt hc, Nat.zero_add]
  have e2 : (r * A + c) % A = c := by rw [Nat.add_comm, Nat.add_mul_mod_self_right, Nat.mod_eq_of_lt hc]
  unfold brF
  rw [e1, e2]
/-- what lies below B stays -/
theorem St.nextB {w0 : World} {L : List BoxT} {O : List OwnT} {w w' : World} (h : St w0 L O w) {B : Nat} (hB : ∀ b ∈ blocks L O, b < B) (h0 : w0.heap.size ≤ B) (hb : Below B w w') : St w0 L O w' := by
  refine ⟨h.below.trans (hb.mono h0), fun x hx => (h.bx x hx).below hb (hB _ (mem_blocks_box hx)), fun x hx => ?_, fun b hb' => ⟨(h.lt b hb').1, Nat.lt_of_lt_of_le (h.lt b hb').2 hb.size⟩, h.nd⟩
  rcases h.ow x hx with h1 | ⟨h1, h2⟩
  · exact .inl h1
  · by_cases h3 : x.2.2.1 = 0
    · exact .inl h3
    · exact .inr ⟨h1, h2.below hb (hB _ (mem_blocks_own hx h3))⟩
/-- the boxes -/
def brL (B L A D sl sa sd : Nat) (v : Value) : List BoxT :=
  [(B + 4, [.int .i64 A, .int .i64 D, v]), (B + 3, [.int .i64 0, .int .i64 0, .slice none 0 0]), (B + 2, [.int .i64 D, .int .i64 sd]), (B + 1, [.int .i64 A, .int .i64 sa]), (B, [.int .i64 L, .int .i64 sl])]

set_option maxRecDepth 100000 in
set_option maxHeartbeats 4000000 in
theorem along_any (ba off n cap : Nat) (f : Nat → Int) (L A D sl sa sd : Nat) (hL : L ≤ 32) (hA : A ≤ 32) (hD : D ≤ 32) (h1 : sl ≤ 1024) (h2 : sa ≤ 1024) (h3 : sd ≤ 1024)
    (hin : ∀ r c d, r < D → c < A → d < L → r * sd + c * sa + d * sl < n) (w : World) (h : Px (some ⟨ba, off, none⟩) n f w) :
    Calls Try.prog 39 #[.slice (some ⟨ba, off, none⟩) n cap, .agg #[.int .i64 L, .int .i64 sl], .agg #[.int .i64 A, .int .i64 sa], .agg #[.int .i64 D, .int .i64 sd]] w (ImR A D (D * A) (brF f L sl A sa sd) w) := by
  have HS4 := hide (((((St.start w).box [.int .i64 L, .int .i64 sl] 68).box' [.int .i64 A, .int .i64 sa] 68 (b := w.heap.size + 1) (by simp)).box' [.int .i64 D, .int .i64 sd] 68 (b := w.heap.size + 2) (by simp)).box' [.int .i64 0, .int .i64 0, .slice none 0 0] 40 (b := w.heap.size + 3) (by simp))
  have HS5 := hide (HS4.out.box' [.int .i64 0, .int .i64 0, .slice none 0 0] 40 (b := w.heap.size + 4) (by simp))
  have HZ0 := hide (HS4.out.box' [.int .i64 A, .int .i64 D, .slice none 0 0] 40 (b := w.heap.size + 4) (by simp))
  have HP := hide h
  have HIN := hide hin
  have c10 := HS4.out.cell 3 rfl 0 rfl
  have c20 := HS4.out.cell 2 rfl 0 rfl
  have c30 := HS4.out.cell 1 rfl 0 rfl
  obtain ⟨f0, f1, f2⟩ := HS5.out.fr3 0 rfl
  have d30 := HZ0.out.cell 2 rfl 0 rfl
  clear h hin
  go_enter Try.func39, Try.ntmps39
  go_wp2_with fail
  have HBL : Hid (∀ v, ∀ b ∈ blocks (brL w.heap.size L A D sl sa sd v) [], b < w.heap.size + 5) := fun v b hb => by
    simp [blocks, brL] at hb
    omega
  have HB0 : Hid (w.heap.size + 5 ≤ (World.heap (((((w.alloc (.cells #[.int .i64 L, .int .i64 sl] 68)).alloc (.cells #[.int .i64 A, .int .i64 sa] 68)).alloc (.cells #[.int .i64 D, .int .i64 sd] 68)).alloc (.cells #[.int .i64 0, .int .i64 0, .slice none 0 0] 40)).alloc (.cells #[.int .i64 A, .int .i64 D, .slice none 0 0] 40))).size) := by show _ ≤ _; simp
  have HST0 : Hid (St w (brL w.heap.size L A D sl sa sd (.slice none 0 0)) [] (((((w.alloc (.cells #[.int .i64 L, .int .i64 sl] 68)).alloc (.cells #[.int .i64 A, .int .i64 sa] 68)).alloc (.cells #[.int .i64 D, .int .i64 sd] 68)).alloc (.cells #[.int .i64 0, .int .i64 0, .slice none 0 0] 40)).alloc (.cells #[.int .i64 A, .int .i64 D, .slice none 0 0] 40))) := HZ0.out
  clear HS4 HS5 HZ0 c10 c20 c30 f0 f1 f2 d30
  generalize ((((w.alloc (.cells #[.int .i64 L, .int .i64 sl] 68)).alloc (.cells #[.int .i64 A, .int .i64 sa] 68)).alloc (.cells #[.int .i64 D, .int .i64 sd] 68)).alloc (.cells #[.int .i64 0, .int .i64 0, .slice none 0 0] 40)).alloc (.cells #[.int .i64 A, .int .i64 D, .slice none 0 0] 40) = w5 at *
  go_loopw [21] (fun i wr => ∃ (r : Nat) (v : Value), r ≤ D ∧ i = .int .i64 r ∧ wr.ownsRow (w.heap.size + 5) 2 1 v (r * A) (ints (fl (brF f L sl A sa sd) (r * A))) ∧ w.heap.size + 5 ≤ wr.heap.size ∧ St w (brL w.heap.size L A D sl sa sd v) [] wr) (fun i _ => D - (intOf i).toNat)
  case atStart => exact ⟨0, _, Nat.zero_le _, rfl, by rw [Nat.zero_mul]; exact World.ownsRow_nil _ _ _ _, HB0.out, HST0.out⟩
  case round =>
    obtain ⟨r, v, hr, rfl, ho, hB, hst⟩ := hrel
    obtain ⟨wo, hwo⟩ : ∃ wo, wo = wr := ⟨_, rfl⟩
    subst hwo
    clear HB0 HST0
    have HST := hide hst
    have HO := hide ho
    have HB := hide hB
    clear hst ho hB
    by_cases hlt : r < D
    · have c20 := HST.out.cell 3 rfl 0 rfl
      go_wp2_with fail
      clear c20
      go_loopw [26] (fun i wr => ∃ (c : Nat) (v : Value), c ≤ A ∧ i = .int .i64 c ∧ wr.ownsRow (w.heap.size + 5) 2 1 v (r * A + c) (ints (fl (brF f L sl A sa sd) (r * A + c))) ∧ w.heap.size + 5 ≤ wr.heap.size ∧ St w (brL w.heap.size L A D sl sa sd v) [] wr) (fun i _ => A - (intOf i).toNat)
      case atStart => exact ⟨0, v, Nat.zero_le _, rfl, HO.out, HB.out, HST.out⟩
      case round =>
        obtain ⟨c, v', hc, rfl, ho, hB, hst⟩ := hrel
        obtain ⟨wp, hwp⟩ : ∃ wp, wp = wr := ⟨_, rfl⟩
        subst hwp
        clear HB HST HO
        have HST := hide hst
        have HO := hide ho
        have HB := hide hB
        clear hst ho hB
        by_cases hlc : c < A
        · have hin := fun d hd => HIN.out r c d hlt hlc hd
          have m1 := mul3 (show r ≤ 32 by omega) h3
          have m2 := mul3 (show c ≤ 32 by omega) h2
          have m3 := mul3 (show r ≤ 32 by omega) (show A ≤ 1024 by omega)
          have hZq := brF_at f L sl sa sd (r := r) hlc
          obtain ⟨P, hP⟩ : ∃ P, P = r * sd := ⟨_, rfl⟩
          obtain ⟨Q, hQ⟩ : ∃ Q, Q = c * sa := ⟨_, rfl⟩
          obtain ⟨S, hS⟩ : ∃ S, S = P + Q := ⟨_, rfl⟩
          have wP : IntKind.i64.wrap ((r : Int) * (sd : Int)) = (P : Int) := by rw [IntKind.wrap_i64, ← Int.natCast_mul, ← hP]; omega
          have wQ : IntKind.i64.wrap ((c : Int) * (sa : Int)) = (Q : Int) := by rw [IntKind.wrap_i64, ← Int.natCast_mul, ← hQ]; omega
          have wS : IntKind.i64.wrap ((P : Int) + (Q : Int)) = (S : Int) := by rw [IntKind.wrap_i64]; omega
          rw [← hP, ← hQ, ← hS] at hZq hin
          rw [← hP] at m1
          rw [← hQ] at m2
          have c10 := HST.out.cell 4 rfl 0 rfl
          have c11 := HST.out.cell 4 rfl 1 rfl
          have c21 := HST.out.cell 3 rfl 1 rfl
          have c31 := HST.out.cell 2 rfl 1 rfl
          have hSb : S ≤ 65536 := by omega
          have HZ := hide hZq
          have HI := hide hin
          have HM := hide m3
          clear hP hQ hS m1 m2 m3 hZq hin
          go_wp2_with fail
          go_loopw [12, 31] (fun m i wr => ∃ d : Nat, d ≤ L ∧ i = .int .i64 d ∧ m = .int .i64 (mxF f sl S d) ∧ wr = wp) (fun _ i _ => L - (intOf i).toNat)
          case atStart => exact ⟨0, Nat.zero_le _, rfl, rfl, rfl⟩
          case round =>
            obtain ⟨d, hd, rfl, rfl, rfl⟩ := hrel
            by_cases hld : d < L
            · have hE := HI.out d hld
              have m4 := mul3 (show d ≤ 32 by omega) h1
              have HX : Hid (max (mxF f sl S d) (f (S + d * sl)) = mxF f sl S (d + 1)) := rfl
              obtain ⟨T, hT⟩ : ∃ T, T = d * sl := ⟨_, rfl⟩
              rw [← hT] at hE m4 HX
              have wT : IntKind.i64.wrap ((d : Int) * (sl : Int)) = (T : Int) := by rw [IntKind.wrap_i64, ← Int.natCast_mul, ← hT]; omega
              obtain ⟨E, hEq⟩ : ∃ E, E = S + T := ⟨_, rfl⟩
              have wE : IntKind.i64.wrap ((S : Int) + (T : Int)) = (E : Int) := by rw [IntKind.wrap_i64]; omega
              rw [← hEq] at hE HX
              obtain ⟨ba', off', e', hz⟩ := (HP.out.below HST.out.below).at hE
              injection e' with e'
              injection e' with e1 e2 _
              subst e1 e2
              obtain ⟨M, hM⟩ : ∃ M, M = mxF f sl S d := ⟨_, rfl⟩
              obtain ⟨Y, hY⟩ : ∃ Y, Y = mxF f sl S (d + 1) := ⟨_, rfl⟩
              rw [← hM, ← hY] at HX
              rw [← hM]
              have HY := hide hY
              have hXX : max M (f E) = Y := HX.out
              clear hT hEq m4 hM hY HX
              generalize f E = X at *
              go_wp2_with fail
              exact ⟨⟨d + 1, by omega, rfl, by rw [← HY.out], trivial⟩, by simp [intOf]; omega⟩
            · obtain rfl : d = L := by omega
              clear HI c10 c11 c21 c31 wP wQ wS
              obtain ⟨Z, hZ⟩ : ∃ Z, Z = mxF f sl S d := ⟨_, rfl⟩
              have HZ2 : Hid (Z = brF f d sl A sa sd (r * A + c)) := by show _ = _; rw [hZ, HZ.out]
              rw [← hZ]
              clear HZ hZ
              have HL : Hid (r * A + c ≤ 1048576) := by
                have := HM.out
                show _ ≤ _
                omega
              obtain ⟨z0, z1, z2⟩ := HST.out.im3 0 rfl
              go_wp2_with (refine grow1 _ rfl _ _ rfl (w.heap.size + 5) _ (r * A + c) (brF f d sl A sa sd) rfl wr HO.out (Below.refl _ _) HB.out Z HZ2.out rfl HL.out ?_)
              intro v2 wb ho' hb' hs'
              obtain ⟨a2, c2, b2, rfl, -, -⟩ := ow_fl ho'
              have hBb := Nat.le_trans HB.out (Nat.le_of_lt hs')
              have HSb := hide (HST.out.nextB (HBL.out _) (by omega) hb')
              obtain ⟨f0, f1, f2⟩ := HSb.out.fr3 0 rfl
              obtain ⟨y0, y1, y2⟩ := HSb.out.im3 0 rfl
              have hk := (Kept.refl (w.heap.size + 4) wb).setCell (a := ⟨w.heap.size + 4, 2, none⟩) rfl (.slice a2 (r * A + c + 1 : Nat) c2)
              have HO2 := hide (owns_same ho' (w' := wb.setCell ⟨w.heap.size + 4, 2, none⟩ (.slice a2 (r * A + c + 1 : Nat) c2)) (fun b hb => hk.block b (ho'.lt b hb).2 (fun e => by have := (ho'.lt b hb).1; omega)))
              have HB2 := hide (Nat.le_trans hBb hk.size)
              have HS2 : Hid (St w (brL w.heap.size d A D sl sa sd (.slice a2 (r * A + c + 1 : Nat) c2)) [] (wb.setCell ⟨w.heap.size + 4, 2, none⟩ (.slice a2 (r * A + c + 1 : Nat) c2))) := HSb.out.fill (L1 := []) 2 (.slice a2 (r * A + c + 1 : Nat) c2)
              clear HST HO HB HZ2 HL z0 z1 z2 ho' hb' hs' hBb HSb hk y0 y1 f0 f1
              go_wp2_with fail
              exact ⟨⟨c + 1, _, by omega, rfl, HO2.out, HB2.out, HS2.out⟩, by simp [intOf]; omega⟩
        · obtain rfl : c = A := by omega
          go_wp2_with fail
          exact ⟨⟨r + 1, _, by omega, rfl, by rw [Nat.add_mul, Nat.one_mul]; exact HO.out, HB.out, HST.out⟩, by simp [intOf]; omega⟩
    · obtain rfl : r = D := by omega
      obtain ⟨a1, c1, b1, rfl, ow1, hb1⟩ := ow_fl HO.out
      obtain ⟨z0, z1, z2⟩ := HST.out.im3 0 rfl
      obtain ⟨o0, o1, o2⟩ := HST.out.im3 1 rfl
      obtain ⟨f0, f1, f2⟩ := HST.out.fr3 1 rfl
      have HW := hide ow1
      have HZ := hide (St.fill3' (L1 := [_]) HST.out (.int .i64 A) (.int .i64 r) (.slice a1 (r * A : Nat) c1))
      have hkz : Kept (w.heap.size + 3) wo (((wo.setCell ⟨w.heap.size + 3, 0, none⟩ (.int .i64 A)).setCell ⟨w.heap.size + 3, 1, none⟩ (.int .i64 r)).setCell ⟨w.heap.size + 3, 2, none⟩ (.slice a1 (r * A : Nat) c1)) := (((Kept.refl (w.heap.size + 3) wo).setCell (a := ⟨w.heap.size + 3, 0, none⟩) rfl (.int .i64 A)).setCell (a := ⟨w.heap.size + 3, 1, none⟩) rfl (.int .i64 r)).setCell (a := ⟨w.heap.size + 3, 2, none⟩) rfl (.slice a1 (r * A : Nat) c1)
      obtain ⟨wz, hz⟩ : ∃ wz, ((wo.setCell ⟨w.heap.size + 3, 0, none⟩ (.int .i64 A)).setCell ⟨w.heap.size + 3, 1, none⟩ (.int .i64 r)).setCell ⟨w.heap.size + 3, 2, none⟩ (.slice a1 (r * A : Nat) c1) = wz := ⟨_, rfl⟩
      rw [hz] at HZ hkz
      obtain ⟨y0, y1, y2⟩ := HZ.out.im3 1 rfl
      have HB3 := hide HZ.out.below
      have HOW : Hid (r * A = 0 ∨ (Ow a1 b1 (r * A) (brF f L sl A sa sd) wz ∧ w.heap.size ≤ b1)) := by
        rcases hb1 with h0 | h0
        · exact .inl h0
        · exact .inr ⟨ow1.kept hkz (by omega), by omega⟩
      clear HST HO HB HZ hkz ow1 HW hb1
      go_wp2_with fail
      refine bodyPost_ret (v := im A r a1 (r * A : Nat) c1) (by simp [results, Try.results39, go_sem, y0, y1, y2]) rfl ?_
      rcases HOW.out with h0 | ⟨h0, h2⟩
      · exact ⟨a1, c1, b1, rfl, .inl h0, .inl h0, HB3.out⟩
      · exact ⟨a1, c1, b1, rfl, h0, .inr h2, HB3.out⟩

end Go.Proofs.Ytpbeogepgjbacaa

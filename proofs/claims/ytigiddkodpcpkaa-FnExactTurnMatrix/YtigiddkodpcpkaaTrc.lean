/- The matrix of a turn, as it is told: the program and the specification. -/
import Derived.Test.YtigiddkodpcpkaaTrb
import Derived.Test.YtigiddkodpcpkaaTrk
import Derived.Deep.RegionHeld
namespace Go.Proofs.Ytigiddkodpcpkaa
open Go.RowKit

/-- how many numbers are told -/
def tmN (a b c d : Int) : Nat := if tkB a b c d = true then 9 else 0

theorem mk9 : madeCells #[Value.int .i64 0] 9 = #[Value.int .i64 0, Value.int .i64 0, Value.int .i64 0, Value.int .i64 0, Value.int .i64 0, Value.int .i64 0, Value.int .i64 0, Value.int .i64 0, Value.int .i64 0] := by
  apply Array.ext'
  rw [toList_madeCells_one]
  rfl
theorem mk3 : madeCells #[Value.int .i64 0] 3 = #[Value.int .i64 0, Value.int .i64 0, Value.int .i64 0] := by
  apply Array.ext'
  rw [toList_madeCells_one]
  rfl
theorem c9_at {w0 : World} {L : List BoxT} {O : List OwnT} {w : World} {b : Nat} {m : Nat → Int} (h : St w0 ((b, c9 m) :: L) O w) : ∀ k, k < 9 → w.cell? ⟨b, 0 + k, none⟩ = some (.int .i64 (m k)) := fun k hk => by
  rw [Nat.zero_add]
  match k, hk with
  | 0, _ => exact h.cell 0 rfl 0 rfl
  | 1, _ => exact h.cell 0 rfl 1 rfl
  | 2, _ => exact h.cell 0 rfl 2 rfl
  | 3, _ => exact h.cell 0 rfl 3 rfl
  | 4, _ => exact h.cell 0 rfl 4 rfl
  | 5, _ => exact h.cell 0 rfl 5 rfl
  | 6, _ => exact h.cell 0 rfl 6 rfl
  | 7, _ => exact h.cell 0 rfl 7 rfl
  | 8, _ => exact h.cell 0 rfl 8 rfl
theorem c9_row {w0 : World} {L : List BoxT} {O : List OwnT} {w : World} {b : Nat} {m : Nat → Int} (h : St w0 ((b, c9 m) :: L) O w) : Row b 9 m w := fun k hk => by
  match k, hk with
  | 0, _ => exact ⟨h.cell 0 rfl 0 rfl, h.free 0 rfl 0 rfl⟩
  | 1, _ => exact ⟨h.cell 0 rfl 1 rfl, h.free 0 rfl 1 rfl⟩
  | 2, _ => exact ⟨h.cell 0 rfl 2 rfl, h.free 0 rfl 2 rfl⟩
  | 3, _ => exact ⟨h.cell 0 rfl 3 rfl, h.free 0 rfl 3 rfl⟩
  | 4, _ => exact ⟨h.cell 0 rfl 4 rfl, h.free 0 rfl 4 rfl⟩
  | 5, _ => exact ⟨h.cell 0 rfl 5 rfl, h.free 0 rfl 5 rfl⟩
  | 6, _ => exact ⟨h.cell 0 rfl 6 rfl, h.free 0 rfl 6 rfl⟩
  | 7, _ => exact ⟨h.cell 0 rfl 7 rfl, h.free 0 rfl 7 rfl⟩
  | 8, _ => exact ⟨h.cell 0 rfl 8 rfl, h.free 0 rfl 8 rfl⟩

set_option maxRecDepth 100000 in
set_option maxHeartbeats 4000000 in
theorem implTurnMatrix_any (a b c d : Int) (w : World) :
    Calls Try.prog 27 #[tv a b c d] w fun e w' => LsR (tmN a b c d) (mtx a b c d) w e w' := by
  have c1 := fun w' => implTurnOk_any a b c d w'
  have HS0 := hide ((St.start w).box [.int .i64 a, .int .i64 b, .int .i64 c, .int .i64 d] 32)
  unfold tmN
  cases hq : tkB a b c d
  · simp only [hq] at c1
    simp only [Bool.false_eq_true, if_false]
    clear hq
    go_enter Try.func27, Try.ntmps27
    go_wp2_with fail
    refine (c1 _).mono ?_
    rintro e w1 ⟨rfl, hb⟩
    have HS1 := hide (HS0.out.next hb)
    clear hb HS0 c1
    go_wp2_with fail
    go_ret
    exact ⟨none, 0, w1.heap.size, rfl, .inl rfl, .inl rfl, HS1.out.below⟩
  have c2 := fun w' => matrixOfTurn_any a b c d hq w'
  simp only [hq] at c1
  simp only [if_true]
  clear hq
  generalize mtx a b c d = m at *
  go_enter Try.func27, Try.ntmps27
  go_wp2_with fail
  refine (c1 _).mono ?_
  rintro e w1 ⟨rfl, hb⟩
  have HS1 := hide (HS0.out.next hb)
  obtain ⟨i0, i1, i2, i3⟩ := HS1.out.im4 0 rfl
  clear hb HS0 c1
  go_wp2_with fail
  refine (c2 _).mono ?_
  rintro e w2 ⟨rfl, hb⟩
  have HS2 := hide ((HS1.out.next hb).box (c9 m) 80)
  clear hb HS1 c2 i0 i1 i2 i3
  have c3 := clone_any w2.heap.size 0 9 9 m (by omega) _ (c9_at HS2.out)
  go_wp2_with fail
  refine c3.mono ?_
  rintro e w3 ⟨x, cap, t, rfl, ho, ht, hb⟩
  have HO := hide ho
  have HT := hide ht
  have HS3 := hide (HS2.out.next hb)
  have HL := HS2.out.below.size
  clear ho ht hb HS2 c3
  go_wp2_with fail
  go_ret
  exact ⟨x, cap, t, rfl, HO.out, by rcases HT.out with h | h; exact .inl h; exact .inr (Nat.le_trans HL h), HS3.out.below⟩

set_option maxRecDepth 100000 in
set_option maxHeartbeats 4000000 in
theorem specTurnMatrix_any (a b c d : Int) (ha : I64 a) (hb' : I64 b) (hc : I64 c) (hd : I64 d) (w : World) :
    Calls Try.prog 26 #[tv a b c d] w fun e w' => LsR (tmN a b c d) (mtx a b c d) w e w' := by
  have c1 := fun w' => specTurnOk_any a b c d ha hb' hc hd w'
  have HS0 := hide ((St.start w).box [.int .i64 a, .int .i64 b, .int .i64 c, .int .i64 d] 32)
  clear ha hb' hc hd
  unfold tmN
  cases hq : tkB a b c d
  · simp only [hq] at c1
    simp only [Bool.false_eq_true, if_false]
    clear hq
    go_enter Try.func26, Try.ntmps26
    go_wp2_with fail
    refine (c1 _).mono ?_
    rintro e w1 ⟨rfl, hb⟩
    have HS1 := hide (HS0.out.next hb)
    clear hb HS0 c1
    go_wp2_with fail
    go_ret
    exact ⟨_, _, w1.heap.size, rfl, .inl rfl, .inl rfl, bnext HS1.out.below (Nat.le_refl _) (bnew _ _)⟩

  have g0 := fun w' => l10Take_any a b c d 1 0 0 hq (by omega) (by omega) (by omega) w'
  simp only [show (pX a b c d 1 0 0).tdiv 4 = mtx a b c d 0 from rfl, show (pY a b c d 1 0 0).tdiv 4 = mtx a b c d 3 from rfl, show (pZ a b c d 1 0 0).tdiv 4 = mtx a b c d 6 from rfl] at g0
  have G0 := hide g0
  clear g0
  have g1 := fun w' => l10Take_any a b c d 0 1 0 hq (by omega) (by omega) (by omega) w'
  simp only [show (pX a b c d 0 1 0).tdiv 4 = mtx a b c d 1 from rfl, show (pY a b c d 0 1 0).tdiv 4 = mtx a b c d 4 from rfl, show (pZ a b c d 0 1 0).tdiv 4 = mtx a b c d 7 from rfl] at g1
  have G1 := hide g1
  clear g1
  have g2 := fun w' => l10Take_any a b c d 0 0 1 hq (by omega) (by omega) (by omega) w'
  simp only [show (pX a b c d 0 0 1).tdiv 4 = mtx a b c d 2 from rfl, show (pY a b c d 0 0 1).tdiv 4 = mtx a b c d 5 from rfl, show (pZ a b c d 0 0 1).tdiv 4 = mtx a b c d 8 from rfl] at g2
  have G2 := hide g2
  clear g2
  simp only [hq] at c1
  simp only [if_true]
  clear hq
  generalize mtx a b c d = m at *
  have hm9 : ∀ w', (Instr.makeSlice 24 (.int .i64 9) (.int .i64 9)).run Try.prog w' = .ok (.slice (some ⟨w'.heap.size, 0, none⟩) 9 9) (w'.alloc (.cells #[.int .i64 0, .int .i64 0, .int .i64 0, .int .i64 0, .int .i64 0, .int .i64 0, .int .i64 0, .int .i64 0, .int .i64 0] 2)) := fun w' => by have := make_px 9 (by omega) w'; rw [mk9] at this; exact this
  have hm3 : ∀ w', (Instr.makeSlice 24 (.int .i64 3) (.int .i64 3)).run Try.prog w' = .ok (.slice (some ⟨w'.heap.size, 0, none⟩) 3 3) (w'.alloc (.cells #[.int .i64 0, .int .i64 0, .int .i64 0] 2)) := fun w' => by have := make_px 3 (by omega) w'; rw [mk3] at this; exact this
  go_enter Try.func26, Try.ntmps26
  go_wp2_with fail
  refine (c1 _).mono ?_
  rintro e w1 ⟨rfl, hb⟩
  have HS1 := hide ((HS0.out.next hb).box (c9 fun _ => 0) 2)
  have hlB := (HS0.out.next hb).below.size
  clear hb HS0 c1
  generalize hA : w1.alloc (.cells (c9 fun _ => 0).toArray 2) = w2 at HS1
  have hA' : w1.alloc (.cells #[.int .i64 0, .int .i64 0, .int .i64 0, .int .i64 0, .int .i64 0, .int .i64 0, .int .i64 0, .int .i64 0, .int .i64 0] 2) = w2 := hA
  clear hA
  go_wp2_with fail
  generalize w1.heap.size = B at *
  clear hA'
  go_loopw [4] (fun i wr => ∃ k : Nat, k ≤ 3 ∧ i = .int .i64 k ∧ St w [(B, c9 (mcI m k)), (w.heap.size, [.int .i64 a, .int .i64 b, .int .i64 c, .int .i64 d])] [] wr) (fun i _ => 3 - (intOf i).toNat)
  case atStart => exact ⟨0, by omega, rfl, HS1.out⟩
  case round =>
    obtain ⟨k, hk, rfl, hs⟩ := hrel
    have HS := hide hs
    clear hs HS1
    have hk' : k = 0 ∨ k = 1 ∨ k = 2 ∨ k = 3 := by omega
    clear hk
    rcases hk' with rfl | rfl | rfl | rfl
    · have HV := hide (HS.out.box [.int .i64 1, .int .i64 0, .int .i64 0] 2)
      have SDs : Hid (_ ∧ _ ∧ _ ∧ _ ∧ _ ∧ _ ∧ _) := ⟨HV.out.drew.cell 2 rfl 0 rfl, HV.out.drew.cell 2 rfl 1 rfl, HV.out.drew.cell 2 rfl 2 rfl, HV.out.drew.cell 2 rfl 3 rfl, HV.out.drew.cell 0 rfl 0 rfl, HV.out.drew.cell 0 rfl 1 rfl, HV.out.drew.cell 0 rfl 2 rfl⟩
      have cG := G0.out
      go_upto_region 9 with fail
      go_region_held (fun (w' : World) => w'.cell? ⟨w.heap.size, 0, none⟩ = some (.int .i64 a) ∧ w'.cell? ⟨w.heap.size, 1, none⟩ = some (.int .i64 b) ∧ w'.cell? ⟨w.heap.size, 2, none⟩ = some (.int .i64 c) ∧ w'.cell? ⟨w.heap.size, 3, none⟩ = some (.int .i64 d) ∧ w'.cell? ⟨wr.heap.size, 0, none⟩ = some (.int .i64 1) ∧ w'.cell? ⟨wr.heap.size, 1, none⟩ = some (.int .i64 0) ∧ w'.cell? ⟨wr.heap.size, 2, none⟩ = some (.int .i64 0))
        (first | (with_reducible exact SDs.out) | exact SDs.out | (with_reducible exact S0s.out))
        ((go_at_call 63; (with_reducible refine (cG _).mono ?_); rintro e q0 ⟨rfl, h0⟩; have S0 := HV.out.drew.next h0; clear h0; have S0s : Hid (_ ∧ _ ∧ _ ∧ _ ∧ _ ∧ _ ∧ _) := ⟨S0.cell 2 rfl 0 rfl, S0.cell 2 rfl 1 rfl, S0.cell 2 rfl 2 rfl, S0.cell 2 rfl 3 rfl, S0.cell 0 rfl 0 rfl, S0.cell 0 rfl 1 rfl, S0.cell 0 rfl 2 rfl⟩))
      have HF1 := hide (St.fill (L1 := [_]) S0 0 (.int .i64 (m 0)))
      have HF2 := hide (St.fill (L1 := [_]) HF1.out 3 (.int .i64 (m 3)))
      have HE := hide (St.fill (L1 := [_]) HF2.out 6 (.int .i64 (m 6)))
      have f0 := S0.free 1 rfl 0 rfl
      have d0 := S0.cell 1 rfl 0 rfl
      have f1 := HF1.out.free 1 rfl 3 rfl
      have d1 := HF1.out.cell 1 rfl 3 rfl
      have f2 := HF2.out.free 1 rfl 6 rfl
      have d2 := HF2.out.cell 1 rfl 6 rfl
      clear HF1 HF2 SDs S0s S0 HV
      go_wp2_with fail
      exact ⟨⟨1, by omega, rfl, HE.out.sub (List.Sublist.cons _ (List.Sublist.refl _)) (List.Sublist.refl _)⟩, by simp [intOf]⟩
    · have HV := hide (HS.out.box [.int .i64 0, .int .i64 1, .int .i64 0] 2)
      have SDs : Hid (_ ∧ _ ∧ _ ∧ _ ∧ _ ∧ _ ∧ _) := ⟨HV.out.drew.cell 2 rfl 0 rfl, HV.out.drew.cell 2 rfl 1 rfl, HV.out.drew.cell 2 rfl 2 rfl, HV.out.drew.cell 2 rfl 3 rfl, HV.out.drew.cell 0 rfl 0 rfl, HV.out.drew.cell 0 rfl 1 rfl, HV.out.drew.cell 0 rfl 2 rfl⟩
      have cG := G1.out
      go_upto_region 9 with fail
      go_region_held (fun (w' : World) => w'.cell? ⟨w.heap.size, 0, none⟩ = some (.int .i64 a) ∧ w'.cell? ⟨w.heap.size, 1, none⟩ = some (.int .i64 b) ∧ w'.cell? ⟨w.heap.size, 2, none⟩ = some (.int .i64 c) ∧ w'.cell? ⟨w.heap.size, 3, none⟩ = some (.int .i64 d) ∧ w'.cell? ⟨wr.heap.size, 0, none⟩ = some (.int .i64 0) ∧ w'.cell? ⟨wr.heap.size, 1, none⟩ = some (.int .i64 1) ∧ w'.cell? ⟨wr.heap.size, 2, none⟩ = some (.int .i64 0))
        (first | (with_reducible exact SDs.out) | exact SDs.out | (with_reducible exact S0s.out))
        ((go_at_call 63; (with_reducible refine (cG _).mono ?_); rintro e q0 ⟨rfl, h0⟩; have S0 := HV.out.drew.next h0; clear h0; have S0s : Hid (_ ∧ _ ∧ _ ∧ _ ∧ _ ∧ _ ∧ _) := ⟨S0.cell 2 rfl 0 rfl, S0.cell 2 rfl 1 rfl, S0.cell 2 rfl 2 rfl, S0.cell 2 rfl 3 rfl, S0.cell 0 rfl 0 rfl, S0.cell 0 rfl 1 rfl, S0.cell 0 rfl 2 rfl⟩))
      have HF1 := hide (St.fill (L1 := [_]) S0 1 (.int .i64 (m 1)))
      have HF2 := hide (St.fill (L1 := [_]) HF1.out 4 (.int .i64 (m 4)))
      have HE := hide (St.fill (L1 := [_]) HF2.out 7 (.int .i64 (m 7)))
      have f0 := S0.free 1 rfl 1 rfl
      have d0 := S0.cell 1 rfl 1 rfl
      have f1 := HF1.out.free 1 rfl 4 rfl
      have d1 := HF1.out.cell 1 rfl 4 rfl
      have f2 := HF2.out.free 1 rfl 7 rfl
      have d2 := HF2.out.cell 1 rfl 7 rfl
      clear HF1 HF2 SDs S0s S0 HV
      go_wp2_with fail
      exact ⟨⟨2, by omega, rfl, HE.out.sub (List.Sublist.cons _ (List.Sublist.refl _)) (List.Sublist.refl _)⟩, by simp [intOf]⟩
    · have HV := hide (HS.out.box [.int .i64 0, .int .i64 0, .int .i64 1] 2)
      have SDs : Hid (_ ∧ _ ∧ _ ∧ _ ∧ _ ∧ _ ∧ _) := ⟨HV.out.drew.cell 2 rfl 0 rfl, HV.out.drew.cell 2 rfl 1 rfl, HV.out.drew.cell 2 rfl 2 rfl, HV.out.drew.cell 2 rfl 3 rfl, HV.out.drew.cell 0 rfl 0 rfl, HV.out.drew.cell 0 rfl 1 rfl, HV.out.drew.cell 0 rfl 2 rfl⟩
      have cG := G2.out
      go_upto_region 9 with fail
      go_region_held (fun (w' : World) => w'.cell? ⟨w.heap.size, 0, none⟩ = some (.int .i64 a) ∧ w'.cell? ⟨w.heap.size, 1, none⟩ = some (.int .i64 b) ∧ w'.cell? ⟨w.heap.size, 2, none⟩ = some (.int .i64 c) ∧ w'.cell? ⟨w.heap.size, 3, none⟩ = some (.int .i64 d) ∧ w'.cell? ⟨wr.heap.size, 0, none⟩ = some (.int .i64 0) ∧ w'.cell? ⟨wr.heap.size, 1, none⟩ = some (.int .i64 0) ∧ w'.cell? ⟨wr.heap.size, 2, none⟩ = some (.int .i64 1))
        (first | (with_reducible exact SDs.out) | exact SDs.out | (with_reducible exact S0s.out))
        ((go_at_call 63; (with_reducible refine (cG _).mono ?_); rintro e q0 ⟨rfl, h0⟩; have S0 := HV.out.drew.next h0; clear h0; have S0s : Hid (_ ∧ _ ∧ _ ∧ _ ∧ _ ∧ _ ∧ _) := ⟨S0.cell 2 rfl 0 rfl, S0.cell 2 rfl 1 rfl, S0.cell 2 rfl 2 rfl, S0.cell 2 rfl 3 rfl, S0.cell 0 rfl 0 rfl, S0.cell 0 rfl 1 rfl, S0.cell 0 rfl 2 rfl⟩))
      have HF1 := hide (St.fill (L1 := [_]) S0 2 (.int .i64 (m 2)))
      have HF2 := hide (St.fill (L1 := [_]) HF1.out 5 (.int .i64 (m 5)))
      have HE := hide (St.fill (L1 := [_]) HF2.out 8 (.int .i64 (m 8)))
      have f0 := S0.free 1 rfl 2 rfl
      have d0 := S0.cell 1 rfl 2 rfl
      have f1 := HF1.out.free 1 rfl 5 rfl
      have d1 := HF1.out.cell 1 rfl 5 rfl
      have f2 := HF2.out.free 1 rfl 8 rfl
      have d2 := HF2.out.cell 1 rfl 8 rfl
      clear HF1 HF2 SDs S0s S0 HV
      go_wp2_with fail
      exact ⟨⟨3, by omega, rfl, HE.out.sub (List.Sublist.cons _ (List.Sublist.refl _)) (List.Sublist.refl _)⟩, by simp [intOf]⟩
    · have HR : Hid (Row B 9 m wr) := c9_row HS.out
      go_wp2_with fail
      go_ret
      exact ⟨_, _, B, rfl, .inr ⟨rfl, HR.out⟩, .inr hlB, HS.out.below⟩

end Go.Proofs.Ytigiddkodpcpkaa

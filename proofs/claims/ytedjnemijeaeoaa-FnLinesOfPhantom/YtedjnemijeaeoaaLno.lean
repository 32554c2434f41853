/- The lines of a tone image: the program, its answer with its room. -/
import Derived.Test.YtedjnemijeaeoaaLni
namespace Go.Proofs.Ytedjnemijeaeoaa
open Go.RowKit

/-- a list is answered, as long as its room -/
def LsC (n : Nat) (s : Nat → Int) (w : World) (e : Ending) (w' : World) : Prop := ∃ b, e = .returned (.slice (some ⟨b, 0, none⟩) n n) ∧ Row b n s w' ∧ w.heap.size ≤ b ∧ Below w.heap.size w w'

set_option maxRecDepth 100000 in
set_option maxHeartbeats 16000000 in
theorem implLinesC_any (W H : Int) (a : Option Addr) (n cap : Nat) (f : Nat → Int) (hl : n ≤ 1048576) (ht : toneB W H n f = true) (w : World) (h : Px a n f w) :
    Calls Try.prog 10 #[im W H a n cap] w (LsC (lnN W H n f) (lnF W f) w) := by
  have HS0 := hide ((St.start w).box [.int .i64 W, .int .i64 H, .slice a n cap] 32)
  have c := isTone_any W H a n cap f hl _ (h.below HS0.out.below)
  unfold lnN
  cases hq : toneB W H n f
  · rw [hq] at ht; cases ht
  · obtain ⟨p, hW, hH, hn, p1, p2, _, hf⟩ := toneB_parts hq
    rw [hq] at c
    rw [if_pos rfl]
    subst hW hH
    have HP := hide h
    unfold lnF
    rw [Int.toNat_natCast]
    have hpp : n ≤ 31 * 31 := by rw [hn]; exact Nat.mul_le_mul p2 p2
    have hN : (p + 1) * p ≤ 32 * 31 := Nat.mul_le_mul (by omega) p2
    have hpos : 0 < n := by rw [hn]; exact Nat.mul_pos (by omega) (by omega)
    have cC := lineCount_any p (by omega)
    rw [show ((p : Int) + 1) * (p : Int) = (((p + 1) * p : Nat) : Int) by rw [Int.natCast_mul]; rfl] at cC
    obtain ⟨ba, off, rfl, _⟩ := HP.out.lt hpos
    have cT : Hid (∀ k, k < (p + 1) * p → ∀ w b1 b2 b3 Bp Bl, Bx3 b1 b2 b3 p (k / p : Nat) (k % p : Nat) w →
        w.cell? ⟨Bp, 0, none⟩ = some (.func (.func 55) #[] #[.pointer (some ⟨b1, 0, none⟩), .pointer (some ⟨b2, 0, none⟩), .pointer (some ⟨b3, 0, none⟩)]) → w.cell? ⟨Bl, 0, none⟩ = some (.slice (some ⟨ba, off, none⟩) n cap) → Px (some ⟨ba, off, none⟩) n f w →
        Calls Try.prog 30 #[.func (.func 54) #[] #[.pointer (some ⟨Bp, 0, none⟩), .pointer (some ⟨Bl, 0, none⟩)]] w fun e w' => e = .returned (.int .i64 (Lnm.lin p f k)) ∧ Below w.heap.size w w') := by
      intro k hk w b1 b2 b3 Bp Bl hB hcp hcl px
      rw [hn] at hcl px hf
      exact total_places k p (by omega) p2 hk _ cap f (fun j hj => by have := hf j hj; omega) w b1 b2 b3 Bp Bl hB hcp hcl px
    have hN0 : (p + 1) * p ≠ 0 := Nat.ne_of_gt (Nat.mul_pos (by omega) (by omega))
    obtain ⟨NN, hNN⟩ : ∃ NN, NN = (p + 1) * p := ⟨_, rfl⟩
    rw [← hNN] at hN cC cT hN0 ⊢
    have hmk := make_px NN (by omega)
    clear hq h hf hn hNN hpp ht
    go_enter Try.func10, Try.ntmps10
    go_wp2_with fail
    refine c.mono ?_
    rintro e w1 ⟨rfl, hb⟩
    have HS1 := hide (HS0.out.next hb)
    obtain ⟨i0, i1, i2⟩ := HS1.out.im3 0 rfl
    have hm := hmk w1
    have HR2 := hide (row_new NN w1)
    have HS2 := hide (HS1.out.own (bnew w1 (.cells (madeCells #[.int .i64 0] NN) 2)) HR2.out.v (.inr (Nat.le_refl _)))
    clear c hb HS0 hmk
    go_wp2_with fail
    refine (cC _).mono ?_
    rintro e w2 ⟨rfl, rfl⟩
    go_wp2_with fail
    clear i0 i1 i2 hm cC
    generalize hX : w2.alloc (.cells (madeCells #[.int .i64 0] NN) 2) = wX at *
    generalize hB : w2.heap.size = B at *
    have hBX : B < wX.heap.size := by rw [← hX, ← hB]; simp
    clear hX hB HS1
    go_loopw [4, 14] (fun _ i wr => ∃ k : Nat, k ≤ NN ∧ i = .int .i64 k ∧ Kept B wX wr ∧ Part B NN k (Lnm.lin p f) wr) (fun _ i _ => NN - (intOf i).toNat)
    case atStart => exact ⟨0, by omega, rfl, Kept.refl _ _, HR2.out.part⟩
    case round =>
      obtain ⟨k, hk, rfl, hkept, hpart⟩ := hrel
      clear HR2
      by_cases hlt : k < NN
      · have HSr := hide (HS2.out.out hN0 hkept)
        obtain ⟨i0, i1, i2⟩ := HSr.out.im3 0 rfl
        have cP := placesOn_any k p (by omega) (by omega) (by omega)
        have cT' := hide (cT.out k hlt)
        have hBr : B < wr.heap.size := Nat.lt_of_lt_of_le hBX hkept.size
        have HK := hide hkept
        have HPt := hide hpart
        clear hkept hpart HS2 cT
        generalize k / p = kd at *
        generalize k % p = km at *
        obtain ⟨Z, hZ⟩ : ∃ Z, Z = Lnm.lin p f k := ⟨_, rfl⟩
        have HZ := hide hZ
        rw [← hZ] at cT'
        clear hZ
        go_upto_region 7 with fail
        go_region_with (first
          | (go_at_call 32; refine (cP _).mono ?_; rintro e w3 ⟨b1, b2, b3, rfl, hB3, hbel3⟩; have HS3 := hide (HSr.out.drew.next hbel3); obtain ⟨j0, j1, j2⟩ := HS3.out.im3 0 rfl)
          | (go_at_call 31; refine (numbersAt_any _ _ _ _ _ _).mono ?_; rintro e w4 ⟨rfl, hcp, hcl, hs4, hbel4⟩; have HS4 := hide (HS3.out.next hbel4))
          | (go_at_call 30; refine (cT'.out _ _ _ _ _ _ (hB3.below hbel4) hcp hcl (HP.out.below HS4.out.below)).mono ?_; rintro e w5 ⟨rfl, hbel5⟩; have hbA := (((Below.refl _ wr).drew.trans hbel3).trans (hbel4.mono hbel3.size)).trans (hbel5.mono (Nat.le_trans hbel3.size hbel4.size)); have HPA := hide (HPt.out.below hbA hBr); obtain ⟨⟨y, hy, _⟩, fr⟩ := HPA.out k hlt; have HKA := hide (HK.out.trans (Kept.of_below (p := B) hbA))))
        all_goals
          have HPn := hide (HPA.out.step hlt Z HZ.out)
          have HKn := hide (HKA.out.setCell (a := ⟨B, k, none⟩) rfl (.int .i64 Z))
          generalize World.setCell _ ⟨B, k, none⟩ (.int .i64 Z) = wz at *
          clear hy fr i0 i1 i2 j0 j1 j2 HSr HS3 HS4 hB3 hcp hcl hs4 hbel3 hbel4 hbel5 hbA HPA HKA HK HPt cT' cP HP
          go_wp2_with fail
          exact ⟨⟨k + 1, by omega, rfl, HKn.out, HPn.out⟩, by simp [intOf]; omega⟩
      · obtain rfl : k = NN := by omega
        have HSe := hide (HS2.out.mark0 hN0 hkept hpart.row.v)
        have HE : Hid (LsC k (Lnm.lin p f) w (.returned (.slice (some ⟨B, 0, none⟩) k k)) wr) := ⟨B, rfl, ((HSe.out.nthO 0 rfl).i.resolve_left hN0).2, (HSe.out.lt B (mem_blocks_own (List.mem_cons_self ..) hN0)).1, HSe.out.below⟩
        clear cT HP HS2 HSe hpart hkept
        go_wp2_with fail
        go_ret
        exact HE.out

end Go.Proofs.Ytedjnemijeaeoaa

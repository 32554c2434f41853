/- DoseBook: the program. -/
import Derived.Test.YthfkdejlkegmoaaDob
namespace Go.Proofs.Ythfkdejlkegmoaa
open Go.RowKit

set_option maxRecDepth 100000 in
/-- the sum of a book -/
theorem total_values (a : Option Addr) (m cap : Nat) (d : Nat → Int) (h0 : m ≠ 0) (hl : m ≤ 1048576) (hd : ∀ k, k < m → -1000000000000 ≤ d k ∧ d k ≤ 1000000000000) (w : World) (Bs : Nat) (hc : w.cell? ⟨Bs, 0, none⟩ = some (.slice a m cap)) (px : Px a m d w) :
    Calls Try.prog 17 #[.func (.func 22) #[] #[.pointer (some ⟨Bs, 0, none⟩)]] w fun e w' => e = .returned (.int .i64 (Lnm.sm d m)) ∧ Below w.heap.size w w' := by
  have hblk : ∀ q : Addr, a = some q → q.block < w.heap.size := by
    intro q hq
    obtain ⟨b, off, ha, hlt⟩ := px.lt (by omega)
    rw [hq] at ha
    cases ha
    exact hlt
  have h2 := values_gv a m cap Bs d (· < w.heap.size) w hl hc px hblk
  have h3 := total_any 22 _ _ (· < w.heap.size) w h2 (enters_of Try.func22 (by kernel_rfl) rfl) (fun _ h => h)
  rw [sumW_sm (M := 1000000000000) (by omega) hl hd] at h3
  exact h3

set_option maxRecDepth 100000 in
set_option maxHeartbeats 8000000 in
theorem implDoseBook_any (a : Option Addr) (n cap : Nat) (g : Nat → Int) (hl : n ≤ 1048576) (w : World) (h : Px a (n * 2) g w) :
    Calls Try.prog 8 #[.slice a n cap] w (LsRI (dbN n g) (bkF g n) (dbC n g) w) := by
  have c := areExposures_any a n cap g hl w h
  unfold dbN dbC
  cases hq : exB n g
  · rw [hq] at c
    clear hq h
    go_enter Try.func8, Try.ntmps8
    go_wp2_with fail
    refine c.mono ?_
    rintro e w1 ⟨rfl, hb⟩
    have HB := hide hb
    clear hb c
    go_wp2_with fail
    exact bodyPost_ret (v := .tuple #[.slice none 0 0, .int .i64 0]) (by simp [results, Try.results8, go_sem]) rfl ⟨_, _, 0, rfl, .inl rfl, .inl rfl, HB.out⟩
  · have hx : exA g n = true := by unfold exB at hq; rw [Bool.and_eq_true] at hq; exact hq.2
    have hn : n ≤ 4096 := by unfold exB at hq; rw [Bool.and_eq_true] at hq; simpa using hq.1
    rw [hq] at c
    simp only [if_true]
    have HX := hide hx
    have HP := hide h
    have hmk : ∀ w, (Instr.makeSlice 25 (.int .i64 32) (.int .i64 32)).run Try.prog w = .ok (.slice (some ⟨w.heap.size, 0, none⟩) 32 32) (w.alloc (.cells (madeCells #[.int .i64 0] 32) 2)) := fun w => make_px 32 (by omega) w
    obtain ⟨V, hV⟩ : ∃ V, V = amS g n := ⟨_, rfl⟩
    rw [← hV]
    have HV : Hid (Lnm.sm (bkF g n) 32 = V) := by rw [hV]; exact bk_total hx
    have HTB : Hid (∀ k, k < 32 → -1000000000000 ≤ bkF g n k ∧ bkF g n k ≤ 1000000000000) := fun k _ => by have := bk_bound hx k; omega
    clear hq h hx hV
    go_enter Try.func8, Try.ntmps8
    go_wp2_with fail
    refine c.mono ?_
    rintro e w1 ⟨rfl, hb⟩
    have HR2 := hide (row_new 32 w1)
    have HS2 := hide (((St.start w).next hb).own (bnew w1 (.cells (madeCells #[.int .i64 0] 32) 2)) HR2.out.v (.inr (Nat.le_refl _)))
    have hm := hmk w1
    have hw1 := hb.size
    clear c hb hmk
    go_wp2_with fail
    clear hm
    generalize hX : w1.alloc (.cells (madeCells #[.int .i64 0] 32) 2) = wX at *
    generalize hB : w1.heap.size = B at *
    have hBX : B < wX.heap.size := by rw [← hX, ← hB]; simp
    clear hX hB
    go_loopw [6, 13] (fun _ i wr => ∃ k : Nat, k ≤ n ∧ i = .int .i64 k ∧ Kept B wX wr ∧ Row B 32 (bkF g k) wr) (fun _ i _ => n - (intOf i).toNat)
    case atStart => exact ⟨0, by omega, rfl, Kept.refl _ _, HR2.out⟩
    case round =>
      obtain ⟨k, hk, rfl, hkept, hrow⟩ := hrel
      clear HR2
      by_cases hlt : k < n
      · have HSr := hide (HS2.out.out (by omega) hkept)
        obtain ⟨b, off, rfl, hbl, z0, z1⟩ := (HP.out.below HSr.out.below).atExp hlt
        obtain ⟨⟨o, ho, ho2⟩, m1, m2⟩ := exA_at HX.out hlt
        have b1 := bk_bound (exA_le HX.out hk) o
        have hBr : B < wr.heap.size := Nat.lt_of_lt_of_le hBX hkept.size
        have hst : bkF g (k + 1) = Lnm.upd (bkF g k) o (bkF g k o + g (k * 2 + 1)) := by
          show Lnm.upd _ _ _ = _
          rw [ho, Int.toNat_natCast]
        rw [ho] at z0
        obtain ⟨wa, hwa⟩ : ∃ wa, wa = wr.alloc (.cells #[.int .i64 o, .int .i64 (g (k * 2 + 1))] 32) := ⟨_, rfl⟩
        have hba : Below wr.heap.size wr wa := by rw [hwa]; exact bnew _ _
        have y0 : wa.cell? ⟨wr.heap.size, 0, none⟩ = some (.int .i64 o) := by rw [hwa]; simp [go_sem]
        have y1 : wa.cell? ⟨wr.heap.size, 1, none⟩ = some (.int .i64 (g (k * 2 + 1))) := by rw [hwa]; simp [go_sem]
        have hrow' : Row B 32 (bkF g k) wa := fun j hj => by
          rw [hba.cell (p := ⟨B, j, none⟩) hBr, hba.frozen (p := ⟨B, j, none⟩) hBr]; exact hrow j hj
        obtain ⟨q1, q2⟩ := hrow' o ho2
        have HRn : Hid (Row B 32 (bkF g (k + 1)) (wa.setCell ⟨B, o, none⟩ (.int .i64 (bkF g k o + g (k * 2 + 1)))).drew) := by rw [hst]; exact hrow'.upd ho2 (bkF g k o + g (k * 2 + 1))
        have HKn := hide ((hkept.trans (Kept.of_below (p := B) hba)).setCell (a := ⟨B, o, none⟩) rfl (.int .i64 (bkF g k o + g (k * 2 + 1)))).drew
        have hwa' := hwa.symm
        clear hst ho hwa hba hrow' hkept hrow HSr HX HP HV HTB HS2 hbl
        generalize g (k * 2 + 1) = M1 at *
        generalize bkF g k o = X1 at *
        obtain ⟨X2, hX2⟩ : ∃ X2, X2 = X1 + M1 := ⟨_, rfl⟩
        have wX : IntKind.i64.wrap (X1 + M1) = X2 := by rw [IntKind.wrap_i64]; omega
        rw [← hX2] at HRn HKn
        clear hX2 m1 m2 b1
        go_upto_region 7 with fail
        go_region_with (fail)
        all_goals
          generalize (wa.setCell ⟨B, o, none⟩ (.int .i64 X2)).drew = wz at *
          clear q1 q2 z0 z1 wX y0 y1 hwa'
          go_wp2_with fail
          exact ⟨⟨k + 1, by omega, rfl, HKn.out, HRn.out⟩, by simp [intOf]; omega⟩
      · obtain rfl : k = n := by omega
        have HSe := hide (HS2.out.mark0 (by omega) hkept hrow.v)
        have cQ := fun w Bs hc px => total_values (some ⟨B, 0, none⟩) 32 32 (bkF g k) (by omega) (by omega) HTB.out w Bs hc px
        rw [HV.out] at cQ
        clear HX HP HV HTB HS2 hrow hkept
        go_wp2_with fail
        refine (values_any _ _ _ _).mono ?_
        rintro e w5 ⟨rfl, rfl⟩
        have HS5 := hide (HSe.out.box [.slice (some ⟨B, 0, none⟩) 32 32] 25)
        have hc5 := HS5.out.cell 0 rfl 0 rfl
        have pA := (HS5.out.nthO 0 rfl).px
        clear HSe
        go_wp2_with fail
        refine (cQ _ _ hc5 pA).mono ?_
        rintro e w6 ⟨rfl, hb⟩
        have HS6 := hide (HS5.out.next hb)
        have HE : Hid (LsRI 32 (bkF g k) V w (.returned (.tuple #[.slice (some ⟨B, 0, none⟩) 32 32, .int .i64 V])) w6) := ⟨_, _, B, rfl, (HS6.out.nthO 0 rfl).i, .inr hw1, HS6.out.below⟩
        clear hb HS5 HS6 hc5 pA cQ
        go_wp2_with fail
        exact bodyPost_ret (v := .tuple #[.slice (some ⟨B, 0, none⟩) 32 32, .int .i64 V]) (by simp [results, Try.results8, go_sem]) rfl HE.out

end Go.Proofs.Ythfkdejlkegmoaa

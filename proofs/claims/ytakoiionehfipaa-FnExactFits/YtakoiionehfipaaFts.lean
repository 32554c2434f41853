/- Fits: the specification. -/
import Derived.Test.YtakoiionehfipaaFti
namespace Go.Proofs.Ytakoiionehfipaa
open Go.RowKit

set_option maxRecDepth 100000 in
set_option maxHeartbeats 8000000 in
theorem specFits_any (a : Option Addr) (n cap : Nat) (g : Nat → Int) (hl : n ≤ 1048576) (a' : Option Addr) (m cap' : Nat) (lim : Nat → Int) (hl' : m ≤ 1048576) (w : World) (h : Px a (n * 2) g w) (h' : Px a' m lim w) :
    Calls Try.prog 51 #[.slice a n cap, .slice a' m cap'] w (FtR (ftL n g m lim) w) := by
  have HB0 : Hid (Below w.heap.size w (w.alloc (.cells #[] 46))) := bnew _ _
  have c := l6Exposures_any a n cap g hl _ (h.below HB0.out)
  have HP := hide h
  have HP' := hide h'
  clear h h'
  unfold ftL
  have HN : Hid (∀ w', Below w.heap.size w w' → FtR [] w (.returned (.slice (some ⟨w.heap.size, 0, none⟩) 0 0)) w') := fun w' hb => ⟨_, 0, 0, 0, rfl, rfl, .inl (by omega), .inl (by omega), hb⟩
  have HO0 : Hid ((w.alloc (.cells #[] 46)).ownsRow w.heap.size 46 2 (.slice (some ⟨w.heap.size, 0, none⟩) 0 0) 0 (ints [])) := World.ownsRow_lit w #[] 0 (Nat.le_refl _) (by unfold maxLen; omega) rfl
  generalize hA0 : w.alloc (.cells #[] 46) = wA at *
  cases hq : exB n g
  · rw [if_neg (by unfold ftB; rw [hq]; simp)]
    rw [hq] at c
    have HE := hide (HN.out _ HB0.out)
    clear hq HN HO0
    go_enter Try.func51, Try.ntmps51
    go_wp2_with fail
    refine c.mono ?_
    rintro e w1 ⟨rfl, rfl⟩
    clear c
    go_wp2_with fail
    go_ret
    exact HE.out
  by_cases hm : m = 32
  · subst hm
    have q32 : (((32 : Nat) : Int) != 32) = false := by simp
    rw [hq] at c
    obtain ⟨ba', off', rfl, hba'⟩ := HP'.out.lt (by omega)
    have HQ := hide hq
    obtain ⟨RL, hRL⟩ : ∃ RL, RL = (if ftB n g 32 lim = true then (ftS g lim n).2 else []) := ⟨_, rfl⟩
    rw [← hRL]
    have HRL := hide hRL
    clear hq hRL
    go_enter Try.func51, Try.ntmps51
    go_wp2_with fail
    refine c.mono ?_
    rintro e w1 ⟨rfl, rfl⟩
    clear c
    go_wp2_with fail
    go_loop [6] (fun i => ∃ k : Nat, k ≤ 32 ∧ i = .int .i64 k ∧ alW lim 0 1000000000000 k = true) (fun i => 32 - (intOf i).toNat)
    case atStart => exact ⟨0, by omega, rfl, rfl⟩
    case round =>
      obtain ⟨k, hk, rfl, ha⟩ := hrel
      by_cases hlt : k < 32
      · obtain ⟨_, _, hpe, hz⟩ := (HP'.out.below HB0.out).at hlt
        cases hpe
        have hcall := l1In_any (lim k) 0 1000000000000
        cases hi' : inB (lim k) 0 1000000000000
        · have hal : alW lim 0 1000000000000 32 = false := alW_false hlt hi'
          have HE : Hid (FtR RL w (.returned (.slice (some ⟨w.heap.size, 0, none⟩) 0 0)) w1) := by
            rw [HRL.out, if_neg (by unfold ftB; rw [hal]; simp)]; exact HN.out _ HB0.out
          rw [hi'] at hcall
          clear ha hi' hal HN HO0 HP HP' HQ HRL
          go_wp2_with fail
          refine (hcall _).mono ?_
          rintro e w' ⟨rfl, rfl⟩
          go_wp2_with fail
          go_ret
          exact HE.out
        · have HF : Hid (alW lim 0 1000000000000 (k + 1) = true) := alW_step ha hi'
          rw [hi'] at hcall
          clear ha hi' HN HO0 HP HP' HQ
          go_wp2_with fail
          refine (hcall _).mono ?_
          rintro e w' ⟨rfl, rfl⟩
          go_wp2_with fail
          exact ⟨⟨k + 1, by omega, rfl, HF.out⟩, by simp [intOf]; omega⟩
      · obtain rfl : k = 32 := by omega
        have hal := ha
        have hq := HQ.out
        have hyes : ftB n g 32 lim = true := by unfold ftB; rw [hq, hal]; rfl
        have hx : exA g n = true := by unfold exB at hq; rw [Bool.and_eq_true] at hq; exact hq.2
        have hn : n ≤ 4096 := by unfold exB at hq; rw [Bool.and_eq_true] at hq; simpa using hq.1
        have HX := hide hx
        have HYs : Hid (RL = (ftS g lim n).2) := by show RL = _; rw [HRL.out, if_pos hyes]
        have hm : (Instr.makeSlice 24 (.int .i64 32) (.int .i64 32)).run Try.prog w1 = .ok (.slice (some ⟨w1.heap.size, 0, none⟩) 32 32) (w1.alloc (.cells (madeCells #[.int .i64 0] 32) 2)) := make_px 32 (by omega) w1
        have HR2 := hide (row_new 32 w1)
        have HT2 : Hid (TyB w1.heap.size (w1.alloc (.cells (madeCells #[.int .i64 0] 32) 2))) := ⟨_, World.alloc_heap_new w1 _⟩
        have HB2 : Hid (Below w.heap.size w (w1.alloc (.cells (madeCells #[.int .i64 0] 32) 2))) := HB0.out.alloc HB0.out.size _
        have HO2 := hide (ownsRow_below' HO0.out (bnew w1 (.cells (madeCells #[.int .i64 0] 32) 2)))
        have hw2 := HB0.out.size
        clear ha hal hq hyes hx HN HO0 HB0 HQ HRL
        go_wp2_with fail
        clear hm hA0
        generalize w1.alloc (.cells (madeCells #[.int .i64 0] 32) 2) = wX at *
        generalize w1.heap.size = B at *
        go_loopw [5, 8, 9] (fun v i _ wr => ∃ k r : Nat, k ≤ n ∧ i = .int .i64 k ∧ r ≤ k ∧ (ftS g lim k).2.length = r * 2 ∧ wr.ownsRow w.heap.size 46 2 v r (ints (ftS g lim k).2) ∧ Row B 32 (ftS g lim k).1 wr ∧ TyB B wr ∧ Below w.heap.size w wr) (fun _ i _ _ => n - (intOf i).toNat)
        case atStart => exact ⟨0, 0, by omega, rfl, by omega, rfl, HO2.out, HR2.out, HT2.out, HB2.out⟩
        case round =>
          obtain ⟨k, r, hk, rfl, hrk, hlen, hown, hrow, hT, hb⟩ := hrel
          clear HR2 HT2 HB2 HO2
          by_cases hlt : k < n
          · obtain ⟨b, off, rfl, hbl, z0, z1⟩ := (HP.out.below hb).atExp hlt
            have hbB : b ≠ B := by
              obtain ⟨b', off2, he, hlt', _⟩ := HP.out.atExp hlt
              cases he
              omega
            obtain ⟨⟨o, ho, ho2⟩, m1, m2⟩ := exA_at HX.out hlt
            have b1 := ft_bound (lim := lim) (exA_le HX.out hk) o
            obtain ⟨_, _, hpe, hlm⟩ := (HP'.out.below hb).at ho2
            cases hpe
            have HY := hide (fun h => ft_yes (lim := lim) ho h)
            have HNo := hide (fun h => ft_no (lim := lim) ho h)
            rw [ho] at z0
            have hBr : B < wr.heap.size := World.block_lt_of_cell? wr ⟨B, 0, none⟩ (hrow 0 (by omega)).1
            obtain ⟨q1, q2⟩ := hrow o ho2
            have HOw := hide hown
            have HT := hide hT
            have HBl := hide hb
            have HRw := hide hrow
            have HL := hide hlen
            clear ho hown hrow hT hb HX HP HP' hlen HYs
            obtain ⟨X2, hX2⟩ : ∃ X2, X2 = (ftS g lim k).1 o + g (k * 2 + 1) := ⟨_, rfl⟩
            have wX : IntKind.i64.wrap ((ftS g lim k).1 o + g (k * 2 + 1)) = X2 := by rw [IntKind.wrap_i64]; omega
            rw [← hX2] at HY HNo
            clear hX2 m1 m2 b1
            generalize hS1 : (ftS g lim k).1 = bk1 at *
            generalize hS2 : (ftS g lim k).2 = L1 at *
            have HS1 := hide hS1
            have HS2 := hide hS2
            clear hS1 hS2
            generalize g (k * 2 + 1) = M1 at *
            have HFF : Hid (∀ d, (wr.drewN d).ownsRow w.heap.size 46 2 u5 r (ints L1) ∧ Row B 32 bk1 (wr.drewN d) ∧ TyB B (wr.drewN d) ∧ Below w.heap.size w (wr.drewN d) ∧ (wr.drewN d).cell? ⟨b, off + k * 2, none⟩ = some (.int .i64 o) ∧ (wr.drewN d).cell? ⟨b, off + k * 2 + 1, none⟩ = some (.int .i64 M1)) := by
              intro d
              have hdd : Below wr.heap.size wr (wr.drewN d) := below_drewN (Below.refl _ _) d
              have hRd : Row B 32 bk1 (wr.drewN d) := fun x hx => by
                rw [hdd.cell (p := ⟨B, x, none⟩) hBr, hdd.frozen (p := ⟨B, x, none⟩) hBr]; exact HRw.out x hx
              exact ⟨ownsRow_below' HOw.out hdd, hRd, HT.out.below hdd, below_drewN HBl.out d, (hdd.cell (p := ⟨b, off + k * 2, none⟩) hbl).trans z0, (hdd.cell (p := ⟨b, off + k * 2 + 1, none⟩) hbl).trans z1⟩
            by_cases hfit : X2 ≤ lim o
            · have HFt := hide (HY.out hfit)
              have HLr : Hid (r ≤ 1048576) := by show _ ≤ _; omega
              clear HY HNo HOw HT HBl HRw
              go_upto_region 14 with fail
              go_quiet (fail)
              go_upto_region 15 with fail
              obtain ⟨f1, f2, f3, f4, f5, f6⟩ := HFF.out nq
              generalize wr.drewN nq = wd at *
              obtain ⟨p1, p2⟩ := f2 o ho2
              have g1 : Hid ((wd.setCell ⟨B, o, none⟩ (.int .i64 X2)).drew.ownsRow w.heap.size 46 2 u5 r (ints L1)) := ownsRow_setCell_other f1 (f3.ne f1) _
              have g2 : Hid (Row B 32 (Lnm.upd bk1 o X2) (wd.setCell ⟨B, o, none⟩ (.int .i64 X2)).drew) := f2.upd ho2 X2
              have g3 : Hid (TyB B (wd.setCell ⟨B, o, none⟩ (.int .i64 X2)).drew) := f3.set _ _
              have g4 : Hid (Below w.heap.size w (wd.setCell ⟨B, o, none⟩ (.int .i64 X2)).drew) := (f4.setCell (p := ⟨B, o, none⟩) hw2 _).drew
              have g5 : (wd.setCell ⟨B, o, none⟩ (.int .i64 X2)).drew.cell? ⟨b, off + k * 2, none⟩ = some (.int .i64 o) := by
                rw [World.cell?_drew, World.cell?_setCell_other _ _ _ _ (by intro hh; injection hh with h5; exact hbB h5.symm)]; exact f5
              have g6 : (wd.setCell ⟨B, o, none⟩ (.int .i64 X2)).drew.cell? ⟨b, off + k * 2 + 1, none⟩ = some (.int .i64 M1) := by
                rw [World.cell?_drew, World.cell?_setCell_other _ _ _ _ (by intro hh; injection hh with h5; exact hbB h5.symm)]; exact f6
              clear f1 f2 f3 f4 HFF q1 q2 z0 z1 hlm
              go_region_with (fail)
              all_goals
                generalize (wd.setCell ⟨B, o, none⟩ (.int .i64 X2)).drew = wz at *
                have HSz := hide g4.out.size
                clear p1 p2 f5 f6 wX
                go_wp2_with (refine growE _ rfl _ _ rfl w.heap.size _ r L1 rfl w g1.out g4.out HSz.out B g3.out (o : Int) M1 rfl HLr.out g2.out ?_)
                intro v' w' ho' hb' hT' hR' hs'
                have HO' := hide ho'
                have HB' := hide hb'
                have HT' := hide hT'
                have HR' := hide hR'
                clear g1 g2 g3 g4 HSz ho' hb' hT' hR' hs' g5 g6
                go_wp2_with fail
                refine ⟨⟨k + 1, r + 1, by omega, rfl, by omega, ?_, ?_, ?_, HT'.out, HB'.out⟩, by simp [intOf]; omega⟩
                · rw [HFt.out]; have := HL.out; simp; omega
                · rw [HFt.out]; exact HO'.out
                · rw [HFt.out]; exact HR'.out
            · have HFt := hide (HNo.out hfit)
              clear HY HNo HOw HT HBl HRw
              go_upto_region 14 with fail
              go_quiet (fail)
              go_wp2_with fail
              refine ⟨⟨k + 1, r, by omega, rfl, by omega, ?_, ?_, ?_, (HFF.out _).2.2.1, (HFF.out _).2.2.2.1⟩, by simp [intOf]; omega⟩
              · rw [HFt.out, HS2.out]; exact HL.out
              · rw [HFt.out, HS2.out]; exact (HFF.out _).1
              · rw [HFt.out, HS1.out]; exact (HFF.out _).2.1
          · obtain rfl : k = n := by omega
            obtain ⟨a9, cap9, b9, rfl, ow, hB9⟩ := ow_exp hown hlen
            have HE : Hid (FtR RL w (.returned (.slice a9 r cap9)) wr) := by
              rw [HYs.out]; exact ⟨a9, cap9, b9, r, hlen, rfl, ow, hB9, hb⟩
            clear hown hlen hrow hT hb ow hB9 HX HP HP' HYs
            go_wp2_with fail
            go_ret
            exact HE.out
  · have hm' : ((m : Int) != 32) = true := by simp; omega
    rw [if_neg (by unfold ftB; rw [decide_eq_false hm]; simp)]
    rw [hq] at c
    have HE := hide (HN.out _ HB0.out)
    clear hq hm HN HO0
    go_enter Try.func51, Try.ntmps51
    go_wp2_with fail
    refine c.mono ?_
    rintro e w1 ⟨rfl, rfl⟩
    clear c
    go_wp2_with fail
    go_ret
    exact HE.out

end Go.Proofs.Ytakoiionehfipaa

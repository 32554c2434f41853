/- Fits: the program. -/
import Derived.Test.YthfkdejlkegmoaaFit
import Derived.BigQuiet
namespace Go.Proofs.Ythfkdejlkegmoaa
open Go.RowKit

theorem ft_yes {g lim : Nat → Int} {k o : Nat} (ho : g (k * 2) = o) (h : (ftS g lim k).1 o + g (k * 2 + 1) ≤ lim o) :
    ftS g lim (k + 1) = (Lnm.upd (ftS g lim k).1 o ((ftS g lim k).1 o + g (k * 2 + 1)), (ftS g lim k).2 ++ [(o : Int), g (k * 2 + 1)]) := by
  rw [ftS, ho, Int.toNat_natCast, if_pos h]
theorem ft_no {g lim : Nat → Int} {k o : Nat} (ho : g (k * 2) = o) (h : ¬ (ftS g lim k).1 o + g (k * 2 + 1) ≤ lim o) : ftS g lim (k + 1) = ftS g lim k := by
  rw [ftS, ho, Int.toNat_natCast, if_neg h]

set_option maxRecDepth 100000 in
set_option maxHeartbeats 8000000 in
theorem implFits_any (a : Option Addr) (n cap : Nat) (g : Nat → Int) (hl : n ≤ 1048576) (a' : Option Addr) (m cap' : Nat) (lim : Nat → Int) (hl' : m ≤ 1048576) (w : World) (h : Px a (n * 2) g w) (h' : Px a' m lim w) :
    Calls Try.prog 7 #[.slice a n cap, .slice a' m cap'] w (FtR (ftL n g m lim) w) := by
  have c := areExposures_any a n cap g hl w h
  have HP := hide h
  have HP' := hide h'
  clear h h'
  unfold ftL
  have HN : Hid (∀ w', Below w.heap.size w w' → FtR [] w (.returned (.slice none 0 0)) w') := fun w' hb => ⟨none, 0, 0, 0, rfl, rfl, .inl (by omega), .inl (by omega), hb⟩
  cases hq : exB n g
  · rw [if_neg (by unfold ftB; rw [hq]; simp)]
    rw [hq] at c
    clear hq
    go_enter Try.func7, Try.ntmps7
    go_wp2_with fail
    refine c.mono ?_
    rintro e w1 ⟨rfl, hb⟩
    have HE := hide (HN.out _ hb)
    clear hb c HN
    go_wp2_with fail
    go_ret
    exact HE.out
  by_cases hm : m = 32
  · subst hm
    have cA := fun w' h => allWithin_any 0 1000000000000 a' 32 cap' lim hl' w' h
    have q32 : (((32 : Nat) : Int) != 32) = false := by simp
    cases hal : alW lim 0 1000000000000 32
    · rw [if_neg (by unfold ftB; rw [hal]; simp)]
      rw [hq] at c
      rw [hal] at cA
      clear hq hal
      go_enter Try.func7, Try.ntmps7
      go_wp2_with fail
      refine c.mono ?_
      rintro e w1 ⟨rfl, hb⟩
      have HE := hide (HN.out _ hb)
      have pB := HP'.out.below hb
      clear hb c HN
      go_wp2_with fail
      refine (cA _ pB).mono ?_
      rintro e w2 ⟨rfl, rfl⟩
      go_wp2_with fail
      go_ret
      exact HE.out
    · have hyes : ftB n g 32 lim = true := by unfold ftB; rw [hq, hal]; rfl
      rw [if_pos hyes]
      have hx : exA g n = true := by unfold exB at hq; rw [Bool.and_eq_true] at hq; exact hq.2
      have hn : n ≤ 4096 := by unfold exB at hq; rw [Bool.and_eq_true] at hq; simpa using hq.1
      have HX := hide hx
      have HAl := hide hal
      have hmk : ∀ w, (Instr.makeSlice 25 (.int .i64 32) (.int .i64 32)).run Try.prog w = .ok (.slice (some ⟨w.heap.size, 0, none⟩) 32 32) (w.alloc (.cells (madeCells #[.int .i64 0] 32) 2)) := fun w => make_px 32 (by omega) w
      rw [hq] at c
      rw [hal] at cA
      clear hq HN hal hyes hx
      go_enter Try.func7, Try.ntmps7
      go_wp2_with fail
      refine c.mono ?_
      rintro e w1 ⟨rfl, hb⟩
      have pB := HP'.out.below hb
      have HB1 := hide hb
      clear c hb
      go_wp2_with fail
      refine (cA _ pB).mono ?_
      rintro e w2 ⟨rfl, rfl⟩
      have hm := hmk w2
      have HR2 := hide (row_new 32 w2)
      have HT2 : Hid (TyB w2.heap.size (w2.alloc (.cells (madeCells #[.int .i64 0] 32) 2))) := ⟨_, World.alloc_heap_new w2 _⟩
      have HB2 : Hid (Below w.heap.size w (w2.alloc (.cells (madeCells #[.int .i64 0] 32) 2))) := HB1.out.alloc HB1.out.size _
      have hw2 := HB1.out.size
      clear cA pB hmk HB1
      go_wp2_with fail
      clear hm
      generalize w2.alloc (.cells (madeCells #[.int .i64 0] 32) 2) = wX at *
      generalize w2.heap.size = B at *
      obtain ⟨ba', off', rfl, hba'⟩ := HP'.out.lt (by omega)
      go_loopw [5, 8, 9, 26] (fun v _ _ i wr => ∃ k r : Nat, k ≤ n ∧ i = .int .i64 k ∧ r ≤ k ∧ (ftS g lim k).2.length = r * 2 ∧ wr.ownsRow w.heap.size 32 2 v r (ints (ftS g lim k).2) ∧ Row B 32 (ftS g lim k).1 wr ∧ TyB B wr ∧ Below w.heap.size w wr) (fun _ _ _ i _ => n - (intOf i).toNat)
      case atStart => exact ⟨0, 0, by omega, rfl, by omega, rfl, World.ownsRow_nil _ _ _ _, HR2.out, HT2.out, HB2.out⟩
      case round =>
        obtain ⟨k, r, hk, rfl, hrk, hlen, hown, hrow, hT, hb⟩ := hrel
        clear HR2 HT2 HB2
        by_cases hlt : k < n
        · obtain ⟨b, off, rfl, hbl, z0, z1⟩ := (HP.out.below hb).atExp hlt
          obtain ⟨⟨o, ho, ho2⟩, m1, m2⟩ := exA_at HX.out hlt
          have b1 := ft_bound (lim := lim) (exA_le HX.out hk) o
          obtain ⟨_, _, hpe, hlm⟩ := (HP'.out.below hb).at ho2
          cases hpe
          have hy := fun h => ft_yes (lim := lim) ho h
          have hno := fun h => ft_no (lim := lim) ho h
          have HY := hide hy
          have HNo := hide hno
          rw [ho] at z0
          obtain ⟨wa, hwa⟩ : ∃ wa, wa = wr.alloc (.cells #[.int .i64 o, .int .i64 (g (k * 2 + 1))] 32) := ⟨_, rfl⟩
          have hba : Below wr.heap.size wr wa := by rw [hwa]; exact bnew _ _
          have hsz : wa.heap.size = wr.heap.size + 1 := by rw [hwa]; simp
          have y0 : wa.cell? ⟨wr.heap.size, 0, none⟩ = some (.int .i64 o) := by rw [hwa]; simp [go_sem]
          have y1 : wa.cell? ⟨wr.heap.size, 1, none⟩ = some (.int .i64 (g (k * 2 + 1))) := by rw [hwa]; simp [go_sem]
          have hBr : B < wr.heap.size := World.block_lt_of_cell? wr ⟨B, 0, none⟩ (hrow 0 (by omega)).1
          have hrow' : Row B 32 (ftS g lim k).1 wa := fun j hj => by
            rw [hba.cell (p := ⟨B, j, none⟩) hBr, hba.frozen (p := ⟨B, j, none⟩) hBr]; exact hrow j hj
          have hlm' : wa.cell? ⟨ba', off' + o, none⟩ = some (.int .i64 (lim o)) := (hba.cell (p := ⟨ba', off' + o, none⟩) (World.block_lt_of_cell? wr _ hlm)).trans hlm
          obtain ⟨q1, q2⟩ := hrow' o ho2
          have HOw := hide (ownsRow_below' hown hba)
          have HT := hide (hT.below hba)
          have HBl := hide (bnext hb (Nat.le_refl _) hba)
          have HRw := hide hrow'
          have hwa' := hwa.symm
          have HL := hide hlen
          clear ho hwa hba hrow' hown hrow hT hb hbl HX HP HP' HAl hlm hy hno hlen
          obtain ⟨X2, hX2⟩ : ∃ X2, X2 = (ftS g lim k).1 o + g (k * 2 + 1) := ⟨_, rfl⟩
          have wX : IntKind.i64.wrap ((ftS g lim k).1 o + g (k * 2 + 1)) = X2 := by rw [IntKind.wrap_i64]; omega
          rw [← hX2] at HY HNo
          clear hX2 m1 m2 b1
          generalize hS1 : (ftS g lim k).1 = bk1 at *
          generalize hS2 : (ftS g lim k).2 = L1 at *
          have HS1 := hide hS1
          have HS2 := hide hS2
          clear hS1 hS2
          generalize g (k * 2 + 1) = M1 at *
          by_cases hfit : X2 ≤ lim o
          · have HFt := hide (HY.out hfit)
            have HFF : Hid (∀ d, ((wa.drewN d).setCell ⟨B, o, none⟩ (.int .i64 X2)).ownsRow w.heap.size 32 2 u5 r (ints L1) ∧ Row B 32 (Lnm.upd bk1 o X2) ((wa.drewN d).setCell ⟨B, o, none⟩ (.int .i64 X2)) ∧ TyB B ((wa.drewN d).setCell ⟨B, o, none⟩ (.int .i64 X2)) ∧ Below w.heap.size w ((wa.drewN d).setCell ⟨B, o, none⟩ (.int .i64 X2)) ∧ ((wa.drewN d).setCell ⟨B, o, none⟩ (.int .i64 X2)).cell? ⟨wr.heap.size, 0, none⟩ = some (.int .i64 o) ∧ ((wa.drewN d).setCell ⟨B, o, none⟩ (.int .i64 X2)).cell? ⟨wr.heap.size, 1, none⟩ = some (.int .i64 M1)) := by
              intro d
              have hBd : Below w.heap.size w (wa.drewN d) := below_drewN HBl.out d
              have hdd : Below wa.heap.size wa (wa.drewN d) := below_drewN (Below.refl _ _) d
              have hRd : Row B 32 bk1 (wa.drewN d) := fun x hx => by
                rw [hdd.cell (p := ⟨B, x, none⟩) (show B < wa.heap.size by omega), hdd.frozen (p := ⟨B, x, none⟩) (show B < wa.heap.size by omega)]; exact HRw.out x hx
              refine ⟨ownsRow_setCell_other (ownsRow_below' HOw.out hdd) (HT.out.ne HOw.out) _, hRd.upd ho2 X2, (HT.out.below hdd).set _ _, hBd.setCell (p := ⟨B, o, none⟩) hw2 _, ?_, ?_⟩
              · rw [World.cell?_setCell_other _ _ _ _ (by intro hh; injection hh with h5; omega), hdd.cell (p := ⟨wr.heap.size, 0, none⟩) (by show wr.heap.size < _; omega)]; exact y0
              · rw [World.cell?_setCell_other _ _ _ _ (by intro hh; injection hh with h5; omega), hdd.cell (p := ⟨wr.heap.size, 1, none⟩) (by show wr.heap.size < _; omega)]; exact y1
            clear HY HNo HOw HT HBl HRw
            go_upto_region 8 with fail
            go_quiet (fail)
            go_upto_region 11 with fail
            obtain ⟨f1, f2, f3, f4, f5, f6⟩ := HFF.out nq
            generalize (wa.drewN nq).setCell ⟨B, o, none⟩ (.int .i64 X2) = wz at *
            have HO := hide f1
            have HR := hide f2
            have HT := hide f3
            have HB := hide f4
            have HSz := hide f4.size
            have HLr : Hid (r ≤ 1048576) := by show _ ≤ _; omega
            clear f1 f2 f3 f4 HFF q1 q2 y0 y1 hlm' hwa' wX z0 z1 hsz
            go_wp2_with (refine growE _ rfl _ _ rfl w.heap.size _ r L1 rfl w HO.out HB.out HSz.out B HT.out (o : Int) M1 rfl HLr.out HR.out ?_)
            intro v' w' ho' hb' hT' hR' hs'
            have HO' := hide ho'
            have HB' := hide hb'
            have HT' := hide hT'
            have HR' := hide hR'
            clear HO HB HSz HT HR ho' hb' hT' hR' hs' f5 f6
            go_wp2_with fail
            refine ⟨⟨k + 1, r + 1, by omega, rfl, by omega, ?_, ?_, ?_, HT'.out, HB'.out⟩, by simp [intOf]; omega⟩
            · rw [HFt.out]; have := HL.out; simp; omega
            · rw [HFt.out]; exact HO'.out
            · rw [HFt.out]; exact HR'.out
          · have HFt := hide (HNo.out hfit)
            have HFF : Hid (∀ d, (wa.drewN d).ownsRow w.heap.size 32 2 u5 r (ints L1) ∧ Row B 32 bk1 (wa.drewN d) ∧ TyB B (wa.drewN d) ∧ Below w.heap.size w (wa.drewN d)) := by
              intro d
              have hBd : Below w.heap.size w (wa.drewN d) := below_drewN HBl.out d
              have hdd : Below wa.heap.size wa (wa.drewN d) := below_drewN (Below.refl _ _) d
              have hRd : Row B 32 bk1 (wa.drewN d) := fun x hx => by
                rw [hdd.cell (p := ⟨B, x, none⟩) (show B < wa.heap.size by omega), hdd.frozen (p := ⟨B, x, none⟩) (show B < wa.heap.size by omega)]; exact HRw.out x hx
              exact ⟨ownsRow_below' HOw.out hdd, hRd, HT.out.below hdd, hBd⟩
            clear HY HNo HOw HT HBl HRw
            go_upto_region 8 with fail
            go_quiet (fail)
            go_wp2_with fail
            refine ⟨⟨k + 1, r, by omega, rfl, by omega, ?_, ?_, ?_, (HFF.out _).2.2.1, (HFF.out _).2.2.2⟩, by simp [intOf]; omega⟩
            · rw [HFt.out, HS2.out]; exact HL.out
            · rw [HFt.out, HS2.out]; exact (HFF.out _).1
            · rw [HFt.out, HS1.out]; exact (HFF.out _).2.1
        · obtain rfl : k = n := by omega
          obtain ⟨a9, cap9, b9, rfl, ow, hB9⟩ := ow_exp hown hlen
          have HE : Hid (FtR (ftS g lim k).2 w (.returned (.slice a9 r cap9)) wr) := ⟨a9, cap9, b9, r, hlen, rfl, ow, hB9, hb⟩
          clear hown hlen hrow hT hb ow hB9 HX HP HP' HAl
          go_wp2_with fail
          go_ret
          exact HE.out
  · have hm' : ((m : Int) != 32) = true := by simp; omega
    rw [if_neg (by unfold ftB; rw [decide_eq_false hm]; simp)]
    rw [hq] at c
    clear hq hm
    go_enter Try.func7, Try.ntmps7
    go_wp2_with fail
    refine c.mono ?_
    rintro e w1 ⟨rfl, hb⟩
    have HE := hide (HN.out _ hb)
    clear hb c HN
    go_wp2_with fail
    go_ret
    exact HE.out

end Go.Proofs.Ythfkdejlkegmoaa

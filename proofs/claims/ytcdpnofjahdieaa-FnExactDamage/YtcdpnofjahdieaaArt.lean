/- Archives: is the book right: the program. -/
import Derived.Test.YtcdpnofjahdieaaArd
import Derived.Test.YtcdpnofjahdieaaArr
namespace Go.Proofs.Ytcdpnofjahdieaa
open Go.RowKit

set_option maxRecDepth 100000 in
set_option maxHeartbeats 4000000 in
theorem isBook_any (a : Option Addr) (n cap : Nat) (E : Nat → SNote) (clock : Int) (hl : n ≤ 1048576) (hs : ∀ i, i < n → eNote E i ≤ 1048576) (w : World) (h : PxG a (n * 5) (FNote E) w) :
    Calls Try.prog 45 #[.slice a n cap, .int .i64 clock] w fun e w' => e = .returned (.bool (bokB E n clock)) ∧ Below w.heap.size w w' := by
  by_cases hn : 4000 < n
  · have e : bokB E n clock = false := by unfold bokB; rw [decide_eq_false (by omega)]; rfl
    rw [e]
    clear h
    go_enter Try.func45, Try.ntmps45
    go_wp2_with fail
    go_ret
    exact ⟨rfl, Below.refl _ _⟩
  have HOR : Hid (bokB E n clock = allG (notB E clock) n) := by show _ = _; unfold bokB; rw [decide_eq_true (by omega)]; rfl
  have HP := hide h
  have HSZ := hide hs
  clear h hs
  have HX0 : Hid (Bx w.heap.size [.int .i64 0, .int .i64 0, .string ⟨#[]⟩, .int .i64 0, .int .i64 0] (w.alloc (.cells #[.int .i64 0, .int .i64 0, .string ⟨#[]⟩, .int .i64 0, .int .i64 0] 68))) := Bx.new [.int .i64 0, .int .i64 0, .string ⟨#[]⟩, .int .i64 0, .int .i64 0] _ w
  have HB0 : Hid (Below w.heap.size w (w.alloc (.cells #[.int .i64 0, .int .i64 0, .string ⟨#[]⟩, .int .i64 0, .int .i64 0] 68))) := bnew _ _
  have HZ0 : Hid (w.heap.size < (w.alloc (.cells #[.int .i64 0, .int .i64 0, .string ⟨#[]⟩, .int .i64 0, .int .i64 0] 68)).heap.size) := by show _ < _; simp
  go_enter Try.func45, Try.ntmps45
  go_wp2_with fail
  go_loopw [7, 14] (fun _ i wr => ∃ (k : Nat) (y1 y3 : Int) (y2 : ByteArray), k ≤ n ∧ i = .int .i64 k ∧ Hid (allG (notB E clock) k = true) ∧ Bx w.heap.size [.int .i64 (preI (fun j => (E j).f0) k), .int .i64 y1, .string y2, .int .i64 y3, .int .i64 (preI (fun j => (E j).f4) k)] wr ∧ Below w.heap.size w wr ∧ w.heap.size < wr.heap.size) (fun _ i _ => n - (intOf i).toNat)
  case atStart => exact ⟨0, 0, 0, ⟨#[]⟩, by omega, rfl, hide rfl, HX0.out, HB0.out, HZ0.out⟩
  case round =>
    obtain ⟨k, y1, y3, y2, hk, rfl, HG, hx, hb, hz⟩ := hrel
    clear HX0 HB0 HZ0
    by_cases hlt : k < n
    · obtain ⟨b, off, rfl, z0, z1, z2, z3, z4⟩ := (HP.out.below hb).atNote hlt
      have hsz := HSZ.out k hlt
      unfold eNote at hsz
      have HNO : Hid (notB E clock k = false → bokB E n clock = false) := fun h9 => by rw [HOR.out]; exact allG_no k hlt h9
      have HYE : Hid (notB E clock k = true → allG (notB E clock) (k + 1) = true) := fun h9 => by simp only [allG]; rw [HG.out, h9]; rfl
      have HNB : Hid (notB E clock k = (inB (E k).f0 (preI (fun j => (E j).f0) k) clock && inB (E k).f1 1 8 && decide ((E k).f2.size ≤ 40) && inB (E k).f3 0 1000 && ((E k).f4 == chV (preI (fun j => (E j).f4) k) (E k).f0 (E k).f1 (E k).f3 (E k).f2))) := rfl
      have HX1 : Hid (preI (fun j => (E j).f0) (k + 1) = (E k).f0 ∧ preI (fun j => (E j).f4) (k + 1) = (E k).f4) := ⟨rfl, rfl⟩
      have HX := hide hx
      have HZ := hide hz
      have HBr := hide hb
      generalize preI (fun j => (E j).f0) k = y0 at *
      generalize preI (fun j => (E j).f4) k = y4 at *
      generalize notB E clock k = NB at *
      clear hx hb hz HG HP HSZ HOR
      generalize (E k).f0 = x0 at *
      generalize (E k).f1 = x1 at *
      generalize (E k).f2 = x2 at *
      generalize (E k).f3 = x3 at *
      generalize (E k).f4 = x4 at *
      obtain ⟨W, hW⟩ : ∃ W, W = wr.alloc (.cells #[.int .i64 x0, .int .i64 x1, .string x2, .int .i64 x3, .int .i64 x4] 68) := ⟨_, rfl⟩
      have n0 : W.cell? ⟨wr.heap.size, 0, none⟩ = some (.int .i64 x0) := by rw [hW]; simp [go_sem]
      have n1 : W.cell? ⟨wr.heap.size, 1, none⟩ = some (.int .i64 x1) := by rw [hW]; simp [go_sem]
      have n2 : W.cell? ⟨wr.heap.size, 2, none⟩ = some (.string x2) := by rw [hW]; simp [go_sem]
      have n3 : W.cell? ⟨wr.heap.size, 3, none⟩ = some (.int .i64 x3) := by rw [hW]; simp [go_sem]
      have n4 : W.cell? ⟨wr.heap.size, 4, none⟩ = some (.int .i64 x4) := by rw [hW]; simp [go_sem]
      have HBs : Hid (Below wr.heap.size wr W) := by show Below _ _ _; rw [hW]; exact bnew _ _
      have HB : Hid (Below w.heap.size w W) := bnext HBr.out (Nat.le_refl _) HBs.out
      have hxx := HX.out.below HBs.out HZ.out
      have p0 := (hxx 0 _ rfl).1
      have p4 := (hxx 4 _ rfl).1
      have hzW : w.heap.size < W.heap.size := Nat.lt_of_lt_of_le HZ.out HBs.out.size
      have HXX := hide hxx
      have hW' := hW.symm
      clear hW HX HBr HBs hxx
      have c1 := within_any x0 y0 clock W
      have c2 := within_any x1 1 8 W
      have c4 := within_any x3 0 1000
      cases h1 : inB x0 y0 clock with
      | false =>
        have HF := hide (HNO.out (by rw [HNB.out, h1]; simp))
        rw [h1] at c1
        clear HNO HYE HNB h1 c2 c4
        go_wp2_with fail
        refine c1.mono ?_
        rintro e w2 ⟨rfl, rfl⟩
        clear c1
        go_wp2_with fail
        go_ret
        exact ⟨by rw [HF.out]; rfl, HB.out⟩
      | true =>
      rw [h1] at c1
      cases h2 : inB x1 1 8 with
      | false =>
        have HF := hide (HNO.out (by rw [HNB.out, h1, h2]; simp))
        rw [h2] at c2
        clear HNO HYE HNB h1 h2 c4
        go_wp2_with fail
        refine c1.mono ?_
        rintro e w2 ⟨rfl, rfl⟩
        clear c1
        go_wp2_with fail
        refine c2.mono ?_
        rintro e w2 ⟨rfl, rfl⟩
        clear c2
        go_wp2_with fail
        go_ret
        exact ⟨by rw [HF.out]; rfl, HB.out⟩
      | true =>
      rw [h2] at c2
      go_wp2_with fail
      refine c1.mono ?_
      rintro e w2 ⟨rfl, rfl⟩
      clear c1
      go_wp2_with fail
      refine c2.mono ?_
      rintro e w2 ⟨rfl, rfl⟩
      clear c2
      go_upto_region 9 with fail
      clear hW'
      by_cases h3 : x2.size ≤ 40
      · have h3' : ¬ (40 : Int) < (x2.size : Int) := by omega
        cases h4 : inB x3 0 1000 with
        | false =>
          have HF := hide (HNO.out (by rw [HNB.out, h1, h2, h4]; simp))
          rw [h4] at c4
          clear HNO HYE HNB h1 h2 h4
          have HBd := hide (fun d => below_drewN HB.out d)
          go_quiet ((go_at_call 42; exact Calls.quiet_of_same (c4 _)))
          have HBq := hide (HBd.out nq)
          clear HBd
          generalize w2.drewN nq = wq at *
          go_wp2_with fail
          go_ret
          exact ⟨by rw [HF.out]; rfl, HBq.out⟩
        | true =>
          rw [h4] at c4
          have HE5 : Hid ((x4 == chV y4 x0 x1 x3 x2) = true → NB = true) := fun h9 => by rw [HNB.out, h1, h2, h4, h9]; simp; omega
          have HE6 : Hid ((x4 == chV y4 x0 x1 x3 x2) = false → NB = false) := fun h9 => by rw [HNB.out, h9]; simp
          have HC5 := hide (chainOf_any y4 x0 x1 x2 x3 x4 (by omega) w2.drew)
          generalize chV y4 x0 x1 x3 x2 = CV at *
          have SK0 : Hid (w2.drew.cell? ⟨wr.heap.size, 0, none⟩ = some (.int .i64 x0) ∧ w2.drew.cell? ⟨wr.heap.size, 1, none⟩ = some (.int .i64 x1) ∧ w2.drew.cell? ⟨wr.heap.size, 2, none⟩ = some (.string x2) ∧ w2.drew.cell? ⟨wr.heap.size, 3, none⟩ = some (.int .i64 x3) ∧ w2.drew.cell? ⟨wr.heap.size, 4, none⟩ = some (.int .i64 x4) ∧ w2.drew.cell? ⟨w.heap.size, 4, none⟩ = some (.int .i64 y4)) := ⟨n0, n1, n2, n3, n4, p4⟩
          clear HNB h1 h2 h4
          have c5d := HC5.out
          clear HC5
          have HBd : Hid (Below w.heap.size w w2.drew) := HB.out.drew
          have HDR : Hid (Below w2.heap.size w2 w2.drew) := (Below.refl _ _).drew
          go_region_held (fun (w' : World) => w'.cell? ⟨wr.heap.size, 0, none⟩ = some (.int .i64 x0) ∧ w'.cell? ⟨wr.heap.size, 1, none⟩ = some (.int .i64 x1) ∧ w'.cell? ⟨wr.heap.size, 2, none⟩ = some (.string x2) ∧ w'.cell? ⟨wr.heap.size, 3, none⟩ = some (.int .i64 x3) ∧ w'.cell? ⟨wr.heap.size, 4, none⟩ = some (.int .i64 x4) ∧ w'.cell? ⟨w.heap.size, 4, none⟩ = some (.int .i64 y4))
            (first | with_reducible exact SK0.out | with_reducible exact SK3.out)
            (first
              | (go_at_call 42; (with_reducible refine (c4 _).mono ?_); rintro e wa ⟨rfl, rfl⟩)
              | (go_at_call 60; (with_reducible refine c5d.mono ?_); rintro e w3 ⟨rfl, hb30⟩; have HB3 := hide (bnext HBd.out (Nat.le_refl _) hb30); have hb3 : Below w2.heap.size w2 w3 := HDR.out.trans hb30; have HX3 := hide (HXX.out.below hb3 hzW); have SK3 : Hid (w3.cell? ⟨wr.heap.size, 0, none⟩ = some (.int .i64 x0) ∧ w3.cell? ⟨wr.heap.size, 1, none⟩ = some (.int .i64 x1) ∧ w3.cell? ⟨wr.heap.size, 2, none⟩ = some (.string x2) ∧ w3.cell? ⟨wr.heap.size, 3, none⟩ = some (.int .i64 x3) ∧ w3.cell? ⟨wr.heap.size, 4, none⟩ = some (.int .i64 x4) ∧ w3.cell? ⟨w.heap.size, 4, none⟩ = some (.int .i64 y4)) := ⟨(hb3.cell (p := ⟨wr.heap.size, 0, none⟩) (World.block_lt_of_cell? _ _ n0)).trans n0, (hb3.cell (p := ⟨wr.heap.size, 1, none⟩) (World.block_lt_of_cell? _ _ n1)).trans n1, (hb3.cell (p := ⟨wr.heap.size, 2, none⟩) (World.block_lt_of_cell? _ _ n2)).trans n2, (hb3.cell (p := ⟨wr.heap.size, 3, none⟩) (World.block_lt_of_cell? _ _ n3)).trans n3, (hb3.cell (p := ⟨wr.heap.size, 4, none⟩) (World.block_lt_of_cell? _ _ n4)).trans n4, (hb3.cell (p := ⟨w.heap.size, 4, none⟩) (World.block_lt_of_cell? _ _ p4)).trans p4⟩; have hs3 := hb3.size; clear hb3 hb30))
          all_goals
            obtain ⟨m0, m1, m2, m3, m4, -⟩ := SK3.out
            clear SK3 SK0 c4 c5d n0 n1 n2 n3 n4 p0 p4 HBd HB HXX
            cases h5 : (x4 == CV) with
            | false =>
              have q5 : (x4 != CV) = true := by simp [bne, h5]
              have HF := hide (HNO.out (HE6.out h5))
              clear HNO HYE HE5 HE6 h5
              go_wp2_with fail
              go_ret
              exact ⟨by rw [HF.out]; rfl, HB3.out⟩
            | true =>
              have q5 : (x4 != CV) = false := by simp [bne, h5]
              have HF := hide (HYE.out (HE5.out h5))
              clear HNO HYE HE5 HE6 h5
              have f0 := (HX3.out 0 _ rfl).2
              have f1 := (HX3.out 1 _ rfl).2
              have f2 := (HX3.out 2 _ rfl).2
              have f3 := (HX3.out 3 _ rfl).2
              have f4 := (HX3.out 4 _ rfl).2
              have o0 := (HX3.out 0 _ rfl).1
              have o1 := (HX3.out 1 _ rfl).1
              have o2 := (HX3.out 2 _ rfl).1
              have o3 := (HX3.out 3 _ rfl).1
              have o4 := (HX3.out 4 _ rfl).1
              have HXF := hide (((((HX3.out.set 0 (.int .i64 x0)).set 1 (.int .i64 x1)).set 2 (.string x2)).set 3 (.int .i64 x3)).set 4 (.int .i64 x4))
              have HBF : Hid (Below w.heap.size w (((((w3.setCell ⟨w.heap.size, 0, none⟩ (.int .i64 x0)).setCell ⟨w.heap.size, 1, none⟩ (.int .i64 x1)).setCell ⟨w.heap.size, 2, none⟩ (.string x2)).setCell ⟨w.heap.size, 3, none⟩ (.int .i64 x3)).setCell ⟨w.heap.size, 4, none⟩ (.int .i64 x4))) := ((((HB3.out.setCell (Nat.le_refl _) _).setCell (Nat.le_refl _) _).setCell (Nat.le_refl _) _).setCell (Nat.le_refl _) _).setCell (Nat.le_refl _) _
              have hs3' : w2.heap.size ≤ w3.heap.size := hs3
              have HZF : Hid (w.heap.size < (((((w3.setCell ⟨w.heap.size, 0, none⟩ (.int .i64 x0)).setCell ⟨w.heap.size, 1, none⟩ (.int .i64 x1)).setCell ⟨w.heap.size, 2, none⟩ (.string x2)).setCell ⟨w.heap.size, 3, none⟩ (.int .i64 x3)).setCell ⟨w.heap.size, 4, none⟩ (.int .i64 x4)).heap.size) := by show _ < _; simp; omega
              clear HX3 HB3
              go_wp2_with fail
              go_roundw
              case rel => exact ⟨k + 1, x1, x3, x2, by omega, by go_num, HF, by rw [HX1.out.1, HX1.out.2]; exact HXF.out, HBF.out, HZF.out⟩
              case measure => simp [intOf]; omega
      · have h3' : (40 : Int) < (x2.size : Int) := by omega
        have HF := hide (HNO.out (by rw [HNB.out, decide_eq_false h3]; simp))
        clear HNO HYE HNB h1 h2 c4 h3
        have HBd := hide (fun d => below_drewN HB.out d)
        go_quiet (fail)
        have HBq := hide (HBd.out nq)
        clear HBd
        generalize w2.drewN nq = wq at *
        go_wp2_with fail
        go_ret
        exact ⟨by rw [HF.out]; rfl, HBq.out⟩
    · obtain rfl : k = n := by omega
      have HF : Hid (bokB E k clock = true) := by show _ = _; rw [HOR.out, HG.out]
      clear HOR HG HP HSZ hx
      go_wp2
      go_ret
      exact ⟨by rw [HF.out]; rfl, hb⟩

end Go.Proofs.Ytcdpnofjahdieaa

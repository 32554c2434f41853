/- Archives: is a list in order, is it an index, a shelf: the program. -/
import Derived.Test.YtcdpnofjahdieaaArx
namespace Go.Proofs.Ytcdpnofjahdieaa
open Go.RowKit

/-- the name ahead -/
def preT (f : Nat → ByteArray) : Nat → ByteArray
  | 0 => ⟨#[]⟩
  | k + 1 => f k
theorem prv_eq (nm : Nat → ByteArray) (ve : Nat → Int) (k : Nat) (h : inB (nm k).size 1 40 = true) : lessM (preT nm k) (preI ve k) (nm k) (ve k) = prvB nm ve k := by
  cases k with
  | succ k => rfl
  | zero =>
    simp only [preT, preI, prvB]
    unfold lessM lessT
    have hs : 1 ≤ (nm 0).size := by
      simp only [inB, Bool.and_eq_true, decide_eq_true_eq] at h
      omega
    rw [ByteArray.toList_eq, ByteArray.toList_eq]
    have : ∃ x y, (nm 0).data.toList = x :: y := by
      cases e : (nm 0).data.toList with
      | nil =>
        have : (nm 0).data.toList.length = 0 := by rw [e]; rfl
        have h2 : (nm 0).size = (nm 0).data.toList.length := rfl
        omega
      | cons x y => exact ⟨x, y, rfl⟩
    obtain ⟨x, y, e⟩ := this
    rw [e]
    simp [Op.bytesLess]

set_option maxRecDepth 100000 in
set_option maxHeartbeats 2000000 in
theorem inOrderEntry_any (a : Option Addr) (n cap : Nat) (E : Nat → SEntry) (hl : n ≤ 1048576) (hs : ∀ i, i < n → (E i).f0.size ≤ 1048576) (w : World) (h : PxG a (n * 5) (FEntry E) w) :
    Calls Try.prog 55 #[.slice a n cap, .func (.func 56) #[] #[]] w fun e w' => e = .returned (.bool (ordB (fun k => (E k).f0) (fun k => (E k).f1) n)) ∧ Below w.heap.size w w' := by
  by_cases hn : 200 < n
  · have e : ordB (fun k => (E k).f0) (fun k => (E k).f1) n = false := by unfold ordB; rw [decide_eq_false (by omega)]; rfl
    rw [e]
    clear h
    go_enter Try.func55, Try.ntmps55
    go_wp2_with fail
    go_ret
    exact ⟨rfl, Below.refl _ _⟩
  have HOR : Hid (ordB (fun k => (E k).f0) (fun k => (E k).f1) n = allG (fun k => keyB (E k).f0 (E k).f1 && prvB (fun k => (E k).f0) (fun k => (E k).f1) k) n) := by show _ = _; unfold ordB; rw [decide_eq_true (by omega)]; rfl
  have HP := hide h
  have HSZ := hide hs
  clear h hs
  have HX0 : Hid (Bx w.heap.size [.string (preT (fun k => (E k).f0) 0), .int .i64 (preI (fun k => (E k).f1) 0)] (w.alloc (.cells #[.string ⟨#[]⟩, .int .i64 0] 92))) := Bx.new [.string ⟨#[]⟩, .int .i64 0] _ w
  have HB0 : Hid (Below w.heap.size w (w.alloc (.cells #[.string ⟨#[]⟩, .int .i64 0] 92))) := bnew _ _
  have HZ0 : Hid (w.heap.size < (w.alloc (.cells #[.string ⟨#[]⟩, .int .i64 0] 92)).heap.size) := by show _ < _; simp
  go_enter Try.func55, Try.ntmps55
  go_wp2_with fail
  go_loopw [7, 8, 15] (fun _ _ i wr => ∃ k : Nat, k ≤ n ∧ i = .int .i64 k ∧ Hid (allG (fun k => keyB (E k).f0 (E k).f1 && prvB (fun k => (E k).f0) (fun k => (E k).f1) k) k = true) ∧ Bx w.heap.size [.string (preT (fun k => (E k).f0) k), .int .i64 (preI (fun k => (E k).f1) k)] wr ∧ Below w.heap.size w wr ∧ w.heap.size < wr.heap.size) (fun _ _ i _ => n - (intOf i).toNat)
  case atStart => exact ⟨0, by omega, rfl, hide rfl, HX0.out, HB0.out, HZ0.out⟩
  case round =>
    obtain ⟨k, hk, rfl, HG, hx, hb, hz⟩ := hrel
    clear HX0 HB0 HZ0
    by_cases hlt : k < n
    · obtain ⟨b, off, rfl, z0, z1, z2, z3, z4⟩ := (HP.out.below hb).atEntry hlt
      have hsz := HSZ.out k hlt
      have HNO : Hid ((keyB (E k).f0 (E k).f1 && prvB (fun k => (E k).f0) (fun k => (E k).f1) k) = false → ordB (fun k => (E k).f0) (fun k => (E k).f1) n = false) := fun h9 => by rw [HOR.out]; exact allG_no k hlt h9
      have HYE : Hid ((keyB (E k).f0 (E k).f1 && prvB (fun k => (E k).f0) (fun k => (E k).f1) k) = true → allG (fun k => keyB (E k).f0 (E k).f1 && prvB (fun k => (E k).f0) (fun k => (E k).f1) k) (k + 1) = true) := fun h9 => by simp only [allG]; rw [HG.out, h9]; rfl
      have HPR : Hid (inB (E k).f0.size 1 40 = true → lessM (preT (fun k => (E k).f0) k) (preI (fun k => (E k).f1) k) (E k).f0 (E k).f1 = prvB (fun k => (E k).f0) (fun k => (E k).f1) k) := prv_eq (fun k => (E k).f0) (fun k => (E k).f1) k
      have HKE : Hid (keyB (E k).f0 (E k).f1 = (inB (E k).f0.size 1 40 && inB (E k).f1 1 1000)) := rfl
      have HX1 : Hid (preT (fun k => (E k).f0) (k + 1) = (E k).f0 ∧ preI (fun k => (E k).f1) (k + 1) = (E k).f1) := ⟨rfl, rfl⟩
      have HX := hide hx
      have HB := hide hb
      have HZ := hide hz
      generalize prvB (fun k => (E k).f0) (fun k => (E k).f1) k = PV at *
      generalize preT (fun k => (E k).f0) k = pT at *
      generalize preI (fun k => (E k).f1) k = pI at *
      clear hx hb hz HG HP HSZ HOR
      generalize (E k).f0 = x0 at *
      generalize (E k).f1 = x1 at *
      generalize (E k).f2 = x2 at *
      generalize (E k).f3 = x3 at *
      generalize (E k).f4 = x4 at *
      have cK := markOfEntry_any x0 x1 x2 x3 x4
      have HQ1 : Hid (∀ wz, Below wr.heap.size wr wz → Bx w.heap.size [.string pT, .int .i64 pI] wz) := fun wz h9 => HX.out.below h9 HZ.out
      go_upto_region 7 with fail
      go_wp2_with fail
      refine (cK _).mono ?_
      rintro e w1 ⟨rfl, hb1⟩
      have HBr : Hid (Below wr.heap.size wr w1) := bnext (bnew wr (.cells #[.string x0, .int .i64 x1, .int .i64 x2, .int .i64 x3, .int .i64 x4] 64)) (Nat.le_refl _) hb1
      have HBs : Hid (Below wr.heap.size wr (w1.alloc (.cells #[.string x0, .int .i64 x1] 92))) := HBr.out.alloc HBr.out.size _
      obtain ⟨W, hW⟩ : ∃ W, W = w1.alloc (.cells #[.string x0, .int .i64 x1] 92) := ⟨_, rfl⟩
      have n0 : W.cell? ⟨w1.heap.size, 0, none⟩ = some (.string x0) := by rw [hW]; simp [go_sem]
      have n1 : W.cell? ⟨w1.heap.size, 1, none⟩ = some (.int .i64 x1) := by rw [hW]; simp [go_sem]
      have hW' := hW.symm
      rw [← hW] at HBs
      have hxx := HQ1.out W HBs.out
      have p0 := (hxx 0 _ rfl).1
      have p1 := (hxx 1 _ rfl).1
      have HBW : Hid (Below w.heap.size w W) := bnext HB.out (Nat.le_refl _) HBs.out
      have hzW : w.heap.size < W.heap.size := Nat.lt_of_lt_of_le HZ.out HBs.out.size
      have hz1 : w.heap.size < w1.heap.size := Nat.lt_of_lt_of_le HZ.out HBr.out.size
      have HXX := hide hxx
      clear hW cK hb1 HBr HX HQ1 hxx z0 z1 z2 z3 z4
      have c1 := isEntryName_any x0 hsz W
      have c2 := within_any x1 1 1000 W
      have c3 := compareMarks_any pT pI x0 x1 W
      cases h1 : inB x0.size 1 40 with
      | false =>
        have HF := hide (HNO.out (by rw [HKE.out, h1]; rfl))
        rw [h1] at c1
        clear c2 c3 HNO HYE HPR HKE h1
        go_wp2_with fail
        refine c1.mono ?_
        rintro e w2 ⟨rfl, rfl⟩
        clear c1
        go_wp2_with fail
        go_ret
        exact ⟨by rw [HF.out]; rfl, HBW.out⟩
      | true =>
        rw [h1] at c1
        cases h2 : inB x1 1 1000 with
        | false =>
          have HF := hide (HNO.out (by rw [HKE.out, h1, h2]; rfl))
          rw [h2] at c2
          clear c3 HNO HYE HPR HKE h1 h2
          go_wp2_with fail
          refine c1.mono ?_
          rintro e w2 ⟨rfl, rfl⟩
          clear c1
          go_wp2_with fail
          refine c2.mono ?_
          rintro e w2 ⟨rfl, rfl⟩
          clear c2
          go_wp2_with fail
          go_ret
          exact ⟨by rw [HF.out]; rfl, HBW.out⟩
        | true =>
          rw [h2] at c2
          have hci := cmpM_iff pT pI x0 x1
          rw [HPR.out h1] at hci
          generalize cmpM pT pI x0 x1 = R at *
          cases h3 : PV with
          | false =>
            have HF := hide (HNO.out (by rw [h3, Bool.and_false]))
            rw [h3] at hci
            have hR : 0 ≤ R := by simpa using hci
            clear HNO HYE HPR HKE h1 h2 h3 hci
            go_wp2_with fail
            refine c1.mono ?_
            rintro e w2 ⟨rfl, rfl⟩
            clear c1
            go_wp2_with fail
            refine c2.mono ?_
            rintro e w2 ⟨rfl, rfl⟩
            clear c2
            go_wp2_with fail
            refine c3.mono ?_
            rintro e w3 ⟨rfl, hb3⟩
            have HB3 := hide (bnext HBW.out (Nat.le_refl _) hb3)
            clear c3 hb3
            go_wp2_with fail
            go_ret
            exact ⟨by rw [HF.out]; rfl, HB3.out⟩
          | true =>
            have HF := hide (HYE.out (by rw [HKE.out, h1, h2, h3]; rfl))
            rw [h3] at hci
            have hR : ¬ 0 ≤ R := by simpa using hci
            clear HNO HYE HPR HKE h1 h2 h3 hci
            go_wp2_with fail
            refine c1.mono ?_
            rintro e w2 ⟨rfl, rfl⟩
            clear c1
            go_wp2_with fail
            refine c2.mono ?_
            rintro e w2 ⟨rfl, rfl⟩
            clear c2
            go_wp2_with fail
            refine c3.mono ?_
            rintro e w3 ⟨rfl, hb3⟩
            have HB3 := hide (bnext HBW.out (Nat.le_refl _) hb3)
            have hx3 := HXX.out.below hb3 hzW
            have o0 := (hx3 0 _ rfl).1
            have o1 := (hx3 1 _ rfl).1
            have f0 := (hx3 0 _ rfl).2
            have f1 := (hx3 1 _ rfl).2
            have m0 : w3.cell? ⟨w1.heap.size, 0, none⟩ = some (.string x0) := (hb3.cell (p := ⟨w1.heap.size, 0, none⟩) (World.block_lt_of_cell? _ _ n0)).trans n0
            have m1 : w3.cell? ⟨w1.heap.size, 1, none⟩ = some (.int .i64 x1) := (hb3.cell (p := ⟨w1.heap.size, 1, none⟩) (World.block_lt_of_cell? _ _ n1)).trans n1
            have HXF := hide ((hx3.set 0 (.string x0)).set 1 (.int .i64 x1))
            have HBF : Hid (Below w.heap.size w ((w3.setCell ⟨w.heap.size, 0, none⟩ (.string x0)).setCell ⟨w.heap.size, 1, none⟩ (.int .i64 x1))) := (HB3.out.setCell (Nat.le_refl _) _).setCell (Nat.le_refl _) _
            have HZF : Hid (w.heap.size < ((w3.setCell ⟨w.heap.size, 0, none⟩ (.string x0)).setCell ⟨w.heap.size, 1, none⟩ (.int .i64 x1)).heap.size) := by show _ < _; have := hb3.size; simp; omega
            clear c3 hb3 hx3 HB3 HXX n0 n1 p0 p1
            go_wp2_with fail
            go_roundw
            case rel => exact ⟨k + 1, by omega, by go_num, HF, by rw [HX1.out.1, HX1.out.2]; exact HXF.out, HBF.out, HZF.out⟩
            case measure => simp [intOf]; omega
    · obtain rfl : k = n := by omega
      have HF : Hid (ordB (fun k => (E k).f0) (fun k => (E k).f1) k = true) := by show _ = _; rw [HOR.out, HG.out]
      clear HOR HG HP HSZ hx
      go_wp2
      go_ret
      exact ⟨by rw [HF.out]; rfl, hb⟩

set_option maxRecDepth 100000 in
set_option maxHeartbeats 2000000 in
theorem inOrderCopy_any (a : Option Addr) (n cap : Nat) (E : Nat → SCopy) (hl : n ≤ 1048576) (hs : ∀ i, i < n → (E i).f0.size ≤ 1048576) (w : World) (h : PxG a (n * 4) (FCopy E) w) :
    Calls Try.prog 58 #[.slice a n cap, .func (.func 59) #[] #[]] w fun e w' => e = .returned (.bool (ordB (fun k => (E k).f0) (fun k => (E k).f1) n)) ∧ Below w.heap.size w w' := by
  by_cases hn : 200 < n
  · have e : ordB (fun k => (E k).f0) (fun k => (E k).f1) n = false := by unfold ordB; rw [decide_eq_false (by omega)]; rfl
    rw [e]
    clear h
    go_enter Try.func58, Try.ntmps58
    go_wp2_with fail
    go_ret
    exact ⟨rfl, Below.refl _ _⟩
  have HOR : Hid (ordB (fun k => (E k).f0) (fun k => (E k).f1) n = allG (fun k => keyB (E k).f0 (E k).f1 && prvB (fun k => (E k).f0) (fun k => (E k).f1) k) n) := by show _ = _; unfold ordB; rw [decide_eq_true (by omega)]; rfl
  have HP := hide h
  have HSZ := hide hs
  clear h hs
  have HX0 : Hid (Bx w.heap.size [.string (preT (fun k => (E k).f0) 0), .int .i64 (preI (fun k => (E k).f1) 0)] (w.alloc (.cells #[.string ⟨#[]⟩, .int .i64 0] 92))) := Bx.new [.string ⟨#[]⟩, .int .i64 0] _ w
  have HB0 : Hid (Below w.heap.size w (w.alloc (.cells #[.string ⟨#[]⟩, .int .i64 0] 92))) := bnew _ _
  have HZ0 : Hid (w.heap.size < (w.alloc (.cells #[.string ⟨#[]⟩, .int .i64 0] 92)).heap.size) := by show _ < _; simp
  go_enter Try.func58, Try.ntmps58
  go_wp2_with fail
  go_loopw [7, 8, 15] (fun _ _ i wr => ∃ k : Nat, k ≤ n ∧ i = .int .i64 k ∧ Hid (allG (fun k => keyB (E k).f0 (E k).f1 && prvB (fun k => (E k).f0) (fun k => (E k).f1) k) k = true) ∧ Bx w.heap.size [.string (preT (fun k => (E k).f0) k), .int .i64 (preI (fun k => (E k).f1) k)] wr ∧ Below w.heap.size w wr ∧ w.heap.size < wr.heap.size) (fun _ _ i _ => n - (intOf i).toNat)
  case atStart => exact ⟨0, by omega, rfl, hide rfl, HX0.out, HB0.out, HZ0.out⟩
  case round =>
    obtain ⟨k, hk, rfl, HG, hx, hb, hz⟩ := hrel
    clear HX0 HB0 HZ0
    by_cases hlt : k < n
    · obtain ⟨b, off, rfl, z0, z1, z2, z3⟩ := (HP.out.below hb).atCopy hlt
      have hsz := HSZ.out k hlt
      have HNO : Hid ((keyB (E k).f0 (E k).f1 && prvB (fun k => (E k).f0) (fun k => (E k).f1) k) = false → ordB (fun k => (E k).f0) (fun k => (E k).f1) n = false) := fun h9 => by rw [HOR.out]; exact allG_no k hlt h9
      have HYE : Hid ((keyB (E k).f0 (E k).f1 && prvB (fun k => (E k).f0) (fun k => (E k).f1) k) = true → allG (fun k => keyB (E k).f0 (E k).f1 && prvB (fun k => (E k).f0) (fun k => (E k).f1) k) (k + 1) = true) := fun h9 => by simp only [allG]; rw [HG.out, h9]; rfl
      have HPR : Hid (inB (E k).f0.size 1 40 = true → lessM (preT (fun k => (E k).f0) k) (preI (fun k => (E k).f1) k) (E k).f0 (E k).f1 = prvB (fun k => (E k).f0) (fun k => (E k).f1) k) := prv_eq (fun k => (E k).f0) (fun k => (E k).f1) k
      have HKE : Hid (keyB (E k).f0 (E k).f1 = (inB (E k).f0.size 1 40 && inB (E k).f1 1 1000)) := rfl
      have HX1 : Hid (preT (fun k => (E k).f0) (k + 1) = (E k).f0 ∧ preI (fun k => (E k).f1) (k + 1) = (E k).f1) := ⟨rfl, rfl⟩
      have HX := hide hx
      have HB := hide hb
      have HZ := hide hz
      generalize prvB (fun k => (E k).f0) (fun k => (E k).f1) k = PV at *
      generalize preT (fun k => (E k).f0) k = pT at *
      generalize preI (fun k => (E k).f1) k = pI at *
      clear hx hb hz HG HP HSZ HOR
      generalize (E k).f0 = x0 at *
      generalize (E k).f1 = x1 at *
      generalize (E k).f2 = x2 at *
      generalize (E k).f3 = x3 at *
      have cK := markOfCopy_any x0 x1 x2 x3
      have HQ1 : Hid (∀ wz, Below wr.heap.size wr wz → Bx w.heap.size [.string pT, .int .i64 pI] wz) := fun wz h9 => HX.out.below h9 HZ.out
      go_upto_region 7 with fail
      go_wp2_with fail
      refine (cK _).mono ?_
      rintro e w1 ⟨rfl, hb1⟩
      have HBr : Hid (Below wr.heap.size wr w1) := bnext (bnew wr (.cells #[.string x0, .int .i64 x1, .string x2, .int .i64 x3] 44)) (Nat.le_refl _) hb1
      have HBs : Hid (Below wr.heap.size wr (w1.alloc (.cells #[.string x0, .int .i64 x1] 92))) := HBr.out.alloc HBr.out.size _
      obtain ⟨W, hW⟩ : ∃ W, W = w1.alloc (.cells #[.string x0, .int .i64 x1] 92) := ⟨_, rfl⟩
      have n0 : W.cell? ⟨w1.heap.size, 0, none⟩ = some (.string x0) := by rw [hW]; simp [go_sem]
      have n1 : W.cell? ⟨w1.heap.size, 1, none⟩ = some (.int .i64 x1) := by rw [hW]; simp [go_sem]
      have hW' := hW.symm
      rw [← hW] at HBs
      have hxx := HQ1.out W HBs.out
      have p0 := (hxx 0 _ rfl).1
      have p1 := (hxx 1 _ rfl).1
      have HBW : Hid (Below w.heap.size w W) := bnext HB.out (Nat.le_refl _) HBs.out
      have hzW : w.heap.size < W.heap.size := Nat.lt_of_lt_of_le HZ.out HBs.out.size
      have hz1 : w.heap.size < w1.heap.size := Nat.lt_of_lt_of_le HZ.out HBr.out.size
      have HXX := hide hxx
      clear hW cK hb1 HBr HX HQ1 hxx z0 z1 z2 z3
      have c1 := isEntryName_any x0 hsz W
      have c2 := within_any x1 1 1000 W
      have c3 := compareMarks_any pT pI x0 x1 W
      cases h1 : inB x0.size 1 40 with
      | false =>
        have HF := hide (HNO.out (by rw [HKE.out, h1]; rfl))
        rw [h1] at c1
        clear c2 c3 HNO HYE HPR HKE h1
        go_wp2_with fail
        refine c1.mono ?_
        rintro e w2 ⟨rfl, rfl⟩
        clear c1
        go_wp2_with fail
        go_ret
        exact ⟨by rw [HF.out]; rfl, HBW.out⟩
      | true =>
        rw [h1] at c1
        cases h2 : inB x1 1 1000 with
        | false =>
          have HF := hide (HNO.out (by rw [HKE.out, h1, h2]; rfl))
          rw [h2] at c2
          clear c3 HNO HYE HPR HKE h1 h2
          go_wp2_with fail
          refine c1.mono ?_
          rintro e w2 ⟨rfl, rfl⟩
          clear c1
          go_wp2_with fail
          refine c2.mono ?_
          rintro e w2 ⟨rfl, rfl⟩
          clear c2
          go_wp2_with fail
          go_ret
          exact ⟨by rw [HF.out]; rfl, HBW.out⟩
        | true =>
          rw [h2] at c2
          have hci := cmpM_iff pT pI x0 x1
          rw [HPR.out h1] at hci
          generalize cmpM pT pI x0 x1 = R at *
          cases h3 : PV with
          | false =>
            have HF := hide (HNO.out (by rw [h3, Bool.and_false]))
            rw [h3] at hci
            have hR : 0 ≤ R := by simpa using hci
            clear HNO HYE HPR HKE h1 h2 h3 hci
            go_wp2_with fail
            refine c1.mono ?_
            rintro e w2 ⟨rfl, rfl⟩
            clear c1
            go_wp2_with fail
            refine c2.mono ?_
            rintro e w2 ⟨rfl, rfl⟩
            clear c2
            go_wp2_with fail
            refine c3.mono ?_
            rintro e w3 ⟨rfl, hb3⟩
            have HB3 := hide (bnext HBW.out (Nat.le_refl _) hb3)
            clear c3 hb3
            go_wp2_with fail
            go_ret
            exact ⟨by rw [HF.out]; rfl, HB3.out⟩
          | true =>
            have HF := hide (HYE.out (by rw [HKE.out, h1, h2, h3]; rfl))
            rw [h3] at hci
            have hR : ¬ 0 ≤ R := by simpa using hci
            clear HNO HYE HPR HKE h1 h2 h3 hci
            go_wp2_with fail
            refine c1.mono ?_
            rintro e w2 ⟨rfl, rfl⟩
            clear c1
            go_wp2_with fail
            refine c2.mono ?_
            rintro e w2 ⟨rfl, rfl⟩
            clear c2
            go_wp2_with fail
            refine c3.mono ?_
            rintro e w3 ⟨rfl, hb3⟩
            have HB3 := hide (bnext HBW.out (Nat.le_refl _) hb3)
            have hx3 := HXX.out.below hb3 hzW
            have o0 := (hx3 0 _ rfl).1
            have o1 := (hx3 1 _ rfl).1
            have f0 := (hx3 0 _ rfl).2
            have f1 := (hx3 1 _ rfl).2
            have m0 : w3.cell? ⟨w1.heap.size, 0, none⟩ = some (.string x0) := (hb3.cell (p := ⟨w1.heap.size, 0, none⟩) (World.block_lt_of_cell? _ _ n0)).trans n0
            have m1 : w3.cell? ⟨w1.heap.size, 1, none⟩ = some (.int .i64 x1) := (hb3.cell (p := ⟨w1.heap.size, 1, none⟩) (World.block_lt_of_cell? _ _ n1)).trans n1
            have HXF := hide ((hx3.set 0 (.string x0)).set 1 (.int .i64 x1))
            have HBF : Hid (Below w.heap.size w ((w3.setCell ⟨w.heap.size, 0, none⟩ (.string x0)).setCell ⟨w.heap.size, 1, none⟩ (.int .i64 x1))) := (HB3.out.setCell (Nat.le_refl _) _).setCell (Nat.le_refl _) _
            have HZF : Hid (w.heap.size < ((w3.setCell ⟨w.heap.size, 0, none⟩ (.string x0)).setCell ⟨w.heap.size, 1, none⟩ (.int .i64 x1)).heap.size) := by show _ < _; have := hb3.size; simp; omega
            clear c3 hb3 hx3 HB3 HXX n0 n1 p0 p1
            go_wp2_with fail
            go_roundw
            case rel => exact ⟨k + 1, by omega, by go_num, HF, by rw [HX1.out.1, HX1.out.2]; exact HXF.out, HBF.out, HZF.out⟩
            case measure => simp [intOf]; omega
    · obtain rfl : k = n := by omega
      have HF : Hid (ordB (fun k => (E k).f0) (fun k => (E k).f1) k = true) := by show _ = _; rw [HOR.out, HG.out]
      clear HOR HG HP HSZ hx
      go_wp2
      go_ret
      exact ⟨by rw [HF.out]; rfl, hb⟩

end Go.Proofs.Ytcdpnofjahdieaa

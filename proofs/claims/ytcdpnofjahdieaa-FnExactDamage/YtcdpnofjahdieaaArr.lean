/- Archives: is it an index, a shelf: the program. -/
import Derived.Test.YtcdpnofjahdieaaArq
namespace Go.Proofs.Ytcdpnofjahdieaa
open Go.RowKit

set_option maxRecDepth 100000 in
set_option maxHeartbeats 2000000 in
theorem isIndex_any (a : Option Addr) (n cap : Nat) (E : Nat → SEntry) (hl : n ≤ 1048576) (hs : ∀ i, i < n → eEntry E i ≤ 1048576) (w : World) (h : PxG a (n * 5) (FEntry E) w) :
    Calls Try.prog 43 #[.slice a n cap] w fun e w' => e = .returned (.bool (idxB E n)) ∧ Below w.heap.size w w' := by
  have c0 := inOrderEntry_any a n cap E hl (fun i hi => by have := hs i hi; unfold eEntry at this; omega) w h
  have HP := hide h
  have HSZ := hide hs
  clear h hs
  cases hO : ordB (fun k => (E k).f0) (fun k => (E k).f1) n with
  | false =>
    have HF : Hid (idxB E n = false) := by show _ = _; unfold idxB; rw [hO]; rfl
    rw [hO] at c0
    clear HP HSZ hO
    go_enter Try.func43, Try.ntmps43
    go_wp2_with fail
    refine c0.mono ?_
    rintro e w1 ⟨rfl, hb1⟩
    have HB1 := hide hb1
    clear c0 hb1
    go_wp2_with fail
    go_ret
    exact ⟨by rw [HF.out]; rfl, HB1.out⟩
  | true =>
    have HOR : Hid (idxB E n = allG (fun k => sumB (E k).f2 && inB (E k).f3 1 2 && inB (E k).f4 0 8) n) := by show _ = _; unfold idxB; rw [hO]; rfl
    rw [hO] at c0
    clear hO
    go_enter Try.func43, Try.ntmps43
    go_wp2_with fail
    refine c0.mono ?_
    rintro e w1 ⟨rfl, hb1⟩
    have HB1 := hide hb1
    clear c0 hb1
    go_wp2_with fail
    go_loopw [4, 10] (fun _ i wr => ∃ k : Nat, k ≤ n ∧ i = .int .i64 k ∧ Hid (allG (fun k => sumB (E k).f2 && inB (E k).f3 1 2 && inB (E k).f4 0 8) k = true) ∧ Below w.heap.size w wr) (fun _ i _ => n - (intOf i).toNat)
    case atStart => exact ⟨0, by omega, rfl, hide rfl, HB1.out⟩
    case round =>
      obtain ⟨k, hk, rfl, HG, hb⟩ := hrel
      clear HB1
      by_cases hlt : k < n
      · obtain ⟨b, off, rfl, z0, z1, z2, z3, z4⟩ := (HP.out.below hb).atEntry hlt
        have hsz := HSZ.out k hlt
        unfold eEntry at hsz
        have HNO : Hid ((sumB (E k).f2 && inB (E k).f3 1 2 && inB (E k).f4 0 8) = false → idxB E n = false) := fun h9 => by rw [HOR.out]; exact allG_no k hlt h9
        have HYE : Hid ((sumB (E k).f2 && inB (E k).f3 1 2 && inB (E k).f4 0 8) = true → allG (fun k => sumB (E k).f2 && inB (E k).f3 1 2 && inB (E k).f4 0 8) (k + 1) = true) := fun h9 => by simp only [allG]; rw [HG.out, h9]; rfl
        have HB : Hid (Below w.heap.size w (wr.alloc (.cells #[.string (E k).f0, .int .i64 (E k).f1, .int .i64 (E k).f2, .int .i64 (E k).f3, .int .i64 (E k).f4] 64))) := hb.alloc hb.size _
        clear hb HG HP HSZ HOR
        generalize (E k).f0 = x0 at *
        generalize (E k).f1 = x1 at *
        generalize (E k).f2 = x2 at *
        generalize (E k).f3 = x3 at *
        generalize (E k).f4 = x4 at *
        obtain ⟨W, hW⟩ : ∃ W, W = wr.alloc (.cells #[.string x0, .int .i64 x1, .int .i64 x2, .int .i64 x3, .int .i64 x4] 64) := ⟨_, rfl⟩
        have n0 : W.cell? ⟨wr.heap.size, 0, none⟩ = some (.string x0) := by rw [hW]; simp [go_sem]
        have n1 : W.cell? ⟨wr.heap.size, 1, none⟩ = some (.int .i64 x1) := by rw [hW]; simp [go_sem]
        have n2 : W.cell? ⟨wr.heap.size, 2, none⟩ = some (.int .i64 x2) := by rw [hW]; simp [go_sem]
        have n3 : W.cell? ⟨wr.heap.size, 3, none⟩ = some (.int .i64 x3) := by rw [hW]; simp [go_sem]
        have n4 : W.cell? ⟨wr.heap.size, 4, none⟩ = some (.int .i64 x4) := by rw [hW]; simp [go_sem]
        have hW' := hW.symm
        rw [← hW] at HB
        clear hW
        have c1 := isSum_any x2 W
        have c2 := within_any x3 1 2 W
        have c3 := within_any x4 0 8 W
        cases h1 : sumB x2 with
        | false =>
          have HF := hide (HNO.out (by rw [h1]; simp))
          rw [h1] at c1
          clear HNO HYE h1 c2 c3
          go_wp2_with fail
          refine c1.mono ?_
          rintro e w2 ⟨rfl, rfl⟩
          clear c1
          go_wp2_with fail
          go_ret
          exact ⟨by rw [HF.out]; rfl, HB.out⟩
        | true =>
          rw [h1] at c1
          cases h2 : inB x3 1 2 with
          | false =>
            have HF := hide (HNO.out (by rw [h1, h2]; simp))
            rw [h2] at c2
            clear HNO HYE h1 h2 c3
            go_wp2_with fail
            refine c1.mono ?_
            rintro e w2 ⟨rfl, rfl⟩
            clear c1
            go_wp2_with fail
            refine c2.mono ?_
            rintro e w2 ⟨rfl, rfl⟩
            clear c2
            go_wp2_with fail
            go_ret
            exact ⟨by rw [HF.out]; rfl, HB.out⟩
          | true =>
            rw [h2] at c2
            cases h3 : inB x4 0 8 with
            | false =>
              have HF := hide (HNO.out (by rw [h1, h2, h3]; rfl))
              rw [h3] at c3
              clear HNO HYE h1 h2 h3 
              go_wp2_with fail
              refine c1.mono ?_
              rintro e w2 ⟨rfl, rfl⟩
              clear c1
              go_wp2_with fail
              refine c2.mono ?_
              rintro e w2 ⟨rfl, rfl⟩
              clear c2
              go_wp2_with fail
              refine c3.mono ?_
              rintro e w2 ⟨rfl, rfl⟩
              clear c3
              go_wp2_with fail
              go_ret
              exact ⟨by rw [HF.out]; rfl, HB.out⟩
            | true =>
              rw [h3] at c3
              have HF := hide (HYE.out (by rw [h1, h2, h3]; rfl))
              clear HNO HYE h1 h2 h3
              go_wp2_with fail
              refine c1.mono ?_
              rintro e w2 ⟨rfl, rfl⟩
              clear c1
              go_wp2_with fail
              refine c2.mono ?_
              rintro e w2 ⟨rfl, rfl⟩
              clear c2
              go_wp2_with fail
              refine c3.mono ?_
              rintro e w2 ⟨rfl, rfl⟩
              clear c3
              go_wp2_with fail
              go_roundw
              case rel => exact ⟨k + 1, by omega, by go_num, HF, HB.out⟩
              case measure => simp [intOf]; omega
      · obtain rfl : k = n := by omega
        have HF : Hid (idxB E k = true) := by show _ = _; rw [HOR.out, HG.out]
        clear HOR HG HP HSZ
        go_wp2
        go_ret
        exact ⟨by rw [HF.out]; rfl, hb⟩

set_option maxRecDepth 100000 in
set_option maxHeartbeats 2000000 in
theorem isShelf_any (a : Option Addr) (n cap : Nat) (E : Nat → SCopy) (hl : n ≤ 1048576) (hs : ∀ i, i < n → eCopy E i ≤ 1048576) (w : World) (h : PxG a (n * 4) (FCopy E) w) :
    Calls Try.prog 44 #[.slice a n cap] w fun e w' => e = .returned (.bool (shfB E n)) ∧ Below w.heap.size w w' := by
  have c0 := inOrderCopy_any a n cap E hl (fun i hi => by have := hs i hi; unfold eCopy at this; omega) w h
  have HP := hide h
  have HSZ := hide hs
  clear h hs
  cases hO : ordB (fun k => (E k).f0) (fun k => (E k).f1) n with
  | false =>
    have HF : Hid (shfB E n = false) := by show _ = _; unfold shfB; rw [hO]; rfl
    rw [hO] at c0
    clear HP HSZ hO
    go_enter Try.func44, Try.ntmps44
    go_wp2_with fail
    refine c0.mono ?_
    rintro e w1 ⟨rfl, hb1⟩
    have HB1 := hide hb1
    clear c0 hb1
    go_wp2_with fail
    go_ret
    exact ⟨by rw [HF.out]; rfl, HB1.out⟩
  | true =>
    have HOR : Hid (shfB E n = allG (fun k => sumB (E k).f3 && decide ((E k).f2.size ≤ 2048)) n) := by show _ = _; unfold shfB; rw [hO]; rfl
    rw [hO] at c0
    clear hO
    go_enter Try.func44, Try.ntmps44
    go_wp2_with fail
    refine c0.mono ?_
    rintro e w1 ⟨rfl, hb1⟩
    have HB1 := hide hb1
    clear c0 hb1
    go_wp2_with fail
    go_loopw [4, 10] (fun _ i wr => ∃ k : Nat, k ≤ n ∧ i = .int .i64 k ∧ Hid (allG (fun k => sumB (E k).f3 && decide ((E k).f2.size ≤ 2048)) k = true) ∧ Below w.heap.size w wr) (fun _ i _ => n - (intOf i).toNat)
    case atStart => exact ⟨0, by omega, rfl, hide rfl, HB1.out⟩
    case round =>
      obtain ⟨k, hk, rfl, HG, hb⟩ := hrel
      clear HB1
      by_cases hlt : k < n
      · obtain ⟨b, off, rfl, z0, z1, z2, z3⟩ := (HP.out.below hb).atCopy hlt
        have hsz := HSZ.out k hlt
        unfold eCopy at hsz
        have HNO : Hid ((sumB (E k).f3 && decide ((E k).f2.size ≤ 2048)) = false → shfB E n = false) := fun h9 => by rw [HOR.out]; exact allG_no k hlt h9
        have HYE : Hid ((sumB (E k).f3 && decide ((E k).f2.size ≤ 2048)) = true → allG (fun k => sumB (E k).f3 && decide ((E k).f2.size ≤ 2048)) (k + 1) = true) := fun h9 => by simp only [allG]; rw [HG.out, h9]; rfl
        have HB : Hid (Below w.heap.size w (wr.alloc (.cells #[.string (E k).f0, .int .i64 (E k).f1, .string (E k).f2, .int .i64 (E k).f3] 44))) := hb.alloc hb.size _
        clear hb HG HP HSZ HOR
        generalize (E k).f0 = x0 at *
        generalize (E k).f1 = x1 at *
        generalize (E k).f2 = x2 at *
        generalize (E k).f3 = x3 at *
        obtain ⟨W, hW⟩ : ∃ W, W = wr.alloc (.cells #[.string x0, .int .i64 x1, .string x2, .int .i64 x3] 44) := ⟨_, rfl⟩
        have n0 : W.cell? ⟨wr.heap.size, 0, none⟩ = some (.string x0) := by rw [hW]; simp [go_sem]
        have n1 : W.cell? ⟨wr.heap.size, 1, none⟩ = some (.int .i64 x1) := by rw [hW]; simp [go_sem]
        have n2 : W.cell? ⟨wr.heap.size, 2, none⟩ = some (.string x2) := by rw [hW]; simp [go_sem]
        have n3 : W.cell? ⟨wr.heap.size, 3, none⟩ = some (.int .i64 x3) := by rw [hW]; simp [go_sem]
        have hW' := hW.symm
        rw [← hW] at HB
        clear hW
        have c1 := isSum_any x3 W
        cases h1 : sumB x3 with
        | false =>
          have HF := hide (HNO.out (by rw [h1]; simp))
          rw [h1] at c1
          clear HNO HYE h1 
          go_wp2_with fail
          refine c1.mono ?_
          rintro e w2 ⟨rfl, rfl⟩
          clear c1
          go_wp2_with fail
          go_ret
          exact ⟨by rw [HF.out]; rfl, HB.out⟩
        | true =>
          rw [h1] at c1
          cases h2 : decide (x2.size ≤ 2048) with
          | false =>
            have HF := hide (HNO.out (by rw [h1, h2]; rfl))
            have hq : (2048 : Int) < (x2.size : Int) := by simp at h2; omega
            clear HNO HYE h1 h2 
            go_wp2_with fail
            refine c1.mono ?_
            rintro e w2 ⟨rfl, rfl⟩
            clear c1
            go_wp2_with fail
            go_wp2_with fail
            go_ret
            exact ⟨by rw [HF.out]; rfl, HB.out⟩
          | true =>
            have hq : ¬ (2048 : Int) < (x2.size : Int) := by simp at h2; omega
            have HF := hide (HYE.out (by rw [h1, h2]; rfl))
            clear HNO HYE h1 h2
            go_wp2_with fail
            refine c1.mono ?_
            rintro e w2 ⟨rfl, rfl⟩
            clear c1
            go_wp2_with fail
            go_wp2_with fail
            go_roundw
            case rel => exact ⟨k + 1, by omega, by go_num, HF, HB.out⟩
            case measure => simp [intOf]; omega
      · obtain rfl : k = n := by omega
        have HF : Hid (shfB E k = true) := by show _ = _; rw [HOR.out, HG.out]
        clear HOR HG HP HSZ
        go_wp2
        go_ret
        exact ⟨by rw [HF.out]; rfl, hb⟩

end Go.Proofs.Ytcdpnofjahdieaa
